/-
 coord: its methods.
-/
import Derived.Test.YtbkagebjhbphaaaGreatCoW
namespace Go.Proofs.YtbkagebjhbphaaaGreat
open Int renaming toNat→D2
open IntKind renaming i64→C7
open List renaming drop→r6,flatMap→q6,map→s8,mem_flatMap→P2,mem_of_getElem?→E0,not_mem_nil→B3
open Ll renaming mk→E4
open _root_.Go.Proofs.Tryz renaming call12→T4,call22→S5,call29→T1,call54→S8,call55→T0,call65→O5,func12→T5,func22→S6,func29→T2,isAgg24→O2,isAgg28→E1,isAgg29→T3,isAgg3→C6,isAgg33→S7,isAgg42→M4,isAgg45→S9,isAgg47→S4,isAgg84→T6,prog→y4,sizeOf33→H8,sizeOf42→M5,sizeOf47→S3,underlying134→N3,underlying5→S2,underlying9→B5
open WL renaming nil→D0
open Wp renaming exit→D1,loop→C5
set_option maxRecDepth 100000
open Go.RowKit
set_option linter.unusedVariables false
set_option linter.unusedSectionVars false
set_option linter.unusedSimpArgs false
def bytes_Equal (l0:List UInt8) (l1:List UInt8):Bool:=
 decide (l0=l1)
theorem qZ (w D h a k l0 i b m l1 j) (H:Own w D w []) (c:Ro w D fun w'=>bA w' 1 h a (q6 eB l0)) (d:a=l0.length) (n:l0.length *1≤211106232532992) (e:Ro w D fun w'=>bA w' 1 i b (q6 eB l1)) (f:b=l1.length) (o:l1.length *1≤211106232532992) (hr:bytes_Equal l0 l1=j):
    Calls y4 55 #[.slice h a k, .slice i b m] w (dR fun v w'=>v= .bool j∧Own w D w' []):=by
 subst d f
 refine cb Tryz.func55 ?_
 refine sr (Ar rfl (Mz rfl (fw (.string ⟨List.toArray l0⟩) (Ie (l:=l0) N3 S2 B5 (H.ro c) rfl) (Mz rfl (fw (.string ⟨List.toArray l1⟩) (Ie (l:=l1) N3 S2 B5 (H.ro e) rfl) (fw (.bool (decide (l0=l1))) (Ij rfl rfl) (An rfl (rt (rs ?_)))))))))
 have g:=H.pk []
 obtain rfl:_=decide (l0=l1):=hr.symm.trans rfl
 exact⟨rfl,g⟩
def eF (c:aB) (d:bM):jW × Int × aB:=
 if d.aH≤10 then bnd (mf d) fun k=>if k=0 then if d.eP=0 then if d.aH > c.aa.av then(jW.mk (E4 ([])) false,180,c) else bnd (eD c.aa) fun l=>bnd (iG (bE.mk (E4 ([]))) d c) fun a=>bnd (eD a.2.aa) fun e=>bnd (bytes_Equal l.1 e.1) fun f=>(jW.mk (E4 a.1.bq.ls) (!f),0,a.2) else(jW.mk (E4 ([])) false,180,c) else(jW.mk (E4 ([])) false,180,c) else bnd (mf d) fun g=>if g=0 then if d.eP=0 then bnd (eD c.aa) fun h=>bnd (iG (bE.mk (E4 ([]))) d c) fun b=>bnd (eD b.2.aa) fun i=>bnd (bytes_Equal h.1 i.1) fun j=>(jW.mk (E4 b.1.bq.ls) (!j),0,b.2) else(jW.mk (E4 ([])) false,180,c) else(jW.mk (E4 ([])) false,180,c)
set_option maxHeartbeats 4000000 in
theorem jK (w D z) (f:aB) (a:bM) (l dB g n dC h P p dD j) (r0:jW) (r1) (r2:aB) (H:Own w D w [iE z f]) (fH:dB=a.aF.ls.length) (av:Ro w D fun w'=>bA w' 6 l a.aF.ls.length (q6 bv.cells a.aF.ls)) (ky:a.aF.ls.length≤g∧a.aF.ls.length≤9223372036854775807) (Q:s8 ae.abs P=a.ah.ls) (fI:dC=a.ah.ls.length) (ay:Ro w D fun w'=>bA w' 3 n a.ah.ls.length (q6 ae.cells P)) (kz:a.ah.ls.length≤h∧a.ah.ls.length≤9223372036854775807) (u:∀ x ∈ P,Ro w D (fun w'=>bA w' 2 x.aj.A x.aj.ls.length (q6 aI.cells x.aj.ls))∧(x.aj.ls.length≤x.aj.c∧x.aj.ls.length≤9223372036854775807)) (fJ:dD=a.ag.ls.length) (aA:Ro w D fun w'=>bA w' 2 p a.ag.ls.length (q6 aW.cells a.ag.ls)) (kD:a.ag.ls.length≤j∧a.ag.ls.length≤9223372036854775807) (nQ:f.aa.ag.ls.length≤1000∧f.au.ls.length+f.aa.ak.ls.length≤8∧f.aa.aJ.ls.length≤900∧jZ a.aO∧a.aF.ls.length≤140737488355328∧a.ah.ls.length≤140737488355328∧a.ag.ls.length≤140737488355328) (nR:Mk f) (hr:eF f a=(r0,r1,r2)):
    Calls y4 13 #[vP z 0, .agg (gD a.aG a.aH a.eP a.aN a.cZ a.eu a.aO a.ay a.aU a.dW a.aX a.aL a.dH a.bZ a.xN a.d9 a.bT.bG a.bT.bU l dB g n dC h p dD j).toArray] w (dR fun v w'=> ∃ dG dH bg,v= .tuple #[.agg #[.slice dG r0.eO.ls.length dH, .bool r0.iQ],vI r1]∧Own w D w' [row dG r0.eO.ls.length dH (q6 bC.cells bg) 42 21,sepL (q6 bC.own bg),iE z r2]∧(s8 bC.abs bg=r0.eO.ls)∧(r2.aa.ag.ls.length=f.aa.ag.ls.length∧r2.aa.av=f.aa.av∧r2.au.ls.length+r2.aa.ak.ls.length≤8∧r2.aa.aJ.ls.length≤f.aa.aJ.ls.length+1)∧(Mk r2)):=by
 subst fH fI fJ
 have kw:=az Q
 refine cb Tryz.func13 ?_
 refine sr ?_
 refine dM (gT a l g n h p j) 42 H ?_
 intro G nS kE
 refine dM [.slice none 0 0, .bool false] 47 kE ?_
 intro aM nT kF
 refine An rfl (FW ?_)
 have kG:=kF.pf [2]
 obtain⟨dn,aX,dw,aZ,iq,dx,bf,iw,nU,nV,nW,nX,nY,nZ,og,oh,ol,om,oo,oq,ou,ow,oz,oC,oD,oF,B,C,R,S,T,U,V,W,lJ,kH⟩:=ji kG
 refine oL 20 [] (Gb Gj) kH ?_
 intro oG dz
 refine qp G 1 0 rfl (ql 1 rfl 19 C6 rfl rfl rfl (qk (.bool (decide (a.aH≤10))) 2 rfl (qv 3 rfl rfl ?_)))
 by_cases r:a.aH≤10
 refine F8 (v:=vP G 1) (rs:= []) 4 rfl rfl rfl (dT r) e7 (fun _ _=>yk) (F8 (v:=vI a.aH) (rs:= []) 5 rfl rfl rfl (dT r) e7 (fun _ ⟨_,H9⟩=>F7 rfl (bX.one C6 (jL.of (H9.cls (i:=19) rfl) rfl))) (F8 (v:=vP z 0) (rs:= []) 6 rfl rfl rfl (dT r) e7 (fun _ _=>F9 rfl) (F8 (v:=vP z 0) (rs:= []) 7 rfl rfl rfl (dT r) e7 (fun _ _=>yk) (F8 (v:=vP z 0) (rs:= []) 8 rfl rfl rfl (dT r) e7 (fun _ _=>yk) (F8 (v:=vP z 0) (rs:= []) 9 rfl rfl rfl (dT r) e7 (fun _ _=>yk) (F8 (v:=vI f.aa.av) (rs:= []) 10 rfl rfl rfl (dT r) e7 (fun _ ⟨_,H9⟩=>F7 rfl (bX.one C6 (jL.of (H9.cls (i:=0) rfl) rfl))) (F8 (v:= .bool (decide (a.aH > f.aa.av))) (rs:= []) 11 rfl rfl rfl (dT r) e7 (fun _ _=>yk) (qt (v:= .bool (decide (a.aH > f.aa.av))) 12 rfl (fun _ _=>Gd rfl (dT r) rfl) (qa 13 rfl rfl (qn (FY (FW (sr (La (gT a l g n h p j) dz 19 M4 M5 ?_))))))))))))))
 obtain⟨bi,ag⟩:∃ q,mf a=q:=⟨_,rfl⟩
 obtain⟨oH,iy,aR,iA,lK⟩:=F3 dz
 refine cl Tryz.call21 (uT _ _ a l a.aF.ls.length g n a.ah.ls.length h P p a.ag.ls.length j bi iy rfl (aR _ av) (show a.aF.ls.length≤g∧a.aF.ls.length≤9223372036854775807 from by omega) Q rfl (aR _ ay) (show a.ah.ls.length≤h∧a.ah.ls.length≤9223372036854775807 from by omega) (fun s t=>⟨aR _ (u s t).1,(u s t).2⟩) rfl (aR _ aA) (show a.ag.ls.length≤j∧a.ag.ls.length≤9223372036854775807 from by omega) i3 ag) ?_
 rintro _ oI ⟨rfl,iB⟩
 have bn:=iA _ _ iB
 have lL: ¬ (bi=0)∨(a.aF.ls.length≤24∧a.ag.ls.length≤1000∧a.ah.ls.length≤1000∧(¬ (a.aG=1)∨11≤a.aH∧a.aH≤14)∧(¬ (a.aG=9)∨1≤a.aH∧a.aH≤4)):=CE ag
 refine fw (.bool (decide (¬ (bi=0)))) (Gm (e:= !(decide (bi=0))) yk decide_not.symm) (Mz rfl ?_)
 by_cases O:bi=0
 refine gw (vP G 2) (dF (JR O)) yk (gw (vI a.eP) (dF (JR O)) (F7 rfl (bX.one C6 (jL.of (bn.cls (i:=19) rfl) rfl))) (gw (.bool (decide (¬ (a.eP=0)))) (dF (JR O)) (Gm (e:= !(decide (a.eP=0))) yk decide_not.symm) (fw (.bool (decide (¬ (a.eP=0)))) (FZ rfl (dF (JR O)) rfl) (Mz rfl ?_))))
 by_cases aN:a.eP=0
 refine gw (.bool (decide (a.aH > f.aa.av))) (dF (JR aN)) (F9 rfl) (fw (.bool (decide (a.aH > f.aa.av))) (FZ rfl (dF (JR aN)) rfl) (nt ?_))
 by_cases dA:a.aH > f.aa.av
 refine jT (dT dA) (sr (Kz (.agg #[.slice none 0 0, .bool false]) ?_))
 have kJ:=bn.pf [18]
 refine dN [.slice none 0 0, .bool false] 0 kJ S3 ?_
 intro iC iD
 refine An rfl (rt (tR (Fin.res (kC (vs:= [.agg #[.slice none 0 0, .bool false],vI 180]) rfl (dS.cell rfl (Gf (cs:= [.slice none 0 0, .bool false]) S4 S3 ((iD.cls (i:=0) rfl).lit (k:=0) (m:=2) rfl)) (dS.tmp rfl dS.nil)) (JO rfl)) ?_)))
 have kK:=iD.pb [0,19]
 have kL:=fA B C R S T U V W kK
 have kM:Own w D iC [sepL (q6 bC.own ([])),iE z f,blk aM [.slice none 0 0, .bool false] 47,blk G (gT a l g n h p j) 42]:=kL.sepNil
 have kN:Own w D iC (row none 0 0 (q6 bC.cells ([])) 42 21::_):=kM.free (fB 42 21)
 have kP:=kN.pk [0,1,2]
 obtain⟨rfl,rfl,rfl⟩:=zw (hr.symm.trans (show _=(jW.mk (E4 ([])) false,180,f) from et (ip r) (et (ai ag) (et (ip O) (et (ip aN) (ip dA))))))
 exact⟨none,0, [],rfl,kP,rfl,i1,f4⟩
 refine jF (dF dA) (sk (sr (Mz rfl (Kz (.func (.func 23) #[] #[vP G 0]) ?_))))
 refine WL.do rfl (Gg S5 rfl ?_ (fun _ _ k=>k))
 refine cb S6 ?_
 refine sr ?_
 refine dM [.slice none 0 0, .bool false] 47 bn ?_
 intro kQ oJ bq
 refine ns (Mz rfl (Kz (vP z 0) (Kz (vP z 0) (La ([vI f.aa.av,vU f.aa.ay,vU f.aa.aX,vU f.aa.aL, .slice dn f.aa.ag.ls.length aX, .slice dw f.aa.ak.ls.length aZ, .slice dx f.aa.aJ.ls.length bf]) bq 1 S7 H8 ?_))))
 obtain⟨⟨aG,iF⟩,dI⟩:∃ q:(List UInt8) × Int,eD f.aa=q:=⟨_,rfl⟩
 obtain⟨oK,iH,lM,iI,ah⟩:=F3 bq
 refine cl S8 (kg _ _ f.aa dn f.aa.ag.ls.length aX dw f.aa.ak.ls.length aZ iq dx f.aa.aJ.ls.length bf iw aG iF iH rfl (ah _ 2 _ rfl aP) (show f.aa.ag.ls.length≤aX∧f.aa.ag.ls.length≤9223372036854775807 from by omega) B rfl (ah _ 3 _ rfl aP) (show f.aa.ak.ls.length≤aZ∧f.aa.ak.ls.length≤9223372036854775807 from by omega) (fun s t=>⟨ah _ 4 _ rfl (ax (P2.2 ⟨s,t,b1⟩) aP),aY (φ:=fun _=>_) bq (i:=4) rfl (ax (P2.2 ⟨s,t,b1⟩) aV)⟩) C rfl (ah _ 5 _ rfl aP) (show f.aa.aJ.ls.length≤bf∧f.aa.aJ.ls.length≤9223372036854775807 from by omega) (fun s t=>⟨ah _ 6 _ rfl (ax (P2.2 ⟨s,t,b1⟩) aP),aY (φ:=fun _=>_) bq (i:=6) rfl (ax (P2.2 ⟨s,t,b1⟩) aV),(fun y1 k1=>⟨ah _ 6 _ rfl (ax (P2.2 ⟨s,t, .tail _ b1⟩) (ax (P2.2 ⟨y1,k1,b1⟩) aP)),aY (φ:=fun _=>_) bq (i:=6) rfl (ax (P2.2 ⟨s,t, .tail _ b1⟩) (ax (P2.2 ⟨y1,k1,b1⟩) aV))⟩)⟩) e8 i4 dI) ?_
 rintro _ lN ⟨bB,bD,rfl,fK,bF⟩
 have dJ:=iI _ _ fK
 have kR:=dJ.rowC (i:=0) rfl
 replace bF:aG.length≤100000:=bF
 refine Mz rfl (Kz (.slice bB aG.length bD) (Kz (vI iF) (Az rfl (Ar rfl (Mz rfl (Kz (.agg #[vP z 0, .slice none 0 0]) ?_))))))
 refine dM [vP z 0, .slice none 0 0] 98 dJ ?_
 intro aS dK dL
 refine Ar rfl (Mz rfl (Mz rfl ?_))
 refine WL.do rfl (Gr Tryz.call23 rfl rfl ?_ (fun _ _ k=>k))
 refine cb Tryz.func23 ?_
 refine FV (Mz rfl (La (gT a l g n h p j) dL 22 M4 M5 ?_))
 have iJ:=dL.pb [0,1,2,21,22]
 have iK:=fA B C R S T U V W iJ
 have iL:Own w D dK [sepL (q6 bC.own ([])),iE z f,blk aS [vP z 0, .slice none 0 0] 98,row bB aG.length bD (q6 eB aG) 5 1,blk kQ [.slice none 0 0, .bool false] 47,blk aM [.slice none 0 0, .bool false] 47,blk G (gT a l g n h p j) 42]:=iK.sepNil
 have iM:Own w D dK (row none 0 0 (q6 bC.cells ([])) 42 21::_):=iL.free (fB 42 21)
 have iO:=iM.pf [3]
 obtain⟨⟨L,b⟩,aO⟩:∃ q:bE × aB,iG (bE.mk (E4 ([]))) a f=q:=⟨_,rfl⟩
 obtain⟨lQ,fM,aC,fO,kS⟩:=GJ iO
 refine cl Tryz.call24 (rO _ _ aS (bE.mk (E4 ([]))) none 0 ([]) a l a.aF.ls.length g n a.ah.ls.length h P p a.ag.ls.length j z f L b fM rfl rfl (aC _ av) (show a.aF.ls.length≤g∧a.aF.ls.length≤9223372036854775807 from by omega) Q rfl (aC _ ay) (show a.ah.ls.length≤h∧a.ah.ls.length≤9223372036854775807 from by omega) (fun s t=>⟨aC _ (u s t).1,(u s t).2⟩) rfl (aC _ aA) (show a.ag.ls.length≤j∧a.ag.ls.length≤9223372036854775807 from by omega) e8 f4 e8 j1 e8 aO) ?_
 rintro _ lS ⟨X,Y,iP,rfl,fP,bG⟩
 have dO:=fO _ _ fP
 have kT:=az bG
 have kU:=dO.rowC (i:=1) rfl
 have bH:=yT aO (qY f4 f4) e6 e6
 have kV:Mk b:=bH.2 f4
 have kW:b.aa.ag.ls.length=f.aa.ag.ls.length∧b.aa.av=f.aa.av∧b.au.ls.length+b.aa.ak.ls.length≤8∧b.aa.aJ.ls.length≤f.aa.aJ.ls.length+1:=Iu bH.1 e6
 refine D0 (Gh (res0 rfl) (nt (FW ?_)))
 have iQ:=dO.pf [3]
 obtain⟨dP,bI,dQ,bJ,iR,dU,bK,iT,lT,lU,lV,lW,lX,lY,lZ,l5,l6,l7,l8,l9,ma,mg,mh,mi,mo,mq,bL,bN,fQ,fT,fU,fV,fZ,gm,kX,aH⟩:=ji iQ
 refine FV (Mz rfl (Kz (vP z 0) (Kz (vP z 0) (La ([vI b.aa.av,vU b.aa.ay,vU b.aa.aX,vU b.aa.aL, .slice dP b.aa.ag.ls.length bI, .slice dQ b.aa.ak.ls.length bJ, .slice dU b.aa.aJ.ls.length bK]) aH 0 S7 H8 ?_))))
 obtain⟨⟨aj,dV⟩,bO⟩:∃ q:(List UInt8) × Int,eD b.aa=q:=⟨_,rfl⟩
 obtain⟨mr,gp,kY,gq,I⟩:=F3 aH
 refine cl S8 (kg _ _ b.aa dP b.aa.ag.ls.length bI dQ b.aa.ak.ls.length bJ iR dU b.aa.aJ.ls.length bK iT aj dV gp rfl (I _ 1 _ rfl aP) (show b.aa.ag.ls.length≤bI∧b.aa.ag.ls.length≤9223372036854775807 from by omega) bL rfl (I _ 2 _ rfl aP) (show b.aa.ak.ls.length≤bJ∧b.aa.ak.ls.length≤9223372036854775807 from by omega) (fun s t=>⟨I _ 3 _ rfl (ax (P2.2 ⟨s,t,b1⟩) aP),aY (φ:=fun _=>_) aH (i:=3) rfl (ax (P2.2 ⟨s,t,b1⟩) aV)⟩) bN rfl (I _ 4 _ rfl aP) (show b.aa.aJ.ls.length≤bK∧b.aa.aJ.ls.length≤9223372036854775807 from by omega) (fun s t=>⟨I _ 5 _ rfl (ax (P2.2 ⟨s,t,b1⟩) aP),aY (φ:=fun _=>_) aH (i:=5) rfl (ax (P2.2 ⟨s,t,b1⟩) aV),(fun y1 k1=>⟨I _ 5 _ rfl (ax (P2.2 ⟨s,t, .tail _ b1⟩) (ax (P2.2 ⟨y1,k1,b1⟩) aP)),aY (φ:=fun _=>_) aH (i:=5) rfl (ax (P2.2 ⟨s,t, .tail _ b1⟩) (ax (P2.2 ⟨y1,k1,b1⟩) aV))⟩)⟩) e8 i4 bO) ?_
 rintro _ mD ⟨dW,dX,rfl,gu,bP⟩
 have dY:=gq _ _ gu
 have kZ:=dY.rowC (i:=0) rfl
 replace bP:aj.length≤100000:=bP
 refine Mz rfl (Kz (.slice dW aj.length dX) (Kz (vI dV) (Az rfl (An rfl (FW ?_)))))
 have iU:=dY.pb [23]
 refine oL 25 [] (Gb Gj) iU ?_
 intro mE iV
 refine qv 0 rfl rfl (qp aS 0 1 rfl (qp aS 1 2 rfl (ql 3 rfl 19 S9 rfl rfl rfl (qv 4 rfl rfl (qv 5 rfl rfl ?_)))))
 obtain⟨E,bQ⟩:∃ q,bytes_Equal aG aj=q:=⟨_,rfl⟩
 obtain⟨mF,gy,lc,gz,bR⟩:=F3 iV
 refine qd 6 rfl (Gg T0 rfl (qZ _ _ bB aG.length bD aG dW aj.length dX aj E gy (bR _ 22 _ rfl aP) rfl e6 (bR _ 0 _ rfl aP) rfl e6 bQ) ?_)
 rintro _ mG ⟨rfl,gB⟩
 have dZ:=gz _ _ gB
 refine⟨.inr ⟨_,dZ⟩, ?_⟩
 refine qk (.bool (!E)) 7 rfl (qk (.agg #[.slice X L.bq.ls.length Y, .bool (!E)]) 8 rfl ?_)
 have iW:=dZ.pf [25]
 refine qe 9 rfl (Do.store (vs:= [.slice X L.bq.ls.length Y, .bool (!E)]) (o:=0) iW rfl rfl S3 rfl rfl rfl rfl ?_)
 intro mH iX
 have bS:=iX.pb [0]
 refine⟨.inr ⟨_,bS⟩, ?_⟩
 refine qn (FY (rt (Fin.res (ni rfl rfl (Gf (cs:= [.slice X L.bq.ls.length Y, .bool (!E)]) S4 S3 ((bS.cls (i:=25) rfl).lit (k:=0) (m:=2) rfl))) ?_)))
 have iY:=bS.pf [23]
 refine dN [.slice X L.bq.ls.length Y, .bool (!E)] 0 iY S3 ?_
 intro mI d9
 refine An rfl (rt (Fin.res (kC (vs:= [.agg #[.slice X L.bq.ls.length Y, .bool (!E)],vI 0]) rfl (dS.cell rfl (Gf (cs:= [.slice X L.bq.ls.length Y, .bool (!E)]) S4 S3 ((d9.cls (i:=0) rfl).lit (k:=0) (m:=2) rfl)) (dS.tmp rfl dS.nil)) (JO rfl)) ?_))
 have iZ:=d9.pb [0,1,20,21,22,23,24,25]
 have ja:=fA bL bN fQ fT fU fV fZ gm iZ
 have jb:=ja.pk [4,5,0]
 obtain⟨rfl,rfl,rfl⟩:=zw (hr.symm.trans (show _=(jW.mk (E4 L.bq.ls) (!E),0,b) from et (ip r) (et (ai ag) (et (ip O) (et (ip aN) (et (iN dA) (et (ai dI) (et (ai aO) (et (ai bO) (ai bQ))))))))))
 exact⟨X,Y,iP,rfl,jb,bG,i1,f4⟩
 refine Sz (dT aN) (fw (.bool true) (Gd rfl (dT aN) rfl) (nt (jt (sr (Kz (.agg #[.slice none 0 0, .bool false]) ?_)))))
 have jc:=bn.pf [18]
 refine dN [.slice none 0 0, .bool false] 0 jc S3 ?_
 intro ed ek
 refine An rfl (rt (tR (Fin.res (kC (vs:= [.agg #[.slice none 0 0, .bool false],vI 180]) rfl (dS.cell rfl (Gf (cs:= [.slice none 0 0, .bool false]) S4 S3 ((ek.cls (i:=0) rfl).lit (k:=0) (m:=2) rfl)) (dS.tmp rfl dS.nil)) (JO rfl)) ?_)))
 have jd:=ek.pb [0,19]
 have je:=fA B C R S T U V W jd
 have jg:Own w D ed [sepL (q6 bC.own ([])),iE z f,blk aM [.slice none 0 0, .bool false] 47,blk G (gT a l g n h p j) 42]:=je.sepNil
 have jh:Own w D ed (row none 0 0 (q6 bC.cells ([])) 42 21::_):=jg.free (fB 42 21)
 have jk:=jh.pk [0,1,2]
 obtain⟨rfl,rfl,rfl⟩:=zw (hr.symm.trans (show _=(jW.mk (E4 ([])) false,180,f) from et (ip r) (et (ai ag) (et (ip O) (iN aN)))))
 exact⟨none,0, [],rfl,jk,rfl,i1,f4⟩
 refine Sz (dT O) (Sz (dT O) (Sz (dT O) (fw (.bool true) (Gd rfl (dT O) rfl) (Mz rfl (Sz rfl (fw (.bool true) (Gd rfl rfl rfl) (nt (jt (sr (Kz (.agg #[.slice none 0 0, .bool false]) ?_))))))))))
 have jl:=bn.pf [18]
 refine dN [.slice none 0 0, .bool false] 0 jl S3 ?_
 intro eu eG
 refine An rfl (rt (tR (Fin.res (kC (vs:= [.agg #[.slice none 0 0, .bool false],vI 180]) rfl (dS.cell rfl (Gf (cs:= [.slice none 0 0, .bool false]) S4 S3 ((eG.cls (i:=0) rfl).lit (k:=0) (m:=2) rfl)) (dS.tmp rfl dS.nil)) (JO rfl)) ?_)))
 have jm:=eG.pb [0,19]
 have jo:=fA B C R S T U V W jm
 have jq:Own w D eu [sepL (q6 bC.own ([])),iE z f,blk aM [.slice none 0 0, .bool false] 47,blk G (gT a l g n h p j) 42]:=jo.sepNil
 have jr:Own w D eu (row none 0 0 (q6 bC.cells ([])) 42 21::_):=jq.free (fB 42 21)
 have jv:=jr.pk [0,1,2]
 obtain⟨rfl,rfl,rfl⟩:=zw (hr.symm.trans (show _=(jW.mk (E4 ([])) false,180,f) from et (ip r) (et (ai ag) (iN O))))
 exact⟨none,0, [],rfl,jv,rfl,i1,f4⟩
 refine F5 (rs:= []) 4 rfl rfl rfl (dF r) e7 (F5 (rs:= []) 5 rfl rfl rfl (dF r) e7 (F5 (rs:= []) 6 rfl rfl rfl (dF r) e7 (F5 (rs:= []) 7 rfl rfl rfl (dF r) e7 (F5 (rs:= []) 8 rfl rfl rfl (dF r) e7 (F5 (rs:= []) 9 rfl rfl rfl (dF r) e7 (F5 (rs:= []) 10 rfl rfl rfl (dF r) e7 (F5 (rs:= []) 11 rfl rfl rfl (dF r) e7 (qt (v:= .bool false) 12 rfl (fun _ _=>FZ rfl (dF r) rfl) (qa 13 rfl rfl (qn (FY (FW (sr (La (gT a l g n h p j) dz 19 M4 M5 ?_))))))))))))))
 obtain⟨aJ,Z⟩:∃ q,mf a=q:=⟨_,rfl⟩
 obtain⟨mJ,gF,aD,gG,lg⟩:=F3 dz
 refine cl Tryz.call21 (uT _ _ a l a.aF.ls.length g n a.ah.ls.length h P p a.ag.ls.length j aJ gF rfl (aD _ av) (show a.aF.ls.length≤g∧a.aF.ls.length≤9223372036854775807 from by omega) Q rfl (aD _ ay) (show a.ah.ls.length≤h∧a.ah.ls.length≤9223372036854775807 from by omega) (fun s t=>⟨aD _ (u s t).1,(u s t).2⟩) rfl (aD _ aA) (show a.ag.ls.length≤j∧a.ag.ls.length≤9223372036854775807 from by omega) i3 Z) ?_
 rintro _ mK ⟨rfl,gH⟩
 have aT:=gG _ _ gH
 have lh: ¬ (aJ=0)∨(a.aF.ls.length≤24∧a.ag.ls.length≤1000∧a.ah.ls.length≤1000∧(¬ (a.aG=1)∨11≤a.aH∧a.aH≤14)∧(¬ (a.aG=9)∨1≤a.aH∧a.aH≤4)):=CE Z
 refine fw (.bool (decide (¬ (aJ=0)))) (Gm (e:= !(decide (aJ=0))) yk decide_not.symm) (Mz rfl ?_)
 by_cases y:aJ=0
 refine gw (vP G 2) (dF (JR y)) yk (gw (vI a.eP) (dF (JR y)) (F7 rfl (bX.one C6 (jL.of (aT.cls (i:=19) rfl) rfl))) (gw (.bool (decide (¬ (a.eP=0)))) (dF (JR y)) (Gm (e:= !(decide (a.eP=0))) yk decide_not.symm) (fw (.bool (decide (¬ (a.eP=0)))) (FZ rfl (dF (JR y)) rfl) (Mz rfl ?_))))
 by_cases ak:a.eP=0
 refine gw (.bool false) (dF (JR ak)) (F9 rfl) (fw (.bool false) (FZ rfl (dF (JR ak)) rfl) (nt (jf (sk (sr (Mz rfl (Kz (.func (.func 23) #[] #[vP G 0]) ?_)))))))
 refine WL.do rfl (Gg S5 rfl ?_ (fun _ _ k=>k))
 refine cb S6 ?_
 refine sr ?_
 refine dM [.slice none 0 0, .bool false] 47 aT ?_
 intro jw mM aK
 refine ns (Mz rfl (Kz (vP z 0) (Kz (vP z 0) (La ([vI f.aa.av,vU f.aa.ay,vU f.aa.aX,vU f.aa.aL, .slice dn f.aa.ag.ls.length aX, .slice dw f.aa.ak.ls.length aZ, .slice dx f.aa.aJ.ls.length bf]) aK 1 S7 H8 ?_))))
 obtain⟨⟨M,eH⟩,bT⟩:∃ q:(List UInt8) × Int,eD f.aa=q:=⟨_,rfl⟩
 obtain⟨mO,gI,ll,gJ,J⟩:=F3 aK
 refine cl S8 (kg _ _ f.aa dn f.aa.ag.ls.length aX dw f.aa.ak.ls.length aZ iq dx f.aa.aJ.ls.length bf iw M eH gI rfl (J _ 2 _ rfl aP) (show f.aa.ag.ls.length≤aX∧f.aa.ag.ls.length≤9223372036854775807 from by omega) B rfl (J _ 3 _ rfl aP) (show f.aa.ak.ls.length≤aZ∧f.aa.ak.ls.length≤9223372036854775807 from by omega) (fun s t=>⟨J _ 4 _ rfl (ax (P2.2 ⟨s,t,b1⟩) aP),aY (φ:=fun _=>_) aK (i:=4) rfl (ax (P2.2 ⟨s,t,b1⟩) aV)⟩) C rfl (J _ 5 _ rfl aP) (show f.aa.aJ.ls.length≤bf∧f.aa.aJ.ls.length≤9223372036854775807 from by omega) (fun s t=>⟨J _ 6 _ rfl (ax (P2.2 ⟨s,t,b1⟩) aP),aY (φ:=fun _=>_) aK (i:=6) rfl (ax (P2.2 ⟨s,t,b1⟩) aV),(fun y1 k1=>⟨J _ 6 _ rfl (ax (P2.2 ⟨s,t, .tail _ b1⟩) (ax (P2.2 ⟨y1,k1,b1⟩) aP)),aY (φ:=fun _=>_) aK (i:=6) rfl (ax (P2.2 ⟨s,t, .tail _ b1⟩) (ax (P2.2 ⟨y1,k1,b1⟩) aV))⟩)⟩) e8 i4 bT) ?_
 rintro _ mP ⟨bU,bV,rfl,gK,bW⟩
 have eO:=gJ _ _ gK
 have lm:=eO.rowC (i:=0) rfl
 replace bW:M.length≤100000:=bW
 refine Mz rfl (Kz (.slice bU M.length bV) (Kz (vI eH) (Az rfl (Ar rfl (Mz rfl (Kz (.agg #[vP z 0, .slice none 0 0]) ?_))))))
 refine dM [vP z 0, .slice none 0 0] 98 eO ?_
 intro aU eP eQ
 refine Ar rfl (Mz rfl (Mz rfl ?_))
 refine WL.do rfl (Gr Tryz.call23 rfl rfl ?_ (fun _ _ k=>k))
 refine cb Tryz.func23 ?_
 refine FV (Mz rfl (La (gT a l g n h p j) eQ 22 M4 M5 ?_))
 have jy:=eQ.pb [0,1,2,21,22]
 have jA:=fA B C R S T U V W jy
 have jB:Own w D eP [sepL (q6 bC.own ([])),iE z f,blk aU [vP z 0, .slice none 0 0] 98,row bU M.length bV (q6 eB M) 5 1,blk jw [.slice none 0 0, .bool false] 47,blk aM [.slice none 0 0, .bool false] 47,blk G (gT a l g n h p j) 42]:=jA.sepNil
 have jC:Own w D eP (row none 0 0 (q6 bC.cells ([])) 42 21::_):=jB.free (fB 42 21)
 have jD:=jC.pf [3]
 obtain⟨⟨N,d⟩,aQ⟩:∃ q:bE × aB,iG (bE.mk (E4 ([]))) a f=q:=⟨_,rfl⟩
 obtain⟨mQ,gL,aF,gM,lq⟩:=GJ jD
 refine cl Tryz.call24 (rO _ _ aU (bE.mk (E4 ([]))) none 0 ([]) a l a.aF.ls.length g n a.ah.ls.length h P p a.ag.ls.length j z f N d gL rfl rfl (aF _ av) (show a.aF.ls.length≤g∧a.aF.ls.length≤9223372036854775807 from by omega) Q rfl (aF _ ay) (show a.ah.ls.length≤h∧a.ah.ls.length≤9223372036854775807 from by omega) (fun s t=>⟨aF _ (u s t).1,(u s t).2⟩) rfl (aF _ aA) (show a.ag.ls.length≤j∧a.ag.ls.length≤9223372036854775807 from by omega) e8 f4 e8 j1 e8 aQ) ?_
 rintro _ mR ⟨aa,af,jE,rfl,gN,bY⟩
 have eT:=gM _ _ gN
 have lu:=az bY
 have lv:=eT.rowC (i:=1) rfl
 have bZ:=yT aQ (qY f4 f4) e6 e6
 have lw:Mk d:=bZ.2 f4
 have lC:d.aa.ag.ls.length=f.aa.ag.ls.length∧d.aa.av=f.aa.av∧d.au.ls.length+d.aa.ak.ls.length≤8∧d.aa.aJ.ls.length≤f.aa.aJ.ls.length+1:=Iu bZ.1 e6
 refine D0 (Gh (res0 rfl) (nt (FW ?_)))
 have jG:=eT.pf [3]
 obtain⟨eU,cu,eX,cz,jH,eY,cB,jI,mU,mV,mW,mX,mY,mZ,ng,nk,nu,ny,nz,nA,nC,nD,nE,nG,nH,nI,cK,cO,gP,gQ,gU,gV,gW,gX,lD,aL⟩:=ji jG
 refine FV (Mz rfl (Kz (vP z 0) (Kz (vP z 0) (La ([vI d.aa.av,vU d.aa.ay,vU d.aa.aX,vU d.aa.aL, .slice eU d.aa.ag.ls.length cu, .slice eX d.aa.ak.ls.length cz, .slice eY d.aa.aJ.ls.length cB]) aL 0 S7 H8 ?_))))
 obtain⟨⟨au,eZ⟩,cZ⟩:∃ q:(List UInt8) × Int,eD d.aa=q:=⟨_,rfl⟩
 obtain⟨nJ,gY,lF,gZ,K⟩:=F3 aL
 refine cl S8 (kg _ _ d.aa eU d.aa.ag.ls.length cu eX d.aa.ak.ls.length cz jH eY d.aa.aJ.ls.length cB jI au eZ gY rfl (K _ 1 _ rfl aP) (show d.aa.ag.ls.length≤cu∧d.aa.ag.ls.length≤9223372036854775807 from by omega) cK rfl (K _ 2 _ rfl aP) (show d.aa.ak.ls.length≤cz∧d.aa.ak.ls.length≤9223372036854775807 from by omega) (fun s t=>⟨K _ 3 _ rfl (ax (P2.2 ⟨s,t,b1⟩) aP),aY (φ:=fun _=>_) aL (i:=3) rfl (ax (P2.2 ⟨s,t,b1⟩) aV)⟩) cO rfl (K _ 4 _ rfl aP) (show d.aa.aJ.ls.length≤cB∧d.aa.aJ.ls.length≤9223372036854775807 from by omega) (fun s t=>⟨K _ 5 _ rfl (ax (P2.2 ⟨s,t,b1⟩) aP),aY (φ:=fun _=>_) aL (i:=5) rfl (ax (P2.2 ⟨s,t,b1⟩) aV),(fun y1 k1=>⟨K _ 5 _ rfl (ax (P2.2 ⟨s,t, .tail _ b1⟩) (ax (P2.2 ⟨y1,k1,b1⟩) aP)),aY (φ:=fun _=>_) aL (i:=5) rfl (ax (P2.2 ⟨s,t, .tail _ b1⟩) (ax (P2.2 ⟨y1,k1,b1⟩) aV))⟩)⟩) e8 i4 cZ) ?_
 rintro _ nK ⟨fe,fo,rfl,ib,df⟩
 have fq:=gZ _ _ ib
 have lG:=fq.rowC (i:=0) rfl
 replace df:au.length≤100000:=df
 refine Mz rfl (Kz (.slice fe au.length fo) (Kz (vI eZ) (Az rfl (An rfl (FW ?_)))))
 have jJ:=fq.pb [23]
 refine oL 25 [] (Gb Gj) jJ ?_
 intro nL jM
 refine qv 0 rfl rfl (qp aU 0 1 rfl (qp aU 1 2 rfl (ql 3 rfl 19 S9 rfl rfl rfl (qv 4 rfl rfl (qv 5 rfl rfl ?_)))))
 obtain⟨F,dh⟩:∃ q,bytes_Equal M au=q:=⟨_,rfl⟩
 obtain⟨nM,ic,lH,ig,di⟩:=F3 jM
 refine qd 6 rfl (Gg T0 rfl (qZ _ _ bU M.length bV M fe au.length fo au F ic (di _ 22 _ rfl aP) rfl e6 (di _ 0 _ rfl aP) rfl e6 dh) ?_)
 rintro _ nN ⟨rfl,ik⟩
 have fu:=ig _ _ ik
 refine⟨.inr ⟨_,fu⟩, ?_⟩
 refine qk (.bool (!F)) 7 rfl (qk (.agg #[.slice aa N.bq.ls.length af, .bool (!F)]) 8 rfl ?_)
 have jN:=fu.pf [25]
 refine qe 9 rfl (Do.store (vs:= [.slice aa N.bq.ls.length af, .bool (!F)]) (o:=0) jN rfl rfl S3 rfl rfl rfl rfl ?_)
 intro nO jO
 have dm:=jO.pb [0]
 refine⟨.inr ⟨_,dm⟩, ?_⟩
 refine qn (FY (rt (Fin.res (ni rfl rfl (Gf (cs:= [.slice aa N.bq.ls.length af, .bool (!F)]) S4 S3 ((dm.cls (i:=25) rfl).lit (k:=0) (m:=2) rfl))) ?_)))
 have jP:=dm.pf [23]
 refine dN [.slice aa N.bq.ls.length af, .bool (!F)] 0 jP S3 ?_
 intro nP fC
 refine An rfl (rt (Fin.res (kC (vs:= [.agg #[.slice aa N.bq.ls.length af, .bool (!F)],vI 0]) rfl (dS.cell rfl (Gf (cs:= [.slice aa N.bq.ls.length af, .bool (!F)]) S4 S3 ((fC.cls (i:=0) rfl).lit (k:=0) (m:=2) rfl)) (dS.tmp rfl dS.nil)) (JO rfl)) ?_))
 have jQ:=fC.pb [0,1,20,21,22,23,24,25]
 have jR:=fA cK cO gP gQ gU gV gW gX jQ
 have jS:=jR.pk [4,5,0]
 obtain⟨rfl,rfl,rfl⟩:=zw (hr.symm.trans (show _=(jW.mk (E4 N.bq.ls) (!F),0,d) from et (iN r) (et (ai Z) (et (ip y) (et (ip ak) (et (ai bT) (et (ai aQ) (et (ai cZ) (ai dh)))))))))
 exact⟨aa,af,jE,rfl,jS,bY,i1,f4⟩
 refine Sz (dT ak) (fw (.bool true) (Gd rfl (dT ak) rfl) (nt (jt (sr (Kz (.agg #[.slice none 0 0, .bool false]) ?_)))))
 have jU:=aT.pf [18]
 refine dN [.slice none 0 0, .bool false] 0 jU S3 ?_
 intro fD fE
 refine An rfl (rt (tR (Fin.res (kC (vs:= [.agg #[.slice none 0 0, .bool false],vI 180]) rfl (dS.cell rfl (Gf (cs:= [.slice none 0 0, .bool false]) S4 S3 ((fE.cls (i:=0) rfl).lit (k:=0) (m:=2) rfl)) (dS.tmp rfl dS.nil)) (JO rfl)) ?_)))
 have jV:=fE.pb [0,19]
 have jX:=fA B C R S T U V W jV
 have jY:Own w D fD [sepL (q6 bC.own ([])),iE z f,blk aM [.slice none 0 0, .bool false] 47,blk G (gT a l g n h p j) 42]:=jX.sepNil
 have j3:Own w D fD (row none 0 0 (q6 bC.cells ([])) 42 21::_):=jY.free (fB 42 21)
 have j4:=j3.pk [0,1,2]
 obtain⟨rfl,rfl,rfl⟩:=zw (hr.symm.trans (show _=(jW.mk (E4 ([])) false,180,f) from et (iN r) (et (ai Z) (et (ip y) (iN ak)))))
 exact⟨none,0, [],rfl,j4,rfl,i1,f4⟩
 refine Sz (dT y) (Sz (dT y) (Sz (dT y) (fw (.bool true) (Gd rfl (dT y) rfl) (Mz rfl (Sz rfl (fw (.bool true) (Gd rfl rfl rfl) (nt (jt (sr (Kz (.agg #[.slice none 0 0, .bool false]) ?_))))))))))
 have j5:=aT.pf [18]
 refine dN [.slice none 0 0, .bool false] 0 j5 S3 ?_
 intro fF fG
 refine An rfl (rt (tR (Fin.res (kC (vs:= [.agg #[.slice none 0 0, .bool false],vI 180]) rfl (dS.cell rfl (Gf (cs:= [.slice none 0 0, .bool false]) S4 S3 ((fG.cls (i:=0) rfl).lit (k:=0) (m:=2) rfl)) (dS.tmp rfl dS.nil)) (JO rfl)) ?_)))
 have j6:=fG.pb [0,19]
 have ko:=fA B C R S T U V W j6
 have kr:Own w D fF [sepL (q6 bC.own ([])),iE z f,blk aM [.slice none 0 0, .bool false] 47,blk G (gT a l g n h p j) 42]:=ko.sepNil
 have ku:Own w D fF (row none 0 0 (q6 bC.cells ([])) 42 21::_):=kr.free (fB 42 21)
 have kv:=ku.pk [0,1,2]
 obtain⟨rfl,rfl,rfl⟩:=zw (hr.symm.trans (show _=(jW.mk (E4 ([])) false,180,f) from et (iN r) (et (ai Z) (iN y))))
 exact⟨none,0, [],rfl,kv,rfl,i1,f4⟩
def j3 (b:aB):di:=
 bnd (jm b.aa) fun a=>a
set_option maxHeartbeats 4000000 in
theorem pR (w D M) (b:aB) (d:di) (H:Own w D w [iE M b]) (aL:b.aa.ag.ls.length≤1000∧b.au.ls.length+b.aa.ak.ls.length≤8∧b.aa.aJ.ls.length≤900) (aM:Mk b) (hr:j3 b=d):
    Calls y4 11 #[vP M 0] w (dR fun v w'=> ∃ l n o p r s e f,v= .agg #[vI d.av,vU d.ay,vU d.aX,vU d.aL, .slice l d.ag.ls.length n, .slice o d.ak.ls.length p, .slice r d.aJ.ls.length s]∧Own w D w' [row l d.ag.ls.length n (q6 aW.cells d.ag.ls) 89 2,row o d.ak.ls.length p (q6 aA.cells e) 60 5,sepL (q6 aA.own e),row r d.aJ.ls.length s (q6 aT.cells f) 56 4,sepL (q6 aT.own f),iE M b]∧(s8 aA.abs e=d.ak.ls)∧(s8 aT.abs f=d.aJ.ls)):=by
 refine cb Tryz.func11 ?_
 obtain⟨N,A,O,B,aa,P,C,ae,aN,aO,aQ,aR,aS,aU,aX,aZ,bf,bg,bi,bn,bq,bu,bv,bz,bA,bB,t,u,Q,R,S,T,U,V,ay,af⟩:=ji H
 refine sr ?_
 refine dM [vI 0, .int .u64 0, .int .u64 0, .int .u64 0, .slice none 0 0, .slice none 0 0, .slice none 0 0] 33 af ?_
 intro bC bD g
 refine ns (Mz rfl (Kz (vP M 0) (Kz (vP M 0) (La ([vI b.aa.av,vU b.aa.ay,vU b.aa.aX,vU b.aa.aL, .slice N b.aa.ag.ls.length A, .slice O b.aa.ak.ls.length B, .slice P b.aa.aJ.ls.length C]) g 1 S7 H8 ?_))))
 obtain⟨a,x⟩:∃ q,jm b.aa=q:=⟨_,rfl⟩
 obtain⟨bE,W,aC,X,c⟩:=F3 g
 refine cl Tryz.call20 (oJ _ _ b.aa N b.aa.ag.ls.length A O b.aa.ak.ls.length B aa P b.aa.aJ.ls.length C ae a W rfl (c _ 2 _ rfl aP) (show b.aa.ag.ls.length≤A∧b.aa.ag.ls.length≤9223372036854775807 from by omega) t rfl (c _ 3 _ rfl aP) (show b.aa.ak.ls.length≤B∧b.aa.ak.ls.length≤9223372036854775807 from by omega) (fun E h=>⟨c _ 4 _ rfl (ax (P2.2 ⟨E,h,b1⟩) aP),aY (φ:=fun _=>_) g (i:=4) rfl (ax (P2.2 ⟨E,h,b1⟩) aV)⟩) u rfl (c _ 5 _ rfl aP) (show b.aa.aJ.ls.length≤C∧b.aa.aJ.ls.length≤9223372036854775807 from by omega) (fun E h=>⟨c _ 6 _ rfl (ax (P2.2 ⟨E,h,b1⟩) aP),aY (φ:=fun _=>_) g (i:=6) rfl (ax (P2.2 ⟨E,h,b1⟩) aV),(fun y1 k1=>⟨c _ 6 _ rfl (ax (P2.2 ⟨E,h, .tail _ b1⟩) (ax (P2.2 ⟨y1,k1,b1⟩) aP)),aY (φ:=fun _=>_) g (i:=6) rfl (ax (P2.2 ⟨E,h, .tail _ b1⟩) (ax (P2.2 ⟨y1,k1,b1⟩) aV))⟩)⟩) e8 (by first | assumption | exact Am f4 | exact fun _ h=>absurd h B3) (by first | assumption | exact Ao f4 | exact fun _ h=>absurd h B3) x) ?_
 rintro _ bF ⟨F,G,I,J,K,L,ag,ah,rfl,Y,y,z⟩
 have j:=X _ _ Y
 have aG:=az y
 have aH:=az z
 have aI:=j.rowC (i:=0) rfl
 have aJ:=j.rowC (i:=1) rfl
 have aK:=j.rowC (i:=3) rfl
 have aj:=j.pf [5]
 refine dN [vI a.av,vU a.ay,vU a.aX,vU a.aL, .slice F a.ag.ls.length G, .slice I a.ak.ls.length J, .slice K a.aJ.ls.length L] 0 aj H8 ?_
 intro bG Z
 refine nt (rt (Fin.res (ni rfl rfl (Gf (cs:= [vI a.av,vU a.ay,vU a.aX,vU a.aL, .slice F a.ag.ls.length G, .slice I a.ak.ls.length J, .slice K a.aJ.ls.length L]) S7 H8 ((Z.cls (i:=0) rfl).lit (k:=0) (m:=7) rfl))) ?_))
 have ak:=Z.pb [0,1,2,3,4,5]
 have au:=fA t u Q R S T U V ak
 have av:=au.px [] [1] [0]
 obtain rfl:_=a:=hr.symm.trans (ai x)
 exact⟨F,G,I,J,K,L,ag,ah,rfl,av,y,z⟩
def ik:List dD→List Nat→(List Nat)
  | [],a=>a
  | b::c,a=>ik c (a++ [b.aR])
def iM (a:aB):(List Nat):=
 bnd (ik a.au.ls ([])) fun sLrL=>sLrL
set_option maxHeartbeats 4000000 in
theorem tF (w D X) (b:aB) (Z) (H:Own w D w [iE X b]) (bC:b.aa.ag.ls.length≤1000∧b.au.ls.length+b.aa.ak.ls.length≤8∧b.aa.aJ.ls.length≤900) (hr:iM b=Z):
    Calls y4 15 #[vP X 0] w (dR fun v w'=> ∃ B0 b0,v= .slice B0 Z.length b0∧Own w D w' [row B0 Z.length b0 (q6 (eN .u64) Z) 28 1,iE X b]∧(Z.length≤b.au.ls.length)):=by
 refine cb Tryz.func15 ?_
 obtain⟨p,r,t,u,x,z,A,B,h,l,n,C,E,F,G,I,J,K,L,M,N,O,P,Q,R,S,aa,af,V,ag,ah,aj,ak,au,bf,av⟩:=ji H
 refine sr (Ar rfl (An rfl (FW (sr (Mz rfl (Kz (vP X 0) (Kz (vP X 8) (Lz (.slice h b.au.ls.length l) av 0 Tryz.isAgg79 (Kz (vJ b.au.ls.length) (Mn rfl (bo ?_)))))))))))
 have aI:Own w D w [row none 0 0 (q6 (eN .u64) ([])) 28 1,mK X b p b.aa.ag.ls.length r t u z A h l C E G I K L N O Q R,row p b.aa.ag.ls.length r (q6 aW.cells b.aa.ag.ls) 89 2,row t b.aa.ak.ls.length u (q6 aA.cells x) 60 5,sepL (q6 aA.own x),row z b.aa.aJ.ls.length A (q6 aT.cells B) 56 4,sepL (q6 aT.own B),row h b.au.ls.length l (q6 bz.cells n) 107 9,sepL (q6 bz.own n),row C b.bH.af.ls.length E (q6 ae.cells F) 149 3,sepL (q6 ae.own F),row G b.bf.af.ls.length I (q6 ae.cells J) 149 3,sepL (q6 ae.own J),row K b.bi.af.ls.length L (q6 ae.cells M) 149 3,sepL (q6 ae.own M),row N b.bn.af.ls.length O (q6 ae.cells P) 149 3,sepL (q6 ae.own P),row Q b.aZ.af.ls.length R (q6 ae.cells S) 149 3,sepL (q6 ae.own S)]:=av.free (fB 28 1)
 have aJ:=aI.pb [0]
 obtain⟨aK,o⟩:=rZ fun T (U:Nat) f (d:Nat) w'=>Own w D w' [mK X b p b.aa.ag.ls.length r t u z A h l C E G I K L N O Q R,row p b.aa.ag.ls.length r (q6 aW.cells b.aa.ag.ls) 89 2,row t b.aa.ak.ls.length u (q6 aA.cells x) 60 5,sepL (q6 aA.own x),row z b.aa.aJ.ls.length A (q6 aT.cells B) 56 4,sepL (q6 aT.own B),row h b.au.ls.length l (q6 bz.cells n) 107 9,sepL (q6 bz.own n),row C b.bH.af.ls.length E (q6 ae.cells F) 149 3,sepL (q6 ae.own F),row G b.bf.af.ls.length I (q6 ae.cells J) 149 3,sepL (q6 ae.own J),row K b.bi.af.ls.length L (q6 ae.cells M) 149 3,sepL (q6 ae.own M),row N b.bn.af.ls.length O (q6 ae.cells P) 149 3,sepL (q6 ae.own P),row Q b.aZ.af.ls.length R (q6 ae.cells S) 149 3,sepL (q6 ae.own S),row T f.length U (q6 (eN .u64) f) 28 1]∧d≤b.au.ls.length∧f.length=d∧f.length≤d∧ik b.au.ls ([])=ik (r6 d b.au.ls) f
 refine C5 (fun i:(Option Addr) × Nat × (List Nat) × Nat=> [(3, .slice i.1 i.2.2.1.length i.2.1),(11,vJ i.2.2.2),(10,vJ b.au.ls.length),(9, .slice h b.au.ls.length l),(2, .slice none 0 0)]) aK (fun i=>b.au.ls.length - i.2.2.2) (none,0, [],0) ⟨rfl,rfl,rfl,rfl,rfl,trivial⟩ (o.2 ⟨aJ,(show 0≤b.au.ls.length∧0=0∧0≤0∧ik b.au.ls ([])=ik (r6 0 b.au.ls) ([]) from ⟨e6,e6,e6,rfl⟩)⟩) ?_
 rintro ⟨T,U,f,d⟩ bD ay
 obtain⟨j,bg,bi,bn,W⟩:=o.1 ay
 refine sr (Kz (.bool (decide (((d:Nat):Int) < ((b.au.ls.length:Nat):Int)))) (nt (FW ?_)))
 by_cases az:((d:Nat):Int) < ((b.au.ls.length:Nat):Int)
 obtain⟨a,g⟩:=dK (ls:=n) (i:=d) bz.len f3 (j.rds (i:=6) rfl) e9
 have aC:=fo V g
 have bq:a.bO.ls.length≤a.bO.c∧a.bO.ls.length≤9223372036854775807:=aY j (i:=7) rfl (φ:=fun _=>_) (ax (P2.2 ⟨a,E0 g,b1⟩) aV)
 have bu:a.aD.ls.length≤a.aD.c∧a.aD.ls.length≤9223372036854775807:=aY j (i:=7) rfl (φ:=fun _=>_) (ax (P2.2 ⟨a,E0 g, .tail _ b1⟩) aV)
 have bv:a.bB.ls.length≤a.bB.c∧a.bB.ls.length≤9223372036854775807:=aY j (i:=7) rfl (φ:=fun _=>_) (ax (P2.2 ⟨a,E0 g, .tail _ b2⟩) aV)
 have bA:a.af.ls.length≤a.af.c∧a.af.ls.length≤9223372036854775807:=aY j (i:=7) rfl (φ:=fun _=>_) (ax (P2.2 ⟨a,E0 g, .tail _ b3⟩) aV)
 have aD:=drop_at aC
 refine jT (dT az) (sk (FW (bo (sr (fw (.pointer (some ⟨ab h,ao h+d *9,none⟩)) (F4 (pu) rfl rfl ((j.rds (i:=6) rfl).addr (i:=d) e6) e6) (fw (.agg (bz.cells a).toArray) (F7 rfl (Gf (cs:=(bz.cells a)) Tryz.isAgg107 Tryz.sizeOf107 ((j.rds (i:=6) rfl).elem bz.len g f3))) ?_))))))
 refine dM (qR 0 0 0 0 none 0 0 none 0 0 none 0 0 none 0 0 0) 107 j ?_
 intro aL bE aM
 refine dN (bz.cells a) 0 aM Tryz.sizeOf107 ?_
 intro bF aF
 refine nt (FV (Mz rfl (Kz (vP aL 0) (Lz (vU a.aR) aF 0 E1 ?_))))
 refine kL [vU a.aR] 28 1 1 aF ?_
 intro aN bG Y
 replace Y:=Gs (y:=row aN 1 1 (q6 (eN .u64) ([a.aR])) 28 1) rfl Y
 have aG:=Y.pf [20]
 refine WL.do rfl (Gt (k:=f.length) (m:=1) (uE) aG rfl rfl (iU Tryz.underlying61 (aG.rds (i:=1) rfl) (fF Ej ([a.aR]))) rfl e6 (s:=List.length (f++ [a.aR])) f7 (List.flatMap_append).symm ?_)
 intro aO aP bH aQ
 have bB:List.length (f++ [a.aR])=f.length+1:=by simp only [List.length_append,List.length_cons,List.length_nil]
 refine Az rfl (D0 (bN (FY (FV (fw (vJ (d+1)) (FX (e:=C7.wrap (((d:Nat):Int)+1)) yk f1) (Mz rfl (D0 ?_)))))))
 have aR:=aQ.px [] [1,2] [0]
 exact Gc (aO,aP,(f++ [a.aR]),d+1) ⟨rfl,rfl,rfl,rfl,rfl,trivial⟩ (o.2 ⟨aR,e6,e6,e6,et (W) (et (congrArg (fun q=>ik q f) aD) rfl)⟩) (by show b.au.ls.length - (d+1) < b.au.ls.length - d; omega)
 refine jF (dF az) (D1 (F6 ?_))
 have aH:ik b.au.ls ([])=f:=et (W) (et (congrArg (fun q=>ik q f) (eZ (ls:=b.au.ls) (i:=d) e6)) rfl)
 refine F6 (Gi (FY (sr (Mz rfl (An rfl (rt (rs ?_)))))))
 have aS:=fA aa af V ag ah aj ak au j
 have aU:=aS.pb [0]
 obtain rfl:_=f:=hr.symm.trans (ai aH)
 exact⟨T,U,rfl,aU,i1⟩
def eT (g:aB) (f:List UInt8):List Nat→List bM→aB→(List bM) × aB
  | [],a,b=>(a,b)
  | d::e,a,b=>bnd (iT (bE.mk (E4 a)) d b) fun c=>eT g f e c.1.bq.ls c.2
def ja (g:aB) (f:List UInt8) (d:aB):List bJ→List bM→(List bM)
  | [],a=>a
  | b::e,a=>bnd (eG (bE.mk (E4 a)) b.aU b.av.ls true) fun c=>ja g f d e c.bq.ls
def fe (e:List UInt8) (a:aB):Nat→Nat→List bM→(List bM)
  | 0,b,c=>default
  | d+1,b,c=>if((b:Nat):Int)≤a.aa.av then if((b:Nat):Int)=1 then if((a.dz:Nat):Int) ≥ ((a.aa.aX:Nat):Int) then fe e a d (b+1) c else bnd (df (bE.mk (E4 c)) (bM.mk 8 0 ((b:Nat):Int) 0 0 0 0 0 0 0 a.aa.aX a.aa.aL 0 0 0 false (bI.mk ([]) ([])) (E4 ([])) (E4 ([])) (E4 a.aa.ag.ls))) fun f=>fe e a d (b+1) f.bq.ls else if((b:Nat):Int)=2 then if((a.dB:Nat):Int) ≥ ((a.aa.aX:Nat):Int) then fe e a d (b+1) c else bnd (df (bE.mk (E4 c)) (bM.mk 8 0 ((b:Nat):Int) 0 0 0 0 0 0 0 a.aa.aX a.aa.aL 0 0 0 false (bI.mk ([]) ([])) (E4 ([])) (E4 ([])) (E4 a.aa.ag.ls))) fun g=>fe e a d (b+1) g.bq.ls else if((b:Nat):Int)=3 then if((a.dA:Nat):Int) ≥ ((a.aa.aX:Nat):Int) then fe e a d (b+1) c else bnd (df (bE.mk (E4 c)) (bM.mk 8 0 ((b:Nat):Int) 0 0 0 0 0 0 0 a.aa.aX a.aa.aL 0 0 0 false (bI.mk ([]) ([])) (E4 ([])) (E4 ([])) (E4 a.aa.ag.ls))) fun h=>fe e a d (b+1) h.bq.ls else if((a.dC:Nat):Int) ≥ ((a.aa.aX:Nat):Int) then fe e a d (b+1) c else bnd (df (bE.mk (E4 c)) (bM.mk 8 0 ((b:Nat):Int) 0 0 0 0 0 0 0 a.aa.aX a.aa.aL 0 0 0 false (bI.mk ([]) ([])) (E4 ([])) (E4 ([])) (E4 a.aa.ag.ls))) fun i=>fe e a d (b+1) i.bq.ls else c
def jk (d:aB):jW × aB:=
 bnd (eD d.aa) fun a=>bnd (iM d) fun e=>bnd (eT d a.1 e ([]) d) fun sLrbbL=>bnd (ja d a.1 sLrbbL.2 sLrbbL.2.aa.ak.ls sLrbbL.1) fun sLrbbLaL=>bnd (fe a.1 sLrbbL.2 ((D2 (d.aa.av+1 - 1))+1) 1 sLrbbLaL) fun sLrbbLaLaL=>bnd (eD sLrbbL.2.aa) fun b=>bnd (bytes_Equal a.1 b.1) fun c=>(jW.mk (E4 sLrbbLaLaL) (!c),sLrbbL.2)
set_option maxHeartbeats 4000000 in
theorem uy (w D f) (j:aB) (r0:jW) (r1:aB) (H:Own w D w [iE f j]) (pO:j.aa.ag.ls.length≤1000∧j.au.ls.length+j.aa.ak.ls.length≤8∧j.aa.aJ.ls.length≤900∧j.aa.av≤4) (pQ:Mk j) (hr:jk j=(r0,r1)):
    Calls y4 14 #[vP f 0] w (dR fun v w'=> ∃ dJ dL bf,v= .agg #[.slice dJ r0.eO.ls.length dL, .bool r0.iQ]∧Own w D w' [row dJ r0.eO.ls.length dL (q6 bC.cells bf) 42 21,sepL (q6 bC.own bf),iE f r1]∧(s8 bC.abs bf=r0.eO.ls)∧(r1.aa.ag.ls.length=j.aa.ag.ls.length∧r1.aa.av=j.aa.av∧r1.au.ls.length+r1.aa.ak.ls.length≤8∧r1.aa.aJ.ls.length≤j.aa.aJ.ls.length+0)∧(Mk r1)):=by
 refine cb Tryz.func14 ?_
 refine sr ?_
 refine dM [.slice none 0 0, .bool false] 47 H ?_
 intro gF pR lY
 refine ns (Mz rfl ?_)
 refine WL.do rfl (Gg S5 rfl ?_ (fun _ _ k=>k))
 refine cb S6 ?_
 refine sr ?_
 refine dM [.slice none 0 0, .bool false] 47 lY ?_
 intro gG pU lZ
 refine nt (FW ?_)
 have l5:=lZ.pf [2]
 obtain⟨jg,gH,jh,gI,l6,jl,gJ,l7,pV,pW,pX,pY,p8,p9,qb,qc,qf,qg,qh,qi,qj,qm,qo,qw,qx,qy,dO,dP,jm,jo,jq,jr,jv,jw,nO,bg⟩:=ji l5
 refine FV (Mz rfl (Kz (vP f 0) (Kz (vP f 0) (La ([vI j.aa.av,vU j.aa.ay,vU j.aa.aX,vU j.aa.aL, .slice jg j.aa.ag.ls.length gH, .slice jh j.aa.ak.ls.length gI, .slice jl j.aa.aJ.ls.length gJ]) bg 0 S7 H8 ?_))))
 obtain⟨⟨n,jy⟩,dQ⟩:∃ q:(List UInt8) × Int,eD j.aa=q:=⟨_,rfl⟩
 obtain⟨qz,jA,nP,jB,aa⟩:=F3 bg
 refine cl S8 (kg _ _ j.aa jg j.aa.ag.ls.length gH jh j.aa.ak.ls.length gI l6 jl j.aa.aJ.ls.length gJ l7 n jy jA rfl (aa _ 1 _ rfl aP) (show j.aa.ag.ls.length≤gH∧j.aa.ag.ls.length≤9223372036854775807 from by omega) dO rfl (aa _ 2 _ rfl aP) (show j.aa.ak.ls.length≤gI∧j.aa.ak.ls.length≤9223372036854775807 from by omega) (fun x9 Y=>⟨aa _ 3 _ rfl (ax (P2.2 ⟨x9,Y,b1⟩) aP),aY (φ:=fun _=>_) bg (i:=3) rfl (ax (P2.2 ⟨x9,Y,b1⟩) aV)⟩) dP rfl (aa _ 4 _ rfl aP) (show j.aa.aJ.ls.length≤gJ∧j.aa.aJ.ls.length≤9223372036854775807 from by omega) (fun x9 Y=>⟨aa _ 5 _ rfl (ax (P2.2 ⟨x9,Y,b1⟩) aP),aY (φ:=fun _=>_) bg (i:=5) rfl (ax (P2.2 ⟨x9,Y,b1⟩) aV),(fun y1 k1=>⟨aa _ 5 _ rfl (ax (P2.2 ⟨x9,Y, .tail _ b1⟩) (ax (P2.2 ⟨y1,k1,b1⟩) aP)),aY (φ:=fun _=>_) bg (i:=5) rfl (ax (P2.2 ⟨x9,Y, .tail _ b1⟩) (ax (P2.2 ⟨y1,k1,b1⟩) aV))⟩)⟩) e8 i4 dQ) ?_
 rintro _ qA ⟨bi,bn,rfl,jE,dS⟩
 have jG:=jB _ _ jE
 have nQ:=jG.rowC (i:=0) rfl
 replace dS:n.length≤100000:=dS
 refine Mz rfl (Kz (.slice bi n.length bn) (Kz (vI jy) (Az rfl (Ar rfl (Mz rfl (Kz (.agg #[vP f 0, .slice none 0 0]) ?_))))))
 refine dM [vP f 0, .slice none 0 0] 98 jG ?_
 intro d qB jH
 refine Ar rfl (Mz rfl (Mz rfl ?_))
 refine WL.do rfl (Gr Tryz.call25 rfl rfl ?_ (fun _ _ k=>k))
 refine cb Tryz.func25 ?_
 refine FW (sr (Mz rfl (Kz (vP d 0) (Kz (vP d 0) (Lz (vP f 0) jH 0 O2 ?_)))))
 have l8:=jH.pb [0,1,20,21]
 have l9:=fA dO dP jm jo jq jr jv jw l8
 obtain⟨u,dU⟩:∃ q,iM j=q:=⟨_,rfl⟩
 obtain⟨qC,jI,nR,jJ,nS⟩:=Gq l9
 refine cl Tryz.call15 (tF _ _ f j u jI e8 dU) ?_
 rintro _ jK ⟨bq,gK,rfl,jL,dV⟩
 have jM:=jJ _ _ jL
 have nT:=jM.rowC (i:=0) rfl
 replace dV:u.length≤j.au.ls.length:=dV
 refine Kz (vJ u.length) (Mn rfl (bo ?_))
 have ma:Own w D jK (sepL (q6 bC.own ([]))::_):=jM.sepNil
 have mf:Own w D jK (row none 0 0 (q6 bC.cells ([])) 42 21::_):=ma.free (fB 42 21)
 have jN:=mf.pb [0,1]
 obtain⟨jO,aJ⟩:=En fun (s:Nat) av (ay:Nat) af y (a:aB) w'=>Own w D w' [row bq u.length gK (q6 (eN .u64) u) 28 1,iE f a,blk d [vP f 0, .slice av y.length ay] 98,row bi n.length bn (q6 eB n) 5 1,blk gG [.slice none 0 0, .bool false] 47,blk gF [.slice none 0 0, .bool false] 47,row av y.length ay (q6 bC.cells af) 42 21,sepL (q6 bC.own af)]∧s8 bC.abs af=y∧s≤u.length∧y.length≤6 *s∧(a.aa.ag.ls.length=j.aa.ag.ls.length∧a.aa.av=j.aa.av∧a.au.ls.length+a.aa.ak.ls.length≤8∧a.aa.aJ.ls.length≤j.aa.aJ.ls.length)∧Mk a∧eT j n u ([]) j=eT j n (r6 s u) y a
 refine C5 (fun i:Nat × (Option Addr) × Nat × (List bC) × (List bM) × aB=> [(13,vJ i.1),(12,vJ u.length),(11, .slice bq u.length gK),(0,vP d 0)]) jO (fun i=>u.length - i.1) (0,none,0, [], [],j) ⟨rfl,rfl,rfl,rfl,trivial⟩ (aJ.2 ⟨jN,(show s8 bC.abs ([])=([])∧0≤u.length∧0≤6 *0∧(j.aa.ag.ls.length=j.aa.ag.ls.length∧j.aa.av=j.aa.av∧j.au.ls.length+j.aa.ak.ls.length≤8∧j.aa.aJ.ls.length≤j.aa.aJ.ls.length)∧Mk j∧eT j n u ([]) j=eT j n (r6 0 u) ([]) j from ⟨by exact rfl,e6,e6,e6,f4,rfl⟩)⟩) ?_
 rintro ⟨s,av,ay,af,y,a⟩ nU gL
 obtain⟨aC,aK,mg,mh,mi,mo,bu⟩:=aJ.1 gL
 have mq:=az aK
 refine sr (Kz (.bool (decide (((s:Nat):Int) < ((u.length:Nat):Int)))) (nt (FW ?_)))
 by_cases dW:((s:Nat):Int) < ((u.length:Nat):Int)
 obtain⟨bv,bB⟩:=dK (ls:=u) (i:=s) pG f3 (aC.rds (i:=0) rfl) e9
 have gM:=drop_at bB
 refine jT (dT dW) (sk (FW (bo (sr (fw (.pointer (some ⟨ab bq,ao bq+s *1,none⟩)) (F4 (uE) rfl rfl ((aC.rds (i:=0) rfl).addr (i:=s) e6) e6) (fw (vU bv) (F7 rfl (bX.one E1 (((aC.rds (i:=0) rfl).elem pG bB f3).at_ (k:=0) rfl))) (An rfl (FV (Mz rfl (Mz rfl ?_))))))))))
 have jP:=aC.pf [2,6,7,1]
 obtain⟨⟨bD,U⟩,aL⟩:∃ q:bE × aB,iT (bE.mk (E4 y)) bv a=q:=⟨_,rfl⟩
 obtain⟨nV,gN,mr,gP,mD⟩:=GJ jP
 refine cl Tryz.call26 (vV _ _ d (bE.mk (E4 y)) av ay af bv f a bD U gN aK e8 f8 aL) ?_
 rintro _ nW ⟨jQ,jR,jS,rfl,gQ,bF⟩
 have dX:=gP _ _ gQ
 have mE:=az bF
 have mF:=dX.rowC (i:=1) rfl
 have aM:=rM aL
 have mG:Mk U:=aM.2.2.1 f4
 have mH:U.aa.ag.ls.length=a.aa.ag.ls.length∧U.aa.av=a.aa.av∧U.au.ls.length+U.aa.ak.ls.length≤8∧U.aa.aJ.ls.length≤a.aa.aJ.ls.length+0:=Iu aM.2.1 e6
 have mI:bD.bq.ls.length≤y.length+6:=aM.2.2.2 f4
 refine D0 (bN (FY (FV (fw (vJ (s+1)) (FX (e:=C7.wrap (((s:Nat):Int)+1)) yk f1) (Mz rfl (D0 ?_))))))
 have jU:=dX.px [4,3] [] [1,2]
 exact Gc (s+1,jQ,jR,jS,bD.bq.ls,U) ⟨rfl,rfl,rfl,rfl,trivial⟩ (aJ.2 ⟨jU,by exact bF,e6,e6,e6,f4,et (bu) (et (congrArg (fun q=>eT j n q y a) gM) (ai aL))⟩) (by show u.length - (s+1) < u.length - s; omega)
 refine jF (dF dW) (D1 (F6 ?_))
 have gT:eT j n u ([]) j=(y,a):=et (bu) (et (congrArg (fun q=>eT j n q y a) (eZ (ls:=u) (i:=s) e6)) rfl)
 refine F6 (Gi (FY (FW (FW ?_))))
 have jV:=aC.px [] [0] []
 obtain⟨dY,dZ,Z,aD,bG,d9,ed,ek,eu,eF,eH,eO,eP,eQ,eU,eX,eY,fq,fu,fC,fD,fE,fF,fG,fH,fJ,bH,gU,gV,gW,gX,gY,gZ,ib,mJ,bJ⟩:=ji jV
 refine FV (Mz rfl (Kz (vP d 0) (Kz (vP d 0) (Lz (vP f 0) bJ 18 O2 (Kz (vP f 0) (Kz (vP f 0) (Kz (vP f 5) (Lz (.slice Z a.aa.ak.ls.length aD) bJ 0 Tryz.isAgg30 (Kz (vJ a.aa.ak.ls.length) (Mn rfl (bo ?_)))))))))))
 have jX:=bJ.pf []
 obtain⟨jY,aN⟩:=AU fun (t:Nat) aF (aG:Nat) ag z w'=>Own w D w' [mK f a dY a.aa.ag.ls.length dZ Z aD d9 ed eu eF eO eP eU eX fq fu fD fE fG fH,row dY a.aa.ag.ls.length dZ (q6 aW.cells a.aa.ag.ls) 89 2,row Z a.aa.ak.ls.length aD (q6 aA.cells bG) 60 5,sepL (q6 aA.own bG),row d9 a.aa.aJ.ls.length ed (q6 aT.cells ek) 56 4,sepL (q6 aT.own ek),row eu a.au.ls.length eF (q6 bz.cells eH) 107 9,sepL (q6 bz.own eH),row eO a.bH.af.ls.length eP (q6 ae.cells eQ) 149 3,sepL (q6 ae.own eQ),row eU a.bf.af.ls.length eX (q6 ae.cells eY) 149 3,sepL (q6 ae.own eY),row fq a.bi.af.ls.length fu (q6 ae.cells fC) 149 3,sepL (q6 ae.own fC),row fD a.bn.af.ls.length fE (q6 ae.cells fF) 149 3,sepL (q6 ae.own fF),row fG a.aZ.af.ls.length fH (q6 ae.cells fJ) 149 3,sepL (q6 ae.own fJ),blk d [vP f 0, .slice aF z.length aG] 98,row bi n.length bn (q6 eB n) 5 1,blk gG [.slice none 0 0, .bool false] 47,blk gF [.slice none 0 0, .bool false] 47,row aF z.length aG (q6 bC.cells ag) 42 21,sepL (q6 bC.own ag)]∧s8 bC.abs ag=z∧t≤a.aa.ak.ls.length∧z.length≤100+1000 *t∧ja j n a a.aa.ak.ls y=ja j n a (r6 t a.aa.ak.ls) z
 refine C5 (fun i:Nat × (Option Addr) × Nat × (List bC) × (List bM)=> [(30,vJ i.1),(29,vJ a.aa.ak.ls.length),(28, .slice Z a.aa.ak.ls.length aD),(0,vP d 0)]) jY (fun i=>a.aa.ak.ls.length - i.1) (0,av,ay,af,y) ⟨rfl,rfl,rfl,rfl,trivial⟩ (aN.2 ⟨jX,by exact aK,e6,e6,rfl⟩) ?_
 rintro ⟨t,aF,aG,ag,z⟩ nX ic
 obtain⟨ah,aO,mM,mO,bK⟩:=aN.1 ic
 have mP:=az aO
 refine sr (Kz (.bool (decide (((t:Nat):Int) < ((a.aa.ak.ls.length:Nat):Int)))) (nt (FW ?_)))
 by_cases fK:((t:Nat):Int) < ((a.aa.ak.ls.length:Nat):Int)
 obtain⟨l,au⟩:=dK (ls:=bG) (i:=t) aA.len f3 (ah.rds (i:=2) rfl) e9
 have bL:=fo bH au
 have mQ:l.av.ls.length≤l.av.c∧l.av.ls.length≤9223372036854775807:=aY ah (i:=3) rfl (φ:=fun _=>_) (ax (P2.2 ⟨l,E0 au,b1⟩) aV)
 have mR:l.av.ls.length≤1000:=DL (Mk.dec f4) bL
 have ig:=drop_at bL
 refine jT (dT fK) (sk (FW (bo (sr (fw (.pointer (some ⟨ab Z,ao Z+t *5,none⟩)) (F4 (kG) rfl rfl ((ah.rds (i:=2) rfl).addr (i:=t) e6) e6) (fw (.agg (aA.cells l).toArray) (F7 rfl (Gf (cs:=(aA.cells l)) Tryz.isAgg60 Tryz.sizeOf60 ((ah.rds (i:=2) rfl).elem aA.len au f3))) ?_))))))
 refine dM [.int .u64 0,vI 0, .int .u64 0, .int .u64 0, .slice none 0 0] 60 ah ?_
 intro fM nY jZ
 refine dN (aA.cells l) 0 jZ Tryz.sizeOf60 ?_
 intro nZ bO
 refine nt (FV (Mz rfl (Kz (vP fM 0) (Lz (vU l.aU) bO 0 E1 (Kz (vP fM 4) (Lz (.slice l.av.A l.av.ls.length l.av.c) bO 0 Tryz.isAgg58 ?_))))))
 have j3:=bO.pf [19,23,24]
 obtain⟨bP,aQ⟩:∃ q,eG (bE.mk (E4 z)) l.aU l.av.ls true=q:=⟨_,rfl⟩
 obtain⟨og,ik,mU,il,iq⟩:=Gx j3
 refine cl Tryz.call27 (kF _ _ d (bE.mk (E4 z)) aF aG ag f l.aU l.av.A l.av.ls.length l.av.c l.av.ls true bP ik aO (iq _ 4 _ rfl (ax (P2.2 ⟨l,E0 au,b1⟩) aP)) rfl e6 g7 aQ) ?_
 rintro _ oh ⟨j4,j5,j6,rfl,iw,bQ⟩
 have fO:=il _ _ iw
 have mV:=az bQ
 have mW:=fO.rowC (i:=1) rfl
 have mX:bP.bq.ls.length=z.length+l.av.ls.length:=xR aQ
 refine D0 (bN (FY (FV (fw (vJ (t+1)) (FX (e:=C7.wrap (((t:Nat):Int)+1)) yk f1) (Mz rfl (D0 ?_))))))
 have ko:=fO.px [] [3] [0,22,23,24,1,2]
 exact Gc (t+1,j4,j5,j6,bP.bq.ls) ⟨rfl,rfl,rfl,rfl,trivial⟩ (aN.2 ⟨ko,by exact bQ,e6,e6,et (bK) (et (congrArg (fun q=>ja j n a q z) ig) (ai aQ))⟩) (by show a.aa.ak.ls.length - (t+1) < a.aa.ak.ls.length - t; omega)
 refine jF (dF fK) (D1 (F6 ?_))
 have iy:ja j n a a.aa.ak.ls y=z:=et (bK) (et (congrArg (fun q=>ja j n a q z) (eZ (ls:=a.aa.ak.ls) (i:=t) e6)) rfl)
 refine F6 (Gi (FY (FW (sr (An rfl ?_)))))
 have kr:=fA bH gU gV gW gX gY gZ ib ah
 refine bo ?_
 have ku:=kr.pf []
 obtain⟨kv,C⟩:=En fun (b:Nat) p (r:Nat) I g (aH:Nat) w'=>Own w D w' [iE f a,blk d [vP f 0, .slice p g.length r] 98,row bi n.length bn (q6 eB n) 5 1,blk gG [.slice none 0 0, .bool false] 47,blk gF [.slice none 0 0, .bool false] 47,row p g.length r (q6 bC.cells I) 42 21,sepL (q6 bC.own I)]∧s8 bC.abs I=g∧(1≤b∧((g.length:Nat):Int)≤9000+b)∧D2 (j.aa.av+1 - b) < aH∧fe n a ((D2 (j.aa.av+1 - 1))+1) 1 z=fe n a aH b g
 refine C5 (fun i:Nat × (Option Addr) × Nat × (List bC) × (List bM) × Nat=> [(6,vJ i.1),(0,vP d 0)]) kv (fun i=>i.2.2.2.2.2) (1,aF,aG,ag,z,(D2 (j.aa.av+1 - 1))+1) ⟨rfl,rfl,trivial⟩ (C.2 ⟨ku,by exact aO,e6,e6,rfl⟩) ?_
 rintro ⟨b,p,r,I,g,aH⟩ ol iA
 obtain⟨kw,E,mY,mZ,J⟩:=C.1 iA
 have ng:=az E
 obtain⟨h,iB⟩:∃ q,aH=q+1:=⟨aH - 1,e6⟩
 subst iB
 refine FW (FW ?_)
 obtain⟨S,B,fP,bR,ky,fQ,bS,kz,om,oo,oq,ou,ow,oz,oC,oD,oF,oG,oH,oI,oJ,oK,oM,oN,oO,oP,F,G,K,L,M,N,O,P,nk,Q⟩:=ji kw
 refine FV (Mz rfl (Mz rfl (Kz (vP d 0) (Kz (vP d 0) (Lz (vP f 0) Q 18 O2 (Kz (vP f 0) (Kz (vP f 0) (Kz (vP f 0) (Lz (vI a.aa.av) Q 0 C6 (Kz (.bool (decide (((b:Nat):Int)≤a.aa.av))) (nt ?_)))))))))))
 by_cases R:((b:Nat):Int)≤a.aa.av
 refine jT (dT R) (sk (FW (bo (sr (Mz rfl (Kz (vP d 0) (Kz (vP d 0) (Lz (vP f 0) Q 18 O2 (Mz rfl ?_)))))))))
 refine WL.do rfl (Gg Tryz.call28 rfl ?_ (fun _ _ k=>k))
 refine cb Tryz.func28 ?_
 refine sr (An rfl (FW ?_))
 refine oL 24 [] (Gb Gj) Q ?_
 intro oQ V
 refine qv 0 rfl rfl (qv 1 rfl rfl (qp f 0 2 rfl (qp f 29 3 rfl ?_)))
 by_cases W:((b:Nat):Int)=1
 refine qt (v:=vP f 30) 4 rfl (fun _ _=>by(try unfold vJ); rw [show ((b:Nat):Int)=1 from by omega]; exact yk) (ql 5 rfl 0 E1 rfl rfl rfl (qv 6 rfl rfl (qp f 0 7 rfl (qp f 0 8 rfl (qp f 2 9 rfl (ql 10 rfl 0 E1 rfl rfl rfl (qk (.bool (decide (((a.dz:Nat):Int) ≥ ((a.aa.aX:Nat):Int)))) 11 rfl (qa 12 rfl rfl (qn (FY (rt (rs (fw (.bool (decide (¬ (((a.dz:Nat):Int) ≥ ((a.aa.aX:Nat):Int))))) (Gm (e:= !(decide (((a.dz:Nat):Int) ≥ ((a.aa.aX:Nat):Int)))) yk decide_not.symm) (nt ?_))))))))))))))
 by_cases aR:((a.dz:Nat):Int) ≥ ((a.aa.aX:Nat):Int)
 refine jF (dF (JR aR)) (Gn (bN (FY (FV (Mz rfl (fw (vJ (b+1)) (FX (e:=C7.wrap (((b:Nat):Int)+1)) yk f1) (Az rfl (D0 ?_))))))))
 have kC:=fA F G K L M N O P V
 have kD:=kC.pf []
 exact Gc (b+1,p,r,I,g,h) ⟨rfl,rfl,trivial⟩ (C.2 ⟨kD,by exact E,e6,e6,et (J) (et (ip R) (et (ip W) (ip aR)))⟩) (by show h < h+1; omega)
 refine jT (dT aR) (FV (Mz rfl (Mz rfl ?_)))
 refine WL.do rfl (Gg T1 rfl ?_ (fun _ _ k=>k))
 refine cb T2 ?_
 have kE:=V.pf [0,18,20,21]
 refine xz [32] Gj kE ?_
 intro oU bT
 refine qv 0 rfl rfl (qv 1 rfl rfl (qv 2 rfl rfl (qp d 0 3 rfl (qp d 0 4 rfl (ql 5 rfl 1 O2 rfl rfl rfl (qp f 0 6 rfl (qp f 0 7 rfl (qp f 2 8 rfl (ql 9 rfl 0 E1 rfl rfl rfl (qv 10 rfl rfl (qp d 0 11 rfl (qp d 0 12 rfl (ql 13 rfl 1 O2 rfl rfl rfl (qp f 0 14 rfl (qp f 0 15 rfl (qp f 3 16 rfl (ql 17 rfl 0 E1 rfl rfl rfl (qv 18 rfl rfl (qp d 0 19 rfl (qp d 0 20 rfl (ql 21 rfl 1 O2 rfl rfl rfl (qv 23 rfl rfl (qp d 0 24 rfl (qp d 0 25 rfl (ql 26 rfl 1 O2 rfl rfl rfl (qp f 0 27 rfl (qp f 0 28 rfl (qp f 4 29 rfl (ql 30 rfl 0 T3 rfl rfl rfl ?_)))))))))))))))))))))))))))))
 refine GX.do 22 rfl e7 (Gg T4 rfl ?_ (fun _ _ k=>k))
 refine cb T5 ?_
 refine sr (An rfl (FW (sr (Mz rfl (Kz (vP f 0) (Kz (vP f 34) (Lz (.pointer none) bT 0 T6 (Kz (.bool true) (nt (jt (sr (An rfl (rt (tR (rs ?_)))))))))))))))
 refine⟨.inr ⟨_,bT⟩, ?_⟩
 refine qk (.agg (gD 8 0 ((b:Nat):Int) 0 0 0 0 0 0 0 a.aa.aX a.aa.aL 0 0 0 false ([]) ([]) none 0 0 none 0 0 S a.aa.ag.ls.length B).toArray) 31 rfl ?_
 have kH:=bT.pf [1,22,23]
 obtain⟨bU,bV⟩:∃ q,df (bE.mk (E4 g)) (bM.mk 8 0 ((b:Nat):Int) 0 0 0 0 0 0 0 a.aa.aX a.aa.aL 0 0 0 false (bI.mk ([]) ([])) (E4 ([])) (E4 ([])) (E4 a.aa.ag.ls))=q:=⟨_,rfl⟩
 obtain⟨oV,iC,nu,iD,iF⟩:=Gx kH
 refine qd 32 rfl (Gg O5 rfl (fI _ _ d (bE.mk (E4 g)) p r I f (bM.mk 8 0 ((b:Nat):Int) 0 0 0 0 0 0 0 a.aa.aX a.aa.aL 0 0 0 false (bI.mk ([]) ([])) (E4 ([])) (E4 ([])) (E4 a.aa.ag.ls)) none 0 0 none 0 0 [] S a.aa.ag.ls.length B bU iC E rfl (fun _ _=>bA.nil _ _ _) f2 rfl rfl (fun _ _=>bA.nil _ _ _) f2 (fun _ Y=>absurd Y B3) rfl (iF _ 3 _ rfl aP) (show a.aa.ag.ls.length≤B∧a.aa.ag.ls.length≤9223372036854775807 from by omega) e8 (by first | assumption | exact dE f4 | exact fun x hx=>absurd hx B3 | exact dE (Mk.l8 f4).1 | exact dE (Mk.lq f4).1 | exact dE (Mk.mo f4).1 | exact dE (Mk.mr f4).1 | exact dE (Mk.mq f4).1) bV) ?_)
 rintro _ oW ⟨kI,kJ,kK,rfl,iG,bW,bY⟩
 have fT:=iD _ _ iG
 have ny:=az bW
 have nz:=fT.rowC (i:=1) rfl
 replace bY:bU.bq.ls.length=g.length+1:=bY
 refine⟨.inl e7, ?_⟩
 refine qn (Gh (res0 rfl) (D0 (bN (FY (FV (Mz rfl (fw (vJ (b+1)) (FX (e:=C7.wrap (((b:Nat):Int)+1)) yk f1) (Az rfl (D0 ?_)))))))))
 have kL:=fT.pb [0,1,2,4,5,23]
 have kM:=fA F G K L M N O P kL
 have kN:=kM.pb [4,5,2,3]
 exact Gc (b+1,kI,kJ,kK,bU.bq.ls,h) ⟨rfl,rfl,trivial⟩ (C.2 ⟨kN,by exact bW,e6,e6,et (J) (et (ip R) (et (ip W) (et (iN aR) (ai bV))))⟩) (by show h < h+1; omega)
 by_cases aj:((b:Nat):Int)=2
 refine qt (v:=vP f 31) 4 rfl (fun _ _=>by(try unfold vJ); rw [show ((b:Nat):Int)=2 from by omega]; exact yk) (ql 5 rfl 0 E1 rfl rfl rfl (qv 6 rfl rfl (qp f 0 7 rfl (qp f 0 8 rfl (qp f 2 9 rfl (ql 10 rfl 0 E1 rfl rfl rfl (qk (.bool (decide (((a.dB:Nat):Int) ≥ ((a.aa.aX:Nat):Int)))) 11 rfl (qa 12 rfl rfl (qn (FY (rt (rs (fw (.bool (decide (¬ (((a.dB:Nat):Int) ≥ ((a.aa.aX:Nat):Int))))) (Gm (e:= !(decide (((a.dB:Nat):Int) ≥ ((a.aa.aX:Nat):Int)))) yk decide_not.symm) (nt ?_))))))))))))))
 by_cases aS:((a.dB:Nat):Int) ≥ ((a.aa.aX:Nat):Int)
 refine jF (dF (JR aS)) (Gn (bN (FY (FV (Mz rfl (fw (vJ (b+1)) (FX (e:=C7.wrap (((b:Nat):Int)+1)) yk f1) (Az rfl (D0 ?_))))))))
 have kP:=fA F G K L M N O P V
 have kQ:=kP.pf []
 exact Gc (b+1,p,r,I,g,h) ⟨rfl,rfl,trivial⟩ (C.2 ⟨kQ,by exact E,e6,e6,et (J) (et (ip R) (et (iN W) (et (ip aj) (ip aS))))⟩) (by show h < h+1; omega)
 refine jT (dT aS) (FV (Mz rfl (Mz rfl ?_)))
 refine WL.do rfl (Gg T1 rfl ?_ (fun _ _ k=>k))
 refine cb T2 ?_
 have kR:=V.pf [0,18,20,21]
 refine xz [32] Gj kR ?_
 intro oZ bZ
 refine qv 0 rfl rfl (qv 1 rfl rfl (qv 2 rfl rfl (qp d 0 3 rfl (qp d 0 4 rfl (ql 5 rfl 1 O2 rfl rfl rfl (qp f 0 6 rfl (qp f 0 7 rfl (qp f 2 8 rfl (ql 9 rfl 0 E1 rfl rfl rfl (qv 10 rfl rfl (qp d 0 11 rfl (qp d 0 12 rfl (ql 13 rfl 1 O2 rfl rfl rfl (qp f 0 14 rfl (qp f 0 15 rfl (qp f 3 16 rfl (ql 17 rfl 0 E1 rfl rfl rfl (qv 18 rfl rfl (qp d 0 19 rfl (qp d 0 20 rfl (ql 21 rfl 1 O2 rfl rfl rfl (qv 23 rfl rfl (qp d 0 24 rfl (qp d 0 25 rfl (ql 26 rfl 1 O2 rfl rfl rfl (qp f 0 27 rfl (qp f 0 28 rfl (qp f 4 29 rfl (ql 30 rfl 0 T3 rfl rfl rfl ?_)))))))))))))))))))))))))))))
 refine GX.do 22 rfl e7 (Gg T4 rfl ?_ (fun _ _ k=>k))
 refine cb T5 ?_
 refine sr (An rfl (FW (sr (Mz rfl (Kz (vP f 0) (Kz (vP f 34) (Lz (.pointer none) bZ 0 T6 (Kz (.bool true) (nt (jt (sr (An rfl (rt (tR (rs ?_)))))))))))))))
 refine⟨.inr ⟨_,bZ⟩, ?_⟩
 refine qk (.agg (gD 8 0 ((b:Nat):Int) 0 0 0 0 0 0 0 a.aa.aX a.aa.aL 0 0 0 false ([]) ([]) none 0 0 none 0 0 S a.aa.ag.ls.length B).toArray) 31 rfl ?_
 have kS:=bZ.pf [1,22,23]
 obtain⟨cu,cz⟩:∃ q,df (bE.mk (E4 g)) (bM.mk 8 0 ((b:Nat):Int) 0 0 0 0 0 0 0 a.aa.aX a.aa.aL 0 0 0 false (bI.mk ([]) ([])) (E4 ([])) (E4 ([])) (E4 a.aa.ag.ls))=q:=⟨_,rfl⟩
 obtain⟨o5,iH,nA,iI,iJ⟩:=Gx kS
 refine qd 32 rfl (Gg O5 rfl (fI _ _ d (bE.mk (E4 g)) p r I f (bM.mk 8 0 ((b:Nat):Int) 0 0 0 0 0 0 0 a.aa.aX a.aa.aL 0 0 0 false (bI.mk ([]) ([])) (E4 ([])) (E4 ([])) (E4 a.aa.ag.ls)) none 0 0 none 0 0 [] S a.aa.ag.ls.length B cu iH E rfl (fun _ _=>bA.nil _ _ _) f2 rfl rfl (fun _ _=>bA.nil _ _ _) f2 (fun _ Y=>absurd Y B3) rfl (iJ _ 3 _ rfl aP) (show a.aa.ag.ls.length≤B∧a.aa.ag.ls.length≤9223372036854775807 from by omega) e8 (by first | assumption | exact dE f4 | exact fun x hx=>absurd hx B3 | exact dE (Mk.l8 f4).1 | exact dE (Mk.lq f4).1 | exact dE (Mk.mo f4).1 | exact dE (Mk.mr f4).1 | exact dE (Mk.mq f4).1) cz) ?_)
 rintro _ o6 ⟨kT,kU,kV,rfl,iK,cB,cK⟩
 have fU:=iI _ _ iK
 have nC:=az cB
 have nD:=fU.rowC (i:=1) rfl
 replace cK:cu.bq.ls.length=g.length+1:=cK
 refine⟨.inl e7, ?_⟩
 refine qn (Gh (res0 rfl) (D0 (bN (FY (FV (Mz rfl (fw (vJ (b+1)) (FX (e:=C7.wrap (((b:Nat):Int)+1)) yk f1) (Az rfl (D0 ?_)))))))))
 have kW:=fU.pb [0,1,2,4,5,23]
 have kX:=fA F G K L M N O P kW
 have kY:=kX.pb [4,5,2,3]
 exact Gc (b+1,kT,kU,kV,cu.bq.ls,h) ⟨rfl,rfl,trivial⟩ (C.2 ⟨kY,by exact cB,e6,e6,et (J) (et (ip R) (et (iN W) (et (ip aj) (et (iN aS) (ai cz)))))⟩) (by show h < h+1; omega)
 by_cases aU:((b:Nat):Int)=3
 refine qt (v:=vP f 32) 4 rfl (fun _ _=>by(try unfold vJ); rw [show ((b:Nat):Int)=3 from by omega]; exact yk) (ql 5 rfl 0 E1 rfl rfl rfl (qv 6 rfl rfl (qp f 0 7 rfl (qp f 0 8 rfl (qp f 2 9 rfl (ql 10 rfl 0 E1 rfl rfl rfl (qk (.bool (decide (((a.dA:Nat):Int) ≥ ((a.aa.aX:Nat):Int)))) 11 rfl (qa 12 rfl rfl (qn (FY (rt (rs (fw (.bool (decide (¬ (((a.dA:Nat):Int) ≥ ((a.aa.aX:Nat):Int))))) (Gm (e:= !(decide (((a.dA:Nat):Int) ≥ ((a.aa.aX:Nat):Int)))) yk decide_not.symm) (nt ?_))))))))))))))
 by_cases aX:((a.dA:Nat):Int) ≥ ((a.aa.aX:Nat):Int)
 refine jF (dF (JR aX)) (Gn (bN (FY (FV (Mz rfl (fw (vJ (b+1)) (FX (e:=C7.wrap (((b:Nat):Int)+1)) yk f1) (Az rfl (D0 ?_))))))))
 have kZ:=fA F G K L M N O P V
 have lc:=kZ.pf []
 exact Gc (b+1,p,r,I,g,h) ⟨rfl,rfl,trivial⟩ (C.2 ⟨lc,by exact E,e6,e6,et (J) (et (ip R) (et (iN W) (et (iN aj) (et (ip aU) (ip aX)))))⟩) (by show h < h+1; omega)
 refine jT (dT aX) (FV (Mz rfl (Mz rfl ?_)))
 refine WL.do rfl (Gg T1 rfl ?_ (fun _ _ k=>k))
 refine cb T2 ?_
 have lg:=V.pf [0,18,20,21]
 refine xz [32] Gj lg ?_
 intro o7 cO
 refine qv 0 rfl rfl (qv 1 rfl rfl (qv 2 rfl rfl (qp d 0 3 rfl (qp d 0 4 rfl (ql 5 rfl 1 O2 rfl rfl rfl (qp f 0 6 rfl (qp f 0 7 rfl (qp f 2 8 rfl (ql 9 rfl 0 E1 rfl rfl rfl (qv 10 rfl rfl (qp d 0 11 rfl (qp d 0 12 rfl (ql 13 rfl 1 O2 rfl rfl rfl (qp f 0 14 rfl (qp f 0 15 rfl (qp f 3 16 rfl (ql 17 rfl 0 E1 rfl rfl rfl (qv 18 rfl rfl (qp d 0 19 rfl (qp d 0 20 rfl (ql 21 rfl 1 O2 rfl rfl rfl (qv 23 rfl rfl (qp d 0 24 rfl (qp d 0 25 rfl (ql 26 rfl 1 O2 rfl rfl rfl (qp f 0 27 rfl (qp f 0 28 rfl (qp f 4 29 rfl (ql 30 rfl 0 T3 rfl rfl rfl ?_)))))))))))))))))))))))))))))
 refine GX.do 22 rfl e7 (Gg T4 rfl ?_ (fun _ _ k=>k))
 refine cb T5 ?_
 refine sr (An rfl (FW (sr (Mz rfl (Kz (vP f 0) (Kz (vP f 34) (Lz (.pointer none) cO 0 T6 (Kz (.bool true) (nt (jt (sr (An rfl (rt (tR (rs ?_)))))))))))))))
 refine⟨.inr ⟨_,cO⟩, ?_⟩
 refine qk (.agg (gD 8 0 ((b:Nat):Int) 0 0 0 0 0 0 0 a.aa.aX a.aa.aL 0 0 0 false ([]) ([]) none 0 0 none 0 0 S a.aa.ag.ls.length B).toArray) 31 rfl ?_
 have lh:=cO.pf [1,22,23]
 obtain⟨cZ,dh⟩:∃ q,df (bE.mk (E4 g)) (bM.mk 8 0 ((b:Nat):Int) 0 0 0 0 0 0 0 a.aa.aX a.aa.aL 0 0 0 false (bI.mk ([]) ([])) (E4 ([])) (E4 ([])) (E4 a.aa.ag.ls))=q:=⟨_,rfl⟩
 obtain⟨o8,iL,nE,iO,iP⟩:=Gx lh
 refine qd 32 rfl (Gg O5 rfl (fI _ _ d (bE.mk (E4 g)) p r I f (bM.mk 8 0 ((b:Nat):Int) 0 0 0 0 0 0 0 a.aa.aX a.aa.aL 0 0 0 false (bI.mk ([]) ([])) (E4 ([])) (E4 ([])) (E4 a.aa.ag.ls)) none 0 0 none 0 0 [] S a.aa.ag.ls.length B cZ iL E rfl (fun _ _=>bA.nil _ _ _) f2 rfl rfl (fun _ _=>bA.nil _ _ _) f2 (fun _ Y=>absurd Y B3) rfl (iP _ 3 _ rfl aP) (show a.aa.ag.ls.length≤B∧a.aa.ag.ls.length≤9223372036854775807 from by omega) e8 (by first | assumption | exact dE f4 | exact fun x hx=>absurd hx B3 | exact dE (Mk.l8 f4).1 | exact dE (Mk.lq f4).1 | exact dE (Mk.mo f4).1 | exact dE (Mk.mr f4).1 | exact dE (Mk.mq f4).1) dh) ?_)
 rintro _ o9 ⟨ll,lm,lq,rfl,iQ,di,dm⟩
 have fV:=iO _ _ iQ
 have nG:=az di
 have nH:=fV.rowC (i:=1) rfl
 replace dm:cZ.bq.ls.length=g.length+1:=dm
 refine⟨.inl e7, ?_⟩
 refine qn (Gh (res0 rfl) (D0 (bN (FY (FV (Mz rfl (fw (vJ (b+1)) (FX (e:=C7.wrap (((b:Nat):Int)+1)) yk f1) (Az rfl (D0 ?_)))))))))
 have lu:=fV.pb [0,1,2,4,5,23]
 have lv:=fA F G K L M N O P lu
 have lw:=lv.pb [4,5,2,3]
 exact Gc (b+1,ll,lm,lq,cZ.bq.ls,h) ⟨rfl,rfl,trivial⟩ (C.2 ⟨lw,by exact di,e6,e6,et (J) (et (ip R) (et (iN W) (et (iN aj) (et (ip aU) (et (iN aX) (ai dh))))))⟩) (by show h < h+1; omega)
 refine qt (v:=vP f 33) 4 rfl (fun _ _=>by(try unfold vJ); rw [show ((b:Nat):Int)=4 from by omega]; exact yk) (ql 5 rfl 0 E1 rfl rfl rfl (qv 6 rfl rfl (qp f 0 7 rfl (qp f 0 8 rfl (qp f 2 9 rfl (ql 10 rfl 0 E1 rfl rfl rfl (qk (.bool (decide (((a.dC:Nat):Int) ≥ ((a.aa.aX:Nat):Int)))) 11 rfl (qa 12 rfl rfl (qn (FY (rt (rs (fw (.bool (decide (¬ (((a.dC:Nat):Int) ≥ ((a.aa.aX:Nat):Int))))) (Gm (e:= !(decide (((a.dC:Nat):Int) ≥ ((a.aa.aX:Nat):Int)))) yk decide_not.symm) (nt ?_))))))))))))))
 by_cases aZ:((a.dC:Nat):Int) ≥ ((a.aa.aX:Nat):Int)
 refine jF (dF (JR aZ)) (Gn (bN (FY (FV (Mz rfl (fw (vJ (b+1)) (FX (e:=C7.wrap (((b:Nat):Int)+1)) yk f1) (Az rfl (D0 ?_))))))))
 have lC:=fA F G K L M N O P V
 have lD:=lC.pf []
 exact Gc (b+1,p,r,I,g,h) ⟨rfl,rfl,trivial⟩ (C.2 ⟨lD,by exact E,e6,e6,et (J) (et (ip R) (et (iN W) (et (iN aj) (et (iN aU) (ip aZ)))))⟩) (by show h < h+1; omega)
 refine jT (dT aZ) (FV (Mz rfl (Mz rfl ?_)))
 refine WL.do rfl (Gg T1 rfl ?_ (fun _ _ k=>k))
 refine cb T2 ?_
 have lF:=V.pf [0,18,20,21]
 refine xz [32] Gj lF ?_
 intro pg dn
 refine qv 0 rfl rfl (qv 1 rfl rfl (qv 2 rfl rfl (qp d 0 3 rfl (qp d 0 4 rfl (ql 5 rfl 1 O2 rfl rfl rfl (qp f 0 6 rfl (qp f 0 7 rfl (qp f 2 8 rfl (ql 9 rfl 0 E1 rfl rfl rfl (qv 10 rfl rfl (qp d 0 11 rfl (qp d 0 12 rfl (ql 13 rfl 1 O2 rfl rfl rfl (qp f 0 14 rfl (qp f 0 15 rfl (qp f 3 16 rfl (ql 17 rfl 0 E1 rfl rfl rfl (qv 18 rfl rfl (qp d 0 19 rfl (qp d 0 20 rfl (ql 21 rfl 1 O2 rfl rfl rfl (qv 23 rfl rfl (qp d 0 24 rfl (qp d 0 25 rfl (ql 26 rfl 1 O2 rfl rfl rfl (qp f 0 27 rfl (qp f 0 28 rfl (qp f 4 29 rfl (ql 30 rfl 0 T3 rfl rfl rfl ?_)))))))))))))))))))))))))))))
 refine GX.do 22 rfl e7 (Gg T4 rfl ?_ (fun _ _ k=>k))
 refine cb T5 ?_
 refine sr (An rfl (FW (sr (Mz rfl (Kz (vP f 0) (Kz (vP f 34) (Lz (.pointer none) dn 0 T6 (Kz (.bool true) (nt (jt (sr (An rfl (rt (tR (rs ?_)))))))))))))))
 refine⟨.inr ⟨_,dn⟩, ?_⟩
 refine qk (.agg (gD 8 0 ((b:Nat):Int) 0 0 0 0 0 0 0 a.aa.aX a.aa.aL 0 0 0 false ([]) ([]) none 0 0 none 0 0 S a.aa.ag.ls.length B).toArray) 31 rfl ?_
 have lG:=dn.pf [1,22,23]
 obtain⟨dw,dx⟩:∃ q,df (bE.mk (E4 g)) (bM.mk 8 0 ((b:Nat):Int) 0 0 0 0 0 0 0 a.aa.aX a.aa.aL 0 0 0 false (bI.mk ([]) ([])) (E4 ([])) (E4 ([])) (E4 a.aa.ag.ls))=q:=⟨_,rfl⟩
 obtain⟨pq,iR,nI,iU,iV⟩:=Gx lG
 refine qd 32 rfl (Gg O5 rfl (fI _ _ d (bE.mk (E4 g)) p r I f (bM.mk 8 0 ((b:Nat):Int) 0 0 0 0 0 0 0 a.aa.aX a.aa.aL 0 0 0 false (bI.mk ([]) ([])) (E4 ([])) (E4 ([])) (E4 a.aa.ag.ls)) none 0 0 none 0 0 [] S a.aa.ag.ls.length B dw iR E rfl (fun _ _=>bA.nil _ _ _) f2 rfl rfl (fun _ _=>bA.nil _ _ _) f2 (fun _ Y=>absurd Y B3) rfl (iV _ 3 _ rfl aP) (show a.aa.ag.ls.length≤B∧a.aa.ag.ls.length≤9223372036854775807 from by omega) e8 (by first | assumption | exact dE f4 | exact fun x hx=>absurd hx B3 | exact dE (Mk.l8 f4).1 | exact dE (Mk.lq f4).1 | exact dE (Mk.mo f4).1 | exact dE (Mk.mr f4).1 | exact dE (Mk.mq f4).1) dx) ?_)
 rintro _ pu ⟨lH,lI,lJ,rfl,iW,dz,dA⟩
 have fZ:=iU _ _ iW
 have nJ:=az dz
 have nK:=fZ.rowC (i:=1) rfl
 replace dA:dw.bq.ls.length=g.length+1:=dA
 refine⟨.inl e7, ?_⟩
 refine qn (Gh (res0 rfl) (D0 (bN (FY (FV (Mz rfl (fw (vJ (b+1)) (FX (e:=C7.wrap (((b:Nat):Int)+1)) yk f1) (Az rfl (D0 ?_)))))))))
 have lK:=fZ.pb [0,1,2,4,5,23]
 have lL:=fA F G K L M N O P lK
 have lM:=lL.pb [4,5,2,3]
 exact Gc (b+1,lH,lI,lJ,dw.bq.ls,h) ⟨rfl,rfl,trivial⟩ (C.2 ⟨lM,by exact dz,e6,e6,et (J) (et (ip R) (et (iN W) (et (iN aj) (et (iN aU) (et (iN aZ) (ai dx))))))⟩) (by show h < h+1; omega)
 refine jF (dF R) (D1 (F6 ?_))
 have iX:fe n a ((D2 (j.aa.av+1 - 1))+1) 1 z=g:=et (J) (iN R)
 refine F6 (Gi (FY (FV (Mz rfl ?_))))
 refine WL.do rfl (Gg Tryz.call30 rfl ?_ (fun _ _ k=>k))
 refine cb Tryz.func30 ?_
 refine sr (Mz rfl (Kz (vP d 0) (Kz (vP d 0) (Lz (vP f 0) Q 18 O2 (Kz (vP f 0) (Kz (vP f 34) (Lz (.pointer none) Q 0 T6 (An rfl (FW (sr (Mz rfl (Kz (.bool true) (nt (jt (rt (tR (Fin.res (res0 rfl) (D0 (Gh (res0 rfl) (ns (Mz rfl (Kz (vP f 0) (Kz (vP f 0) (La ([vI a.aa.av,vU a.aa.ay,vU a.aa.aX,vU a.aa.aL, .slice S a.aa.ag.ls.length B, .slice fP a.aa.ak.ls.length bR, .slice fQ a.aa.aJ.ls.length bS]) Q 0 S7 H8 ?_))))))))))))))))))))))))
 obtain⟨⟨ak,gp⟩,dB⟩:∃ q:(List UInt8) × Int,eD a.aa=q:=⟨_,rfl⟩
 obtain⟨pz,iY,nL,iZ,T⟩:=F3 Q
 refine cl S8 (kg _ _ a.aa S a.aa.ag.ls.length B fP a.aa.ak.ls.length bR ky fQ a.aa.aJ.ls.length bS kz ak gp iY rfl (T _ 1 _ rfl aP) (show a.aa.ag.ls.length≤B∧a.aa.ag.ls.length≤9223372036854775807 from by omega) F rfl (T _ 2 _ rfl aP) (show a.aa.ak.ls.length≤bR∧a.aa.ak.ls.length≤9223372036854775807 from by omega) (fun x9 Y=>⟨T _ 3 _ rfl (ax (P2.2 ⟨x9,Y,b1⟩) aP),aY (φ:=fun _=>_) Q (i:=3) rfl (ax (P2.2 ⟨x9,Y,b1⟩) aV)⟩) G rfl (T _ 4 _ rfl aP) (show a.aa.aJ.ls.length≤bS∧a.aa.aJ.ls.length≤9223372036854775807 from by omega) (fun x9 Y=>⟨T _ 5 _ rfl (ax (P2.2 ⟨x9,Y,b1⟩) aP),aY (φ:=fun _=>_) Q (i:=5) rfl (ax (P2.2 ⟨x9,Y,b1⟩) aV),(fun y1 k1=>⟨T _ 5 _ rfl (ax (P2.2 ⟨x9,Y, .tail _ b1⟩) (ax (P2.2 ⟨y1,k1,b1⟩) aP)),aY (φ:=fun _=>_) Q (i:=5) rfl (ax (P2.2 ⟨x9,Y, .tail _ b1⟩) (ax (P2.2 ⟨y1,k1,b1⟩) aV))⟩)⟩) e8 i4 dB) ?_
 rintro _ pE ⟨gq,gu,rfl,jb,dC⟩
 have gy:=iZ _ _ jb
 have nM:=gy.rowC (i:=0) rfl
 replace dC:ak.length≤100000:=dC
 refine Mz rfl (Kz (.slice gq ak.length gu) (Kz (vI gp) (Az rfl (An rfl (FW ?_)))))
 have lN:=gy.pb [21]
 refine oL 24 [] (Gb Gj) lN ?_
 intro pF lQ
 refine qv 0 rfl rfl (qp d 0 1 rfl (qp d 1 2 rfl (ql 3 rfl 19 S9 rfl rfl rfl (qv 4 rfl rfl (qv 5 rfl rfl ?_)))))
 obtain⟨X,dD⟩:∃ q,bytes_Equal n ak=q:=⟨_,rfl⟩
 obtain⟨pI,jc,nN,jd,dG⟩:=F3 lQ
 refine qd 6 rfl (Gg T0 rfl (qZ _ _ bi n.length bn n gq ak.length gu ak X jc (dG _ 20 _ rfl aP) rfl e6 (dG _ 0 _ rfl aP) rfl e6 dD) ?_)
 rintro _ pJ ⟨rfl,je⟩
 have gz:=jd _ _ je
 refine⟨.inr ⟨_,gz⟩, ?_⟩
 refine qk (.bool (!X)) 7 rfl (qk (.agg #[.slice p g.length r, .bool (!X)]) 8 rfl ?_)
 have lS:=gz.pf [24]
 refine qe 9 rfl (Do.store (vs:= [.slice p g.length r, .bool (!X)]) (o:=0) lS rfl rfl S3 rfl rfl rfl rfl ?_)
 intro pK lT
 have dH:=lT.pb [0]
 refine⟨.inr ⟨_,dH⟩, ?_⟩
 refine qn (FY (rt (Fin.res (ni rfl rfl (Gf (cs:= [.slice p g.length r, .bool (!X)]) S4 S3 ((dH.cls (i:=24) rfl).lit (k:=0) (m:=2) rfl))) ?_)))
 have lU:=dH.pf [21]
 refine dN [.slice p g.length r, .bool (!X)] 0 lU S3 ?_
 intro pM gB
 refine nt (rt (Fin.res (ni rfl rfl (Gf (cs:= [.slice p g.length r, .bool (!X)]) S4 S3 ((gB.cls (i:=0) rfl).lit (k:=0) (m:=2) rfl))) ?_))
 have lV:=gB.pb [0,1,20,21,22,23,24]
 have lW:=fA F G K L M N O P lV
 have lX:=lW.pk [5,6,0]
 obtain⟨rfl,rfl⟩:=gm (hr.symm.trans (show _=(jW.mk (E4 g) (!X),a) from et (ai dQ) (et (ai dU) (et (ai gT) (et (ai iy) (et (ai iX) (et (ai dB) (ai dD))))))))
 exact⟨p,r,I,rfl,lX,E,i1,f4⟩
end Go.Proofs.YtbkagebjhbphaaaGreat
