/-
 coord: its methods.
-/
import Derived.Test.YtbkagebjhbphaaaGreatCoW
namespace Go.Proofs.YtbkagebjhbphaaaGreat
open Int renaming toNat→D2
open IntKind renaming i64→C7
open List renaming drop→r6,flatMap→q6,map→s8,mem_flatMap→P3,mem_of_getElem?→E0,not_mem_nil→B3
open Ll renaming mk→E4
open _root_.Go.Proofs.Tryz renaming call12→T5,call22→S6,call29→T2,call54→S9,call55→T1,call65→O6,func12→T6,func22→S7,func29→T3,isAgg24→O3,isAgg28→E1,isAgg29→T4,isAgg3→C6,isAgg33→S8,isAgg42→M5,isAgg45→T0,isAgg47→S5,isAgg84→U0,prog→y4,sizeOf33→I0,sizeOf42→M6,sizeOf47→S4,underlying134→N4,underlying5→S3,underlying9→B5
open WL renaming nil→D0
open Wp renaming exit→D1,loop→C5
set_option maxRecDepth 100000
open Go.RowKit
set_option linter.unusedVariables false
set_option linter.unusedSectionVars false
set_option linter.unusedSimpArgs false
def bytes_Equal (l0:List UInt8) (l1:List UInt8):Bool:=
 decide (l0=l1)
theorem qX (w:World) (D:Nat→Prop) (h:Option Addr) (a k:Nat) (l0:List UInt8) (i:Option Addr) (b m:Nat) (l1:List UInt8) (j:Bool) (H:Own w D w []) (c:Ro w D fun w'=>bD w' 1 h a (q6 eB l0)) (d:a=l0.length) (n:l0.length *1≤211106232532992) (e:Ro w D fun w'=>bD w' 1 i b (q6 eB l1)) (f:b=l1.length) (o:l1.length *1≤211106232532992) (hr:bytes_Equal l0 l1=j):
    Calls y4 55 #[.slice h a k, .slice i b m] w (dR fun v w'=>v= .bool j∧Own w D w' []):=by
 subst d f
 refine cb Tryz.func55 ?_
 refine sr (Ar rfl (Mz rfl (fw (.string ⟨List.toArray l0⟩) (Ib (l:=l0) N4 S3 B5 (H.ro c) rfl) (Mz rfl (fw (.string ⟨List.toArray l1⟩) (Ib (l:=l1) N4 S3 B5 (H.ro e) rfl) (fw (.bool (decide (l0=l1))) (Ih rfl rfl) (An rfl (rt (rs ?_)))))))))
 have g:=H.pk []
 obtain rfl:_=decide (l0=l1):=hr.symm.trans rfl
 exact⟨rfl,g⟩
def eF (c:aB) (d:bQ):jW × Int × aB:=
 if d.aJ≤10 then bnd (mf d) fun k=>if k=0 then if d.eO=0 then if d.aJ > c.aa.av then(jW.mk (E4 ([])) false,180,c) else bnd (eD c.aa) fun l=>bnd (iG (bH.mk (E4 ([]))) d c) fun a=>bnd (eD a.2.aa) fun e=>bnd (bytes_Equal l.1 e.1) fun f=>(jW.mk (E4 a.1.bB.ls) (!f),0,a.2) else(jW.mk (E4 ([])) false,180,c) else(jW.mk (E4 ([])) false,180,c) else bnd (mf d) fun g=>if g=0 then if d.eO=0 then bnd (eD c.aa) fun h=>bnd (iG (bH.mk (E4 ([]))) d c) fun b=>bnd (eD b.2.aa) fun i=>bnd (bytes_Equal h.1 i.1) fun j=>(jW.mk (E4 b.1.bB.ls) (!j),0,b.2) else(jW.mk (E4 ([])) false,180,c) else(jW.mk (E4 ([])) false,180,c)
set_option maxHeartbeats 4000000 in
theorem jK (w:World) (D:Nat→Prop) (z:Nat) (f:aB) (a:bQ) (l:Option Addr) (dB g:Nat) (n:Option Addr) (dC h:Nat) (P:List af) (p:Option Addr) (dD j:Nat) (r0:jW) (r1:Int) (r2:aB) (H:Own w D w [iE z f]) (fH:dB=a.aG.ls.length) (av:Ro w D fun w'=>bD w' 6 l a.aG.ls.length (q6 bC.cells a.aG.ls)) (ky:a.aG.ls.length≤g∧a.aG.ls.length≤9223372036854775807) (Q:s8 af.abs P=a.ah.ls) (fI:dC=a.ah.ls.length) (ax:Ro w D fun w'=>bD w' 3 n a.ah.ls.length (q6 af.cells P)) (kz:a.ah.ls.length≤h∧a.ah.ls.length≤9223372036854775807) (u:∀ x ∈ P,Ro w D (fun w'=>bD w' 2 x.au.A x.au.ls.length (q6 aL.cells x.au.ls))∧(x.au.ls.length≤x.au.c∧x.au.ls.length≤9223372036854775807)) (fJ:dD=a.ag.ls.length) (aA:Ro w D fun w'=>bD w' 2 p a.ag.ls.length (q6 bv.cells a.ag.ls)) (kD:a.ag.ls.length≤j∧a.ag.ls.length≤9223372036854775807) (nQ:f.aa.ag.ls.length≤1000∧f.ak.ls.length+f.aa.aj.ls.length≤8∧f.aa.aI.ls.length≤900∧jZ a.aU∧a.aG.ls.length≤140737488355328∧a.ah.ls.length≤140737488355328∧a.ag.ls.length≤140737488355328) (nR:Mk f) (hr:eF f a=(r0,r1,r2)):
    Calls y4 13 #[vP z 0, .agg (gD a.aH a.aJ a.eO a.aS a.dz a.eu a.aU a.ax a.bi a.dW a.bf a.aK a.dI a.cZ a.xN a.d9 a.bV.bK a.bV.bW l dB g n dC h p dD j).toArray] w (dR fun v w'=> ∃ (dG:Option Addr) (dH:Nat) (aY:List bF),v= .tuple #[.agg #[.slice dG r0.eP.ls.length dH, .bool r0.iQ],vI r1]∧Own w D w' [row dG r0.eP.ls.length dH (q6 bF.cells aY) 42 21,sepL (q6 bF.own aY),iE z r2]∧(s8 bF.abs aY=r0.eP.ls)∧(r2.aa.ag.ls.length=f.aa.ag.ls.length∧r2.aa.av=f.aa.av∧r2.ak.ls.length+r2.aa.aj.ls.length≤8∧r2.aa.aI.ls.length≤f.aa.aI.ls.length+1)∧(Mk r2)):=by
 subst fH fI fJ
 have kw:=az Q
 refine cb Tryz.func13 ?_
 refine sr ?_
 refine dM (gT a l g n h p j) 42 H ?_
 intro G nS kE
 refine dM [.slice none 0 0, .bool false] 47 kE ?_
 intro aM nT kF
 refine An rfl (FU ?_)
 have kG:=kF.pf [2]
 obtain⟨dn,aU,dw,aW,iq,dx,aX,iw,nU,nV,nW,nX,nY,nZ,og,oh,ol,om,oo,oq,ou,ow,oz,oC,oD,oF,B,C,R,S,T,U,V,W,lJ,kH⟩:=ji kG
 refine oJ 20 [] (F8 Gh) kH ?_
 intro oG dz
 refine qp G 1 0 rfl (ql 1 rfl 19 C6 rfl rfl rfl (qk (.bool (decide (a.aJ≤10))) 2 rfl (qv 3 rfl rfl ?_)))
 by_cases r:a.aJ≤10
 refine F6 (v:=vP G 1) (rs:= []) 4 rfl rfl rfl (dT r) e7 (fun _ _=>yk) (F6 (v:=vI a.aJ) (rs:= []) 5 rfl rfl rfl (dT r) e7 (fun _ ⟨_,H9⟩=>F5 rfl (bZ.one C6 (jL.of (H9.cls (i:=19) rfl) rfl))) (F6 (v:=vP z 0) (rs:= []) 6 rfl rfl rfl (dT r) e7 (fun _ _=>F7 rfl) (F6 (v:=vP z 0) (rs:= []) 7 rfl rfl rfl (dT r) e7 (fun _ _=>yk) (F6 (v:=vP z 0) (rs:= []) 8 rfl rfl rfl (dT r) e7 (fun _ _=>yk) (F6 (v:=vP z 0) (rs:= []) 9 rfl rfl rfl (dT r) e7 (fun _ _=>yk) (F6 (v:=vI f.aa.av) (rs:= []) 10 rfl rfl rfl (dT r) e7 (fun _ ⟨_,H9⟩=>F5 rfl (bZ.one C6 (jL.of (H9.cls (i:=0) rfl) rfl))) (F6 (v:= .bool (decide (a.aJ > f.aa.av))) (rs:= []) 11 rfl rfl rfl (dT r) e7 (fun _ _=>yk) (qt (v:= .bool (decide (a.aJ > f.aa.av))) 12 rfl (fun _ _=>Gb rfl (dT r) rfl) (qa 13 rfl rfl (qn (FW (FU (sr (La (gT a l g n h p j) dz 19 M5 M6 ?_))))))))))))))
 obtain⟨aZ,ag⟩:∃ q,mf a=q:=⟨_,rfl⟩
 obtain⟨oH,iy,aQ,iA,lK⟩:=FY dz
 refine cl Tryz.call21 (uR _ _ a l a.aG.ls.length g n a.ah.ls.length h P p a.ag.ls.length j aZ iy rfl (aQ _ av) (show a.aG.ls.length≤g∧a.aG.ls.length≤9223372036854775807 from by omega) Q rfl (aQ _ ax) (show a.ah.ls.length≤h∧a.ah.ls.length≤9223372036854775807 from by omega) (fun s t=>⟨aQ _ (u s t).1,(u s t).2⟩) rfl (aQ _ aA) (show a.ag.ls.length≤j∧a.ag.ls.length≤9223372036854775807 from by omega) i3 ag) ?_
 rintro _ oI ⟨rfl,iB⟩
 have bf:=iA _ _ iB
 have lL: ¬ (aZ=0)∨(a.aG.ls.length≤24∧a.ag.ls.length≤1000∧a.ah.ls.length≤1000∧(¬ (a.aH=1)∨11≤a.aJ∧a.aJ≤14)∧(¬ (a.aH=9)∨1≤a.aJ∧a.aJ≤4)):=Cz ag
 refine fw (.bool (decide (¬ (aZ=0)))) (Gi (e:= !(decide (aZ=0))) yk decide_not.symm) (Mz rfl ?_)
 by_cases O:aZ=0
 refine gw (vP G 2) (dF (JP O)) yk (gw (vI a.eO) (dF (JP O)) (F5 rfl (bZ.one C6 (jL.of (bf.cls (i:=19) rfl) rfl))) (gw (.bool (decide (¬ (a.eO=0)))) (dF (JP O)) (Gi (e:= !(decide (a.eO=0))) yk decide_not.symm) (fw (.bool (decide (¬ (a.eO=0)))) (FX rfl (dF (JP O)) rfl) (Mz rfl ?_))))
 by_cases aN:a.eO=0
 refine gw (.bool (decide (a.aJ > f.aa.av))) (dF (JP aN)) (F7 rfl) (fw (.bool (decide (a.aJ > f.aa.av))) (FX rfl (dF (JP aN)) rfl) (nt ?_))
 by_cases dA:a.aJ > f.aa.av
 refine jT (dT dA) (sr (Kz (.agg #[.slice none 0 0, .bool false]) ?_))
 have kJ:=bf.pf [18]
 refine dN [.slice none 0 0, .bool false] 0 kJ S4 ?_
 intro iC iD
 refine An rfl (rt (tR (Fin.res (kC (vs:= [.agg #[.slice none 0 0, .bool false],vI 180]) rfl (dS.cell rfl (Gc (cs:= [.slice none 0 0, .bool false]) S5 S4 ((iD.cls (i:=0) rfl).lit (k:=0) (m:=2) rfl)) (dS.tmp rfl dS.nil)) (JM rfl)) ?_)))
 have kK:=iD.pb [0,19]
 have kL:=fA B C R S T U V W kK
 have kM:Own w D iC [sepL (q6 bF.own ([])),iE z f,blk aM [.slice none 0 0, .bool false] 47,blk G (gT a l g n h p j) 42]:=kL.sepNil
 have kN:Own w D iC (row none 0 0 (q6 bF.cells ([])) 42 21::_):=kM.free (fB 42 21)
 have kP:=kN.pk [0,1,2]
 obtain⟨rfl,rfl,rfl⟩:=zt (hr.symm.trans (show _=(jW.mk (E4 ([])) false,180,f) from et (ip r) (et (ai ag) (et (ip O) (et (ip aN) (ip dA))))))
 exact⟨none,0, [],rfl,kP,rfl,i1,f4⟩
 refine jF (dF dA) (sk (sr (Mz rfl (Kz (.func (.func 23) #[] #[vP G 0]) ?_))))
 refine WL.do rfl (Gd S6 rfl ?_ (fun _ _ k=>k))
 refine cb S7 ?_
 refine sr ?_
 refine dM [.slice none 0 0, .bool false] 47 bf ?_
 intro kQ oK bg
 refine ns (Mz rfl (Kz (vP z 0) (Kz (vP z 0) (La ([vI f.aa.av,vU f.aa.ax,vU f.aa.bf,vU f.aa.aK, .slice dn f.aa.ag.ls.length aU, .slice dw f.aa.aj.ls.length aW, .slice dx f.aa.aI.ls.length aX]) bg 1 S8 I0 ?_))))
 obtain⟨⟨aG,iF⟩,dI⟩:∃ q:(List UInt8) × Int,eD f.aa=q:=⟨_,rfl⟩
 obtain⟨oL,iH,lM,iI,ah⟩:=FY bg
 refine cl S9 (kg _ _ f.aa dn f.aa.ag.ls.length aU dw f.aa.aj.ls.length aW iq dx f.aa.aI.ls.length aX iw aG iF iH rfl (ah _ 2 _ rfl aV) (show f.aa.ag.ls.length≤aU∧f.aa.ag.ls.length≤9223372036854775807 from by omega) B rfl (ah _ 3 _ rfl aV) (show f.aa.aj.ls.length≤aW∧f.aa.aj.ls.length≤9223372036854775807 from by omega) (fun s t=>⟨ah _ 4 _ rfl (ay (P3.2 ⟨s,t,b1⟩) aV),bz (φ:=fun _=>_) bg (i:=4) rfl (ay (P3.2 ⟨s,t,b1⟩) bq)⟩) C rfl (ah _ 5 _ rfl aV) (show f.aa.aI.ls.length≤aX∧f.aa.aI.ls.length≤9223372036854775807 from by omega) (fun s t=>⟨ah _ 6 _ rfl (ay (P3.2 ⟨s,t,b1⟩) aV),bz (φ:=fun _=>_) bg (i:=6) rfl (ay (P3.2 ⟨s,t,b1⟩) bq),(fun y1 k1=>⟨ah _ 6 _ rfl (ay (P3.2 ⟨s,t, .tail _ b1⟩) (ay (P3.2 ⟨y1,k1,b1⟩) aV)),bz (φ:=fun _=>_) bg (i:=6) rfl (ay (P3.2 ⟨s,t, .tail _ b1⟩) (ay (P3.2 ⟨y1,k1,b1⟩) bq))⟩)⟩) e8 i4 dI) ?_
 rintro _ lN ⟨bu,bA,rfl,fK,bB⟩
 have dJ:=iI _ _ fK
 have kR:=dJ.rowC (i:=0) rfl
 replace bB:aG.length≤100000:=bB
 refine Mz rfl (Kz (.slice bu aG.length bA) (Kz (vI iF) (Az rfl (Ar rfl (Mz rfl (Kz (.agg #[vP z 0, .slice none 0 0]) ?_))))))
 refine dM [vP z 0, .slice none 0 0] 98 dJ ?_
 intro aR dK dL
 refine Ar rfl (Mz rfl (Mz rfl ?_))
 refine WL.do rfl (Gp Tryz.call23 rfl rfl ?_ (fun _ _ k=>k))
 refine cb Tryz.func23 ?_
 refine FT (Mz rfl (La (gT a l g n h p j) dL 22 M5 M6 ?_))
 have iJ:=dL.pb [0,1,2,21,22]
 have iK:=fA B C R S T U V W iJ
 have iL:Own w D dK [sepL (q6 bF.own ([])),iE z f,blk aR [vP z 0, .slice none 0 0] 98,row bu aG.length bA (q6 eB aG) 5 1,blk kQ [.slice none 0 0, .bool false] 47,blk aM [.slice none 0 0, .bool false] 47,blk G (gT a l g n h p j) 42]:=iK.sepNil
 have iM:Own w D dK (row none 0 0 (q6 bF.cells ([])) 42 21::_):=iL.free (fB 42 21)
 have iO:=iM.pf [3]
 obtain⟨⟨L,b⟩,aO⟩:∃ q:bH × aB,iG (bH.mk (E4 ([]))) a f=q:=⟨_,rfl⟩
 obtain⟨lQ,fM,aC,fO,kS⟩:=GH iO
 refine cl Tryz.call24 (rJ _ _ aR (bH.mk (E4 ([]))) none 0 ([]) a l a.aG.ls.length g n a.ah.ls.length h P p a.ag.ls.length j z f L b fM rfl rfl (aC _ av) (show a.aG.ls.length≤g∧a.aG.ls.length≤9223372036854775807 from by omega) Q rfl (aC _ ax) (show a.ah.ls.length≤h∧a.ah.ls.length≤9223372036854775807 from by omega) (fun s t=>⟨aC _ (u s t).1,(u s t).2⟩) rfl (aC _ aA) (show a.ag.ls.length≤j∧a.ag.ls.length≤9223372036854775807 from by omega) e8 f4 e8 j1 e8 aO) ?_
 rintro _ lS ⟨X,Y,iP,rfl,fP,bE⟩
 have dO:=fO _ _ fP
 have kT:=az bE
 have kU:=dO.rowC (i:=1) rfl
 have bG:=yR aO (qW f4 f4) e6 e6
 have kV:Mk b:=bG.2 f4
 have kW:b.aa.ag.ls.length=f.aa.ag.ls.length∧b.aa.av=f.aa.av∧b.ak.ls.length+b.aa.aj.ls.length≤8∧b.aa.aI.ls.length≤f.aa.aI.ls.length+1:=Iq bG.1 e6
 refine D0 (Gf (res0 rfl) (nt (FU ?_)))
 have iQ:=dO.pf [3]
 obtain⟨dP,bI,dQ,bJ,iR,dU,bK,iT,lT,lU,lV,lW,lX,lY,lZ,l5,l6,l7,l8,l9,ma,mg,mh,mi,mo,mq,bL,bM,fQ,fT,fU,fV,fZ,gm,kX,aH⟩:=ji iQ
 refine FT (Mz rfl (Kz (vP z 0) (Kz (vP z 0) (La ([vI b.aa.av,vU b.aa.ax,vU b.aa.bf,vU b.aa.aK, .slice dP b.aa.ag.ls.length bI, .slice dQ b.aa.aj.ls.length bJ, .slice dU b.aa.aI.ls.length bK]) aH 0 S8 I0 ?_))))
 obtain⟨⟨aj,dV⟩,bN⟩:∃ q:(List UInt8) × Int,eD b.aa=q:=⟨_,rfl⟩
 obtain⟨mr,gp,kY,gq,I⟩:=FY aH
 refine cl S9 (kg _ _ b.aa dP b.aa.ag.ls.length bI dQ b.aa.aj.ls.length bJ iR dU b.aa.aI.ls.length bK iT aj dV gp rfl (I _ 1 _ rfl aV) (show b.aa.ag.ls.length≤bI∧b.aa.ag.ls.length≤9223372036854775807 from by omega) bL rfl (I _ 2 _ rfl aV) (show b.aa.aj.ls.length≤bJ∧b.aa.aj.ls.length≤9223372036854775807 from by omega) (fun s t=>⟨I _ 3 _ rfl (ay (P3.2 ⟨s,t,b1⟩) aV),bz (φ:=fun _=>_) aH (i:=3) rfl (ay (P3.2 ⟨s,t,b1⟩) bq)⟩) bM rfl (I _ 4 _ rfl aV) (show b.aa.aI.ls.length≤bK∧b.aa.aI.ls.length≤9223372036854775807 from by omega) (fun s t=>⟨I _ 5 _ rfl (ay (P3.2 ⟨s,t,b1⟩) aV),bz (φ:=fun _=>_) aH (i:=5) rfl (ay (P3.2 ⟨s,t,b1⟩) bq),(fun y1 k1=>⟨I _ 5 _ rfl (ay (P3.2 ⟨s,t, .tail _ b1⟩) (ay (P3.2 ⟨y1,k1,b1⟩) aV)),bz (φ:=fun _=>_) aH (i:=5) rfl (ay (P3.2 ⟨s,t, .tail _ b1⟩) (ay (P3.2 ⟨y1,k1,b1⟩) bq))⟩)⟩) e8 i4 bN) ?_
 rintro _ mD ⟨dW,dX,rfl,gu,bO⟩
 have dY:=gq _ _ gu
 have kZ:=dY.rowC (i:=0) rfl
 replace bO:aj.length≤100000:=bO
 refine Mz rfl (Kz (.slice dW aj.length dX) (Kz (vI dV) (Az rfl (An rfl (FU ?_)))))
 have iU:=dY.pb [23]
 refine oJ 25 [] (F8 Gh) iU ?_
 intro mE iV
 refine qv 0 rfl rfl (qp aR 0 1 rfl (qp aR 1 2 rfl (ql 3 rfl 19 T0 rfl rfl rfl (qv 4 rfl rfl (qv 5 rfl rfl ?_)))))
 obtain⟨E,bP⟩:∃ q,bytes_Equal aG aj=q:=⟨_,rfl⟩
 obtain⟨mF,gy,lc,gz,bR⟩:=FY iV
 refine qd 6 rfl (Gd T1 rfl (qX _ _ bu aG.length bA aG dW aj.length dX aj E gy (bR _ 22 _ rfl aV) rfl e6 (bR _ 0 _ rfl aV) rfl e6 bP) ?_)
 rintro _ mG ⟨rfl,gB⟩
 have dZ:=gz _ _ gB
 refine⟨.inr ⟨_,dZ⟩, ?_⟩
 refine qk (.bool (!E)) 7 rfl (qk (.agg #[.slice X L.bB.ls.length Y, .bool (!E)]) 8 rfl ?_)
 have iW:=dZ.pf [25]
 refine qe 9 rfl (Do.store (vs:= [.slice X L.bB.ls.length Y, .bool (!E)]) (o:=0) iW rfl rfl S4 rfl rfl rfl rfl ?_)
 intro mH iX
 have bS:=iX.pb [0]
 refine⟨.inr ⟨_,bS⟩, ?_⟩
 refine qn (FW (rt (Fin.res (mZ rfl rfl (Gc (cs:= [.slice X L.bB.ls.length Y, .bool (!E)]) S5 S4 ((bS.cls (i:=25) rfl).lit (k:=0) (m:=2) rfl))) ?_)))
 have iY:=bS.pf [23]
 refine dN [.slice X L.bB.ls.length Y, .bool (!E)] 0 iY S4 ?_
 intro mI d9
 refine An rfl (rt (Fin.res (kC (vs:= [.agg #[.slice X L.bB.ls.length Y, .bool (!E)],vI 0]) rfl (dS.cell rfl (Gc (cs:= [.slice X L.bB.ls.length Y, .bool (!E)]) S5 S4 ((d9.cls (i:=0) rfl).lit (k:=0) (m:=2) rfl)) (dS.tmp rfl dS.nil)) (JM rfl)) ?_))
 have iZ:=d9.pb [0,1,20,21,22,23,24,25]
 have ja:=fA bL bM fQ fT fU fV fZ gm iZ
 have jb:=ja.pk [4,5,0]
 obtain⟨rfl,rfl,rfl⟩:=zt (hr.symm.trans (show _=(jW.mk (E4 L.bB.ls) (!E),0,b) from et (ip r) (et (ai ag) (et (ip O) (et (ip aN) (et (iN dA) (et (ai dI) (et (ai aO) (et (ai bN) (ai bP))))))))))
 exact⟨X,Y,iP,rfl,jb,bE,i1,f4⟩
 refine Sz (dT aN) (fw (.bool true) (Gb rfl (dT aN) rfl) (nt (jt (sr (Kz (.agg #[.slice none 0 0, .bool false]) ?_)))))
 have jc:=bf.pf [18]
 refine dN [.slice none 0 0, .bool false] 0 jc S4 ?_
 intro ed ek
 refine An rfl (rt (tR (Fin.res (kC (vs:= [.agg #[.slice none 0 0, .bool false],vI 180]) rfl (dS.cell rfl (Gc (cs:= [.slice none 0 0, .bool false]) S5 S4 ((ek.cls (i:=0) rfl).lit (k:=0) (m:=2) rfl)) (dS.tmp rfl dS.nil)) (JM rfl)) ?_)))
 have jd:=ek.pb [0,19]
 have je:=fA B C R S T U V W jd
 have jg:Own w D ed [sepL (q6 bF.own ([])),iE z f,blk aM [.slice none 0 0, .bool false] 47,blk G (gT a l g n h p j) 42]:=je.sepNil
 have jh:Own w D ed (row none 0 0 (q6 bF.cells ([])) 42 21::_):=jg.free (fB 42 21)
 have jk:=jh.pk [0,1,2]
 obtain⟨rfl,rfl,rfl⟩:=zt (hr.symm.trans (show _=(jW.mk (E4 ([])) false,180,f) from et (ip r) (et (ai ag) (et (ip O) (iN aN)))))
 exact⟨none,0, [],rfl,jk,rfl,i1,f4⟩
 refine Sz (dT O) (Sz (dT O) (Sz (dT O) (fw (.bool true) (Gb rfl (dT O) rfl) (Mz rfl (Sz rfl (fw (.bool true) (Gb rfl rfl rfl) (nt (jt (sr (Kz (.agg #[.slice none 0 0, .bool false]) ?_))))))))))
 have jl:=bf.pf [18]
 refine dN [.slice none 0 0, .bool false] 0 jl S4 ?_
 intro eu eG
 refine An rfl (rt (tR (Fin.res (kC (vs:= [.agg #[.slice none 0 0, .bool false],vI 180]) rfl (dS.cell rfl (Gc (cs:= [.slice none 0 0, .bool false]) S5 S4 ((eG.cls (i:=0) rfl).lit (k:=0) (m:=2) rfl)) (dS.tmp rfl dS.nil)) (JM rfl)) ?_)))
 have jm:=eG.pb [0,19]
 have jo:=fA B C R S T U V W jm
 have jq:Own w D eu [sepL (q6 bF.own ([])),iE z f,blk aM [.slice none 0 0, .bool false] 47,blk G (gT a l g n h p j) 42]:=jo.sepNil
 have jr:Own w D eu (row none 0 0 (q6 bF.cells ([])) 42 21::_):=jq.free (fB 42 21)
 have jv:=jr.pk [0,1,2]
 obtain⟨rfl,rfl,rfl⟩:=zt (hr.symm.trans (show _=(jW.mk (E4 ([])) false,180,f) from et (ip r) (et (ai ag) (iN O))))
 exact⟨none,0, [],rfl,jv,rfl,i1,f4⟩
 refine F3 (rs:= []) 4 rfl rfl rfl (dF r) e7 (F3 (rs:= []) 5 rfl rfl rfl (dF r) e7 (F3 (rs:= []) 6 rfl rfl rfl (dF r) e7 (F3 (rs:= []) 7 rfl rfl rfl (dF r) e7 (F3 (rs:= []) 8 rfl rfl rfl (dF r) e7 (F3 (rs:= []) 9 rfl rfl rfl (dF r) e7 (F3 (rs:= []) 10 rfl rfl rfl (dF r) e7 (F3 (rs:= []) 11 rfl rfl rfl (dF r) e7 (qt (v:= .bool false) 12 rfl (fun _ _=>FX rfl (dF r) rfl) (qa 13 rfl rfl (qn (FW (FU (sr (La (gT a l g n h p j) dz 19 M5 M6 ?_))))))))))))))
 obtain⟨aI,Z⟩:∃ q,mf a=q:=⟨_,rfl⟩
 obtain⟨mJ,gF,aD,gG,lg⟩:=FY dz
 refine cl Tryz.call21 (uR _ _ a l a.aG.ls.length g n a.ah.ls.length h P p a.ag.ls.length j aI gF rfl (aD _ av) (show a.aG.ls.length≤g∧a.aG.ls.length≤9223372036854775807 from by omega) Q rfl (aD _ ax) (show a.ah.ls.length≤h∧a.ah.ls.length≤9223372036854775807 from by omega) (fun s t=>⟨aD _ (u s t).1,(u s t).2⟩) rfl (aD _ aA) (show a.ag.ls.length≤j∧a.ag.ls.length≤9223372036854775807 from by omega) i3 Z) ?_
 rintro _ mK ⟨rfl,gH⟩
 have aS:=gG _ _ gH
 have lh: ¬ (aI=0)∨(a.aG.ls.length≤24∧a.ag.ls.length≤1000∧a.ah.ls.length≤1000∧(¬ (a.aH=1)∨11≤a.aJ∧a.aJ≤14)∧(¬ (a.aH=9)∨1≤a.aJ∧a.aJ≤4)):=Cz Z
 refine fw (.bool (decide (¬ (aI=0)))) (Gi (e:= !(decide (aI=0))) yk decide_not.symm) (Mz rfl ?_)
 by_cases y:aI=0
 refine gw (vP G 2) (dF (JP y)) yk (gw (vI a.eO) (dF (JP y)) (F5 rfl (bZ.one C6 (jL.of (aS.cls (i:=19) rfl) rfl))) (gw (.bool (decide (¬ (a.eO=0)))) (dF (JP y)) (Gi (e:= !(decide (a.eO=0))) yk decide_not.symm) (fw (.bool (decide (¬ (a.eO=0)))) (FX rfl (dF (JP y)) rfl) (Mz rfl ?_))))
 by_cases ak:a.eO=0
 refine gw (.bool false) (dF (JP ak)) (F7 rfl) (fw (.bool false) (FX rfl (dF (JP ak)) rfl) (nt (jf (sk (sr (Mz rfl (Kz (.func (.func 23) #[] #[vP G 0]) ?_)))))))
 refine WL.do rfl (Gd S6 rfl ?_ (fun _ _ k=>k))
 refine cb S7 ?_
 refine sr ?_
 refine dM [.slice none 0 0, .bool false] 47 aS ?_
 intro jw mM aJ
 refine ns (Mz rfl (Kz (vP z 0) (Kz (vP z 0) (La ([vI f.aa.av,vU f.aa.ax,vU f.aa.bf,vU f.aa.aK, .slice dn f.aa.ag.ls.length aU, .slice dw f.aa.aj.ls.length aW, .slice dx f.aa.aI.ls.length aX]) aJ 1 S8 I0 ?_))))
 obtain⟨⟨M,eH⟩,bT⟩:∃ q:(List UInt8) × Int,eD f.aa=q:=⟨_,rfl⟩
 obtain⟨mO,gI,ll,gJ,J⟩:=FY aJ
 refine cl S9 (kg _ _ f.aa dn f.aa.ag.ls.length aU dw f.aa.aj.ls.length aW iq dx f.aa.aI.ls.length aX iw M eH gI rfl (J _ 2 _ rfl aV) (show f.aa.ag.ls.length≤aU∧f.aa.ag.ls.length≤9223372036854775807 from by omega) B rfl (J _ 3 _ rfl aV) (show f.aa.aj.ls.length≤aW∧f.aa.aj.ls.length≤9223372036854775807 from by omega) (fun s t=>⟨J _ 4 _ rfl (ay (P3.2 ⟨s,t,b1⟩) aV),bz (φ:=fun _=>_) aJ (i:=4) rfl (ay (P3.2 ⟨s,t,b1⟩) bq)⟩) C rfl (J _ 5 _ rfl aV) (show f.aa.aI.ls.length≤aX∧f.aa.aI.ls.length≤9223372036854775807 from by omega) (fun s t=>⟨J _ 6 _ rfl (ay (P3.2 ⟨s,t,b1⟩) aV),bz (φ:=fun _=>_) aJ (i:=6) rfl (ay (P3.2 ⟨s,t,b1⟩) bq),(fun y1 k1=>⟨J _ 6 _ rfl (ay (P3.2 ⟨s,t, .tail _ b1⟩) (ay (P3.2 ⟨y1,k1,b1⟩) aV)),bz (φ:=fun _=>_) aJ (i:=6) rfl (ay (P3.2 ⟨s,t, .tail _ b1⟩) (ay (P3.2 ⟨y1,k1,b1⟩) bq))⟩)⟩) e8 i4 bT) ?_
 rintro _ mP ⟨bU,bV,rfl,gK,bW⟩
 have eO:=gJ _ _ gK
 have lm:=eO.rowC (i:=0) rfl
 replace bW:M.length≤100000:=bW
 refine Mz rfl (Kz (.slice bU M.length bV) (Kz (vI eH) (Az rfl (Ar rfl (Mz rfl (Kz (.agg #[vP z 0, .slice none 0 0]) ?_))))))
 refine dM [vP z 0, .slice none 0 0] 98 eO ?_
 intro aT eP eQ
 refine Ar rfl (Mz rfl (Mz rfl ?_))
 refine WL.do rfl (Gp Tryz.call23 rfl rfl ?_ (fun _ _ k=>k))
 refine cb Tryz.func23 ?_
 refine FT (Mz rfl (La (gT a l g n h p j) eQ 22 M5 M6 ?_))
 have jy:=eQ.pb [0,1,2,21,22]
 have jA:=fA B C R S T U V W jy
 have jB:Own w D eP [sepL (q6 bF.own ([])),iE z f,blk aT [vP z 0, .slice none 0 0] 98,row bU M.length bV (q6 eB M) 5 1,blk jw [.slice none 0 0, .bool false] 47,blk aM [.slice none 0 0, .bool false] 47,blk G (gT a l g n h p j) 42]:=jA.sepNil
 have jC:Own w D eP (row none 0 0 (q6 bF.cells ([])) 42 21::_):=jB.free (fB 42 21)
 have jD:=jC.pf [3]
 obtain⟨⟨N,d⟩,aP⟩:∃ q:bH × aB,iG (bH.mk (E4 ([]))) a f=q:=⟨_,rfl⟩
 obtain⟨mQ,gL,aF,gM,lq⟩:=GH jD
 refine cl Tryz.call24 (rJ _ _ aT (bH.mk (E4 ([]))) none 0 ([]) a l a.aG.ls.length g n a.ah.ls.length h P p a.ag.ls.length j z f N d gL rfl rfl (aF _ av) (show a.aG.ls.length≤g∧a.aG.ls.length≤9223372036854775807 from by omega) Q rfl (aF _ ax) (show a.ah.ls.length≤h∧a.ah.ls.length≤9223372036854775807 from by omega) (fun s t=>⟨aF _ (u s t).1,(u s t).2⟩) rfl (aF _ aA) (show a.ag.ls.length≤j∧a.ag.ls.length≤9223372036854775807 from by omega) e8 f4 e8 j1 e8 aP) ?_
 rintro _ mR ⟨aa,ae,jE,rfl,gN,bX⟩
 have eT:=gM _ _ gN
 have lu:=az bX
 have lv:=eT.rowC (i:=1) rfl
 have bY:=yR aP (qW f4 f4) e6 e6
 have lw:Mk d:=bY.2 f4
 have lC:d.aa.ag.ls.length=f.aa.ag.ls.length∧d.aa.av=f.aa.av∧d.ak.ls.length+d.aa.aj.ls.length≤8∧d.aa.aI.ls.length≤f.aa.aI.ls.length+1:=Iq bY.1 e6
 refine D0 (Gf (res0 rfl) (nt (FU ?_)))
 have jG:=eT.pf [3]
 obtain⟨eU,cu,eX,cz,jH,eY,cB,jI,mU,mV,mW,mX,mY,ng,ni,nk,nu,ny,nz,nA,nC,nD,nE,nG,nH,nI,cK,cO,gP,gQ,gU,gV,gW,gX,lD,aK⟩:=ji jG
 refine FT (Mz rfl (Kz (vP z 0) (Kz (vP z 0) (La ([vI d.aa.av,vU d.aa.ax,vU d.aa.bf,vU d.aa.aK, .slice eU d.aa.ag.ls.length cu, .slice eX d.aa.aj.ls.length cz, .slice eY d.aa.aI.ls.length cB]) aK 0 S8 I0 ?_))))
 obtain⟨⟨au,eZ⟩,cZ⟩:∃ q:(List UInt8) × Int,eD d.aa=q:=⟨_,rfl⟩
 obtain⟨nJ,gY,lF,gZ,K⟩:=FY aK
 refine cl S9 (kg _ _ d.aa eU d.aa.ag.ls.length cu eX d.aa.aj.ls.length cz jH eY d.aa.aI.ls.length cB jI au eZ gY rfl (K _ 1 _ rfl aV) (show d.aa.ag.ls.length≤cu∧d.aa.ag.ls.length≤9223372036854775807 from by omega) cK rfl (K _ 2 _ rfl aV) (show d.aa.aj.ls.length≤cz∧d.aa.aj.ls.length≤9223372036854775807 from by omega) (fun s t=>⟨K _ 3 _ rfl (ay (P3.2 ⟨s,t,b1⟩) aV),bz (φ:=fun _=>_) aK (i:=3) rfl (ay (P3.2 ⟨s,t,b1⟩) bq)⟩) cO rfl (K _ 4 _ rfl aV) (show d.aa.aI.ls.length≤cB∧d.aa.aI.ls.length≤9223372036854775807 from by omega) (fun s t=>⟨K _ 5 _ rfl (ay (P3.2 ⟨s,t,b1⟩) aV),bz (φ:=fun _=>_) aK (i:=5) rfl (ay (P3.2 ⟨s,t,b1⟩) bq),(fun y1 k1=>⟨K _ 5 _ rfl (ay (P3.2 ⟨s,t, .tail _ b1⟩) (ay (P3.2 ⟨y1,k1,b1⟩) aV)),bz (φ:=fun _=>_) aK (i:=5) rfl (ay (P3.2 ⟨s,t, .tail _ b1⟩) (ay (P3.2 ⟨y1,k1,b1⟩) bq))⟩)⟩) e8 i4 cZ) ?_
 rintro _ nK ⟨fe,fo,rfl,ib,df⟩
 have fq:=gZ _ _ ib
 have lG:=fq.rowC (i:=0) rfl
 replace df:au.length≤100000:=df
 refine Mz rfl (Kz (.slice fe au.length fo) (Kz (vI eZ) (Az rfl (An rfl (FU ?_)))))
 have jJ:=fq.pb [23]
 refine oJ 25 [] (F8 Gh) jJ ?_
 intro nL jM
 refine qv 0 rfl rfl (qp aT 0 1 rfl (qp aT 1 2 rfl (ql 3 rfl 19 T0 rfl rfl rfl (qv 4 rfl rfl (qv 5 rfl rfl ?_)))))
 obtain⟨F,dh⟩:∃ q,bytes_Equal M au=q:=⟨_,rfl⟩
 obtain⟨nM,ic,lH,ig,di⟩:=FY jM
 refine qd 6 rfl (Gd T1 rfl (qX _ _ bU M.length bV M fe au.length fo au F ic (di _ 22 _ rfl aV) rfl e6 (di _ 0 _ rfl aV) rfl e6 dh) ?_)
 rintro _ nN ⟨rfl,ik⟩
 have fu:=ig _ _ ik
 refine⟨.inr ⟨_,fu⟩, ?_⟩
 refine qk (.bool (!F)) 7 rfl (qk (.agg #[.slice aa N.bB.ls.length ae, .bool (!F)]) 8 rfl ?_)
 have jN:=fu.pf [25]
 refine qe 9 rfl (Do.store (vs:= [.slice aa N.bB.ls.length ae, .bool (!F)]) (o:=0) jN rfl rfl S4 rfl rfl rfl rfl ?_)
 intro nO jO
 have dm:=jO.pb [0]
 refine⟨.inr ⟨_,dm⟩, ?_⟩
 refine qn (FW (rt (Fin.res (mZ rfl rfl (Gc (cs:= [.slice aa N.bB.ls.length ae, .bool (!F)]) S5 S4 ((dm.cls (i:=25) rfl).lit (k:=0) (m:=2) rfl))) ?_)))
 have jP:=dm.pf [23]
 refine dN [.slice aa N.bB.ls.length ae, .bool (!F)] 0 jP S4 ?_
 intro nP fC
 refine An rfl (rt (Fin.res (kC (vs:= [.agg #[.slice aa N.bB.ls.length ae, .bool (!F)],vI 0]) rfl (dS.cell rfl (Gc (cs:= [.slice aa N.bB.ls.length ae, .bool (!F)]) S5 S4 ((fC.cls (i:=0) rfl).lit (k:=0) (m:=2) rfl)) (dS.tmp rfl dS.nil)) (JM rfl)) ?_))
 have jQ:=fC.pb [0,1,20,21,22,23,24,25]
 have jR:=fA cK cO gP gQ gU gV gW gX jQ
 have jS:=jR.pk [4,5,0]
 obtain⟨rfl,rfl,rfl⟩:=zt (hr.symm.trans (show _=(jW.mk (E4 N.bB.ls) (!F),0,d) from et (iN r) (et (ai Z) (et (ip y) (et (ip ak) (et (ai bT) (et (ai aP) (et (ai cZ) (ai dh)))))))))
 exact⟨aa,ae,jE,rfl,jS,bX,i1,f4⟩
 refine Sz (dT ak) (fw (.bool true) (Gb rfl (dT ak) rfl) (nt (jt (sr (Kz (.agg #[.slice none 0 0, .bool false]) ?_)))))
 have jU:=aS.pf [18]
 refine dN [.slice none 0 0, .bool false] 0 jU S4 ?_
 intro fD fE
 refine An rfl (rt (tR (Fin.res (kC (vs:= [.agg #[.slice none 0 0, .bool false],vI 180]) rfl (dS.cell rfl (Gc (cs:= [.slice none 0 0, .bool false]) S5 S4 ((fE.cls (i:=0) rfl).lit (k:=0) (m:=2) rfl)) (dS.tmp rfl dS.nil)) (JM rfl)) ?_)))
 have jV:=fE.pb [0,19]
 have jX:=fA B C R S T U V W jV
 have jY:Own w D fD [sepL (q6 bF.own ([])),iE z f,blk aM [.slice none 0 0, .bool false] 47,blk G (gT a l g n h p j) 42]:=jX.sepNil
 have j3:Own w D fD (row none 0 0 (q6 bF.cells ([])) 42 21::_):=jY.free (fB 42 21)
 have j4:=j3.pk [0,1,2]
 obtain⟨rfl,rfl,rfl⟩:=zt (hr.symm.trans (show _=(jW.mk (E4 ([])) false,180,f) from et (iN r) (et (ai Z) (et (ip y) (iN ak)))))
 exact⟨none,0, [],rfl,j4,rfl,i1,f4⟩
 refine Sz (dT y) (Sz (dT y) (Sz (dT y) (fw (.bool true) (Gb rfl (dT y) rfl) (Mz rfl (Sz rfl (fw (.bool true) (Gb rfl rfl rfl) (nt (jt (sr (Kz (.agg #[.slice none 0 0, .bool false]) ?_))))))))))
 have j5:=aS.pf [18]
 refine dN [.slice none 0 0, .bool false] 0 j5 S4 ?_
 intro fF fG
 refine An rfl (rt (tR (Fin.res (kC (vs:= [.agg #[.slice none 0 0, .bool false],vI 180]) rfl (dS.cell rfl (Gc (cs:= [.slice none 0 0, .bool false]) S5 S4 ((fG.cls (i:=0) rfl).lit (k:=0) (m:=2) rfl)) (dS.tmp rfl dS.nil)) (JM rfl)) ?_)))
 have j6:=fG.pb [0,19]
 have ko:=fA B C R S T U V W j6
 have kr:Own w D fF [sepL (q6 bF.own ([])),iE z f,blk aM [.slice none 0 0, .bool false] 47,blk G (gT a l g n h p j) 42]:=ko.sepNil
 have ku:Own w D fF (row none 0 0 (q6 bF.cells ([])) 42 21::_):=kr.free (fB 42 21)
 have kv:=ku.pk [0,1,2]
 obtain⟨rfl,rfl,rfl⟩:=zt (hr.symm.trans (show _=(jW.mk (E4 ([])) false,180,f) from et (iN r) (et (ai Z) (iN y))))
 exact⟨none,0, [],rfl,kv,rfl,i1,f4⟩
def j3 (b:aB):dC:=
 bnd (jm b.aa) fun a=>a
set_option maxHeartbeats 4000000 in
theorem pO (w:World) (D:Nat→Prop) (M:Nat) (b:aB) (d:dC) (H:Own w D w [iE M b]) (aL:b.aa.ag.ls.length≤1000∧b.ak.ls.length+b.aa.aj.ls.length≤8∧b.aa.aI.ls.length≤900) (aM:Mk b) (hr:j3 b=d):
    Calls y4 11 #[vP M 0] w (dR fun v w'=> ∃ (l:Option Addr) (n:Nat) (o:Option Addr) (p:Nat) (r:Option Addr) (s:Nat) (e:List aA) (f:List aZ),v= .agg #[vI d.av,vU d.ax,vU d.bf,vU d.aK, .slice l d.ag.ls.length n, .slice o d.aj.ls.length p, .slice r d.aI.ls.length s]∧Own w D w' [row l d.ag.ls.length n (q6 bv.cells d.ag.ls) 89 2,row o d.aj.ls.length p (q6 aA.cells e) 60 5,sepL (q6 aA.own e),row r d.aI.ls.length s (q6 aZ.cells f) 56 4,sepL (q6 aZ.own f),iE M b]∧(s8 aA.abs e=d.aj.ls)∧(s8 aZ.abs f=d.aI.ls)):=by
 refine cb Tryz.func11 ?_
 obtain⟨N,A,O,B,aa,P,C,ae,aN,aO,aP,aQ,aR,aS,aT,aU,aW,aX,aY,bf,bg,bi,bn,bu,bA,bB,t,u,Q,R,S,T,U,V,ax,af⟩:=ji H
 refine sr ?_
 refine dM [vI 0, .int .u64 0, .int .u64 0, .int .u64 0, .slice none 0 0, .slice none 0 0, .slice none 0 0] 33 af ?_
 intro bC bD g
 refine ns (Mz rfl (Kz (vP M 0) (Kz (vP M 0) (La ([vI b.aa.av,vU b.aa.ax,vU b.aa.bf,vU b.aa.aK, .slice N b.aa.ag.ls.length A, .slice O b.aa.aj.ls.length B, .slice P b.aa.aI.ls.length C]) g 1 S8 I0 ?_))))
 obtain⟨a,x⟩:∃ q,jm b.aa=q:=⟨_,rfl⟩
 obtain⟨bE,W,aC,X,c⟩:=FY g
 refine cl Tryz.call20 (oH _ _ b.aa N b.aa.ag.ls.length A O b.aa.aj.ls.length B aa P b.aa.aI.ls.length C ae a W rfl (c _ 2 _ rfl aV) (show b.aa.ag.ls.length≤A∧b.aa.ag.ls.length≤9223372036854775807 from by omega) t rfl (c _ 3 _ rfl aV) (show b.aa.aj.ls.length≤B∧b.aa.aj.ls.length≤9223372036854775807 from by omega) (fun E h=>⟨c _ 4 _ rfl (ay (P3.2 ⟨E,h,b1⟩) aV),bz (φ:=fun _=>_) g (i:=4) rfl (ay (P3.2 ⟨E,h,b1⟩) bq)⟩) u rfl (c _ 5 _ rfl aV) (show b.aa.aI.ls.length≤C∧b.aa.aI.ls.length≤9223372036854775807 from by omega) (fun E h=>⟨c _ 6 _ rfl (ay (P3.2 ⟨E,h,b1⟩) aV),bz (φ:=fun _=>_) g (i:=6) rfl (ay (P3.2 ⟨E,h,b1⟩) bq),(fun y1 k1=>⟨c _ 6 _ rfl (ay (P3.2 ⟨E,h, .tail _ b1⟩) (ay (P3.2 ⟨y1,k1,b1⟩) aV)),bz (φ:=fun _=>_) g (i:=6) rfl (ay (P3.2 ⟨E,h, .tail _ b1⟩) (ay (P3.2 ⟨y1,k1,b1⟩) bq))⟩)⟩) e8 (by first | assumption | exact Aj f4 | exact fun _ h=>absurd h B3) (by first | assumption | exact Al f4 | exact fun _ h=>absurd h B3) x) ?_
 rintro _ bF ⟨F,G,I,J,K,L,ag,ah,rfl,Y,y,z⟩
 have j:=X _ _ Y
 have aG:=az y
 have aH:=az z
 have aI:=j.rowC (i:=0) rfl
 have aJ:=j.rowC (i:=1) rfl
 have aK:=j.rowC (i:=3) rfl
 have aj:=j.pf [5]
 refine dN [vI a.av,vU a.ax,vU a.bf,vU a.aK, .slice F a.ag.ls.length G, .slice I a.aj.ls.length J, .slice K a.aI.ls.length L] 0 aj I0 ?_
 intro bG Z
 refine nt (rt (Fin.res (mZ rfl rfl (Gc (cs:= [vI a.av,vU a.ax,vU a.bf,vU a.aK, .slice F a.ag.ls.length G, .slice I a.aj.ls.length J, .slice K a.aI.ls.length L]) S8 I0 ((Z.cls (i:=0) rfl).lit (k:=0) (m:=7) rfl))) ?_))
 have ak:=Z.pb [0,1,2,3,4,5]
 have au:=fA t u Q R S T U V ak
 have av:=au.px [] [1] [0]
 obtain rfl:_=a:=hr.symm.trans (ai x)
 exact⟨F,G,I,J,K,L,ag,ah,rfl,av,y,z⟩
def ik:List dE→List Nat→(List Nat)
  | [],a=>a
  | b::c,a=>ik c (a++ [b.aX])
def iM (a:aB):(List Nat):=
 bnd (ik a.ak.ls ([])) fun sLrL=>sLrL
set_option maxHeartbeats 4000000 in
theorem tu (w:World) (D:Nat→Prop) (X:Nat) (a:aB) (Z:List Nat) (H:Own w D w [iE X a]) (bC:a.aa.ag.ls.length≤1000∧a.ak.ls.length+a.aa.aj.ls.length≤8∧a.aa.aI.ls.length≤900) (hr:iM a=Z):
    Calls y4 15 #[vP X 0] w (dR fun v w'=> ∃ (B0:Option Addr) (b0:Nat),v= .slice B0 Z.length b0∧Own w D w' [row B0 Z.length b0 (q6 (eN .u64) Z) 28 1,iE X a]∧(Z.length≤a.ak.ls.length)):=by
 refine cb Tryz.func15 ?_
 obtain⟨p,r,t,u,x,z,A,B,h,l,n,C,E,F,G,I,J,K,L,M,N,O,P,Q,R,S,aa,ae,V,ag,ah,aj,ak,au,aW,av⟩:=ji H
 refine sr (Ar rfl (An rfl (FU (sr (Mz rfl (Kz (vP X 0) (Kz (vP X 8) (Lz (.slice h a.ak.ls.length l) av 0 Tryz.isAgg79 (Kz (vJ a.ak.ls.length) (Mn rfl (bo ?_)))))))))))
 have aI:Own w D w [row none 0 0 (q6 (eN .u64) ([])) 28 1,blk X [vI a.aa.av,vU a.aa.ax,vU a.aa.bf,vU a.aa.aK, .slice p a.aa.ag.ls.length r, .slice t a.aa.aj.ls.length u, .slice z a.aa.aI.ls.length A,vU a.bI, .slice h a.ak.ls.length l, .bool a.aR.aT,vU a.aR.aF,vI a.aR.bn, .slice C a.aR.ae.ls.length E, .bool a.aN.aT,vU a.aN.aF,vI a.aN.bn, .slice G a.aN.ae.ls.length I, .bool a.aO.aT,vU a.aO.aF,vI a.aO.bn, .slice K a.aO.ae.ls.length L, .bool a.aP.aT,vU a.aP.aF,vI a.aP.bn, .slice N a.aP.ae.ls.length O, .bool a.aM.aT,vU a.aM.aF,vI a.aM.bn, .slice Q a.aM.ae.ls.length R,vU a.di,vU a.cz,vU a.cK,vU a.cB,vU a.cu, .pointer none] 86,row p a.aa.ag.ls.length r (q6 bv.cells a.aa.ag.ls) 89 2,row t a.aa.aj.ls.length u (q6 aA.cells x) 60 5,sepL (q6 aA.own x),row z a.aa.aI.ls.length A (q6 aZ.cells B) 56 4,sepL (q6 aZ.own B),row h a.ak.ls.length l (q6 bA.cells n) 107 9,sepL (q6 bA.own n),row C a.aR.ae.ls.length E (q6 af.cells F) 149 3,sepL (q6 af.own F),row G a.aN.ae.ls.length I (q6 af.cells J) 149 3,sepL (q6 af.own J),row K a.aO.ae.ls.length L (q6 af.cells M) 149 3,sepL (q6 af.own M),row N a.aP.ae.ls.length O (q6 af.cells P) 149 3,sepL (q6 af.own P),row Q a.aM.ae.ls.length R (q6 af.cells S) 149 3,sepL (q6 af.own S)]:=av.free (fB 28 1)
 have aJ:=aI.pb [0]
 obtain⟨aK,o⟩:=rX fun(T:Option Addr) (U:Nat) (f:List Nat) (d:Nat) (w':World)=>Own w D w' [blk X [vI a.aa.av,vU a.aa.ax,vU a.aa.bf,vU a.aa.aK, .slice p a.aa.ag.ls.length r, .slice t a.aa.aj.ls.length u, .slice z a.aa.aI.ls.length A,vU a.bI, .slice h a.ak.ls.length l, .bool a.aR.aT,vU a.aR.aF,vI a.aR.bn, .slice C a.aR.ae.ls.length E, .bool a.aN.aT,vU a.aN.aF,vI a.aN.bn, .slice G a.aN.ae.ls.length I, .bool a.aO.aT,vU a.aO.aF,vI a.aO.bn, .slice K a.aO.ae.ls.length L, .bool a.aP.aT,vU a.aP.aF,vI a.aP.bn, .slice N a.aP.ae.ls.length O, .bool a.aM.aT,vU a.aM.aF,vI a.aM.bn, .slice Q a.aM.ae.ls.length R,vU a.di,vU a.cz,vU a.cK,vU a.cB,vU a.cu, .pointer none] 86,row p a.aa.ag.ls.length r (q6 bv.cells a.aa.ag.ls) 89 2,row t a.aa.aj.ls.length u (q6 aA.cells x) 60 5,sepL (q6 aA.own x),row z a.aa.aI.ls.length A (q6 aZ.cells B) 56 4,sepL (q6 aZ.own B),row h a.ak.ls.length l (q6 bA.cells n) 107 9,sepL (q6 bA.own n),row C a.aR.ae.ls.length E (q6 af.cells F) 149 3,sepL (q6 af.own F),row G a.aN.ae.ls.length I (q6 af.cells J) 149 3,sepL (q6 af.own J),row K a.aO.ae.ls.length L (q6 af.cells M) 149 3,sepL (q6 af.own M),row N a.aP.ae.ls.length O (q6 af.cells P) 149 3,sepL (q6 af.own P),row Q a.aM.ae.ls.length R (q6 af.cells S) 149 3,sepL (q6 af.own S),row T f.length U (q6 (eN .u64) f) 28 1]∧d≤a.ak.ls.length∧f.length=d∧f.length≤d∧ik a.ak.ls ([])=ik (r6 d a.ak.ls) f
 refine C5 (fun i:(Option Addr) × Nat × (List Nat) × Nat=> [(3, .slice i.1 i.2.2.1.length i.2.1),(11,vJ i.2.2.2),(10,vJ a.ak.ls.length),(9, .slice h a.ak.ls.length l),(2, .slice none 0 0)]) aK (fun i=>a.ak.ls.length - i.2.2.2) (none,0, [],0) ⟨rfl,rfl,rfl,rfl,rfl,trivial⟩ (o.2 ⟨aJ,(show 0≤a.ak.ls.length∧0=0∧0≤0∧ik a.ak.ls ([])=ik (r6 0 a.ak.ls) ([]) from ⟨e6,e6,e6,rfl⟩)⟩) ?_
 rintro ⟨T,U,f,d⟩ bD ax
 obtain⟨j,aX,aY,bf,W⟩:=o.1 ax
 refine sr (Kz (.bool (decide (((d:Nat):Int) < ((a.ak.ls.length:Nat):Int)))) (nt (FU ?_)))
 by_cases az:((d:Nat):Int) < ((a.ak.ls.length:Nat):Int)
 obtain⟨b,g⟩:=dK (ls:=n) (i:=d) bA.len f3 (j.rds (i:=6) rfl) e9
 have aC:=fo V g
 have bg:b.bS.ls.length≤b.bS.c∧b.bS.ls.length≤9223372036854775807:=bz j (i:=7) rfl (φ:=fun _=>_) (ay (P3.2 ⟨b,E0 g,b1⟩) bq)
 have bi:b.aD.ls.length≤b.aD.c∧b.aD.ls.length≤9223372036854775807:=bz j (i:=7) rfl (φ:=fun _=>_) (ay (P3.2 ⟨b,E0 g, .tail _ b1⟩) bq)
 have bn:b.bE.ls.length≤b.bE.c∧b.bE.ls.length≤9223372036854775807:=bz j (i:=7) rfl (φ:=fun _=>_) (ay (P3.2 ⟨b,E0 g, .tail _ b2⟩) bq)
 have bu:b.ae.ls.length≤b.ae.c∧b.ae.ls.length≤9223372036854775807:=bz j (i:=7) rfl (φ:=fun _=>_) (ay (P3.2 ⟨b,E0 g, .tail _ b3⟩) bq)
 have aD:=drop_at aC
 refine jT (dT az) (sk (FU (bo (sr (fw (.pointer (some ⟨ab h,ao h+d *9,none⟩)) (FZ (pg) rfl rfl ((j.rds (i:=6) rfl).addr (i:=d) e6) e6) (fw (.agg (bA.cells b).toArray) (F5 rfl (Gc (cs:=(bA.cells b)) Tryz.isAgg107 Tryz.sizeOf107 ((j.rds (i:=6) rfl).elem bA.len g f3))) ?_))))))
 refine dM (qP 0 0 0 0 none 0 0 none 0 0 none 0 0 none 0 0 0) 107 j ?_
 intro aL bE aM
 refine dN (bA.cells b) 0 aM Tryz.sizeOf107 ?_
 intro bF aF
 refine nt (FT (Mz rfl (Kz (vP aL 0) (Lz (vU b.aX) aF 0 E1 ?_))))
 refine kL [vU b.aX] 28 1 1 aF ?_
 intro aN bG Y
 replace Y:=Gq (y:=row aN 1 1 (q6 (eN .u64) ([b.aX])) 28 1) rfl Y
 have aG:=Y.pf [20]
 refine WL.do rfl (Gr (k:=f.length) (m:=1) (uC) aG rfl rfl (iU Tryz.underlying61 (aG.rds (i:=1) rfl) (fF Eh ([b.aX]))) rfl e6 (s:=List.length (f++ [b.aX])) f7 (List.flatMap_append).symm ?_)
 intro aO aP bH aQ
 have bB:List.length (f++ [b.aX])=f.length+1:=by simp only [List.length_append,List.length_cons,List.length_nil]
 refine Az rfl (D0 (bN (FW (FT (fw (vJ (d+1)) (FV (e:=C7.wrap (((d:Nat):Int)+1)) yk f1) (Mz rfl (D0 ?_)))))))
 have aR:=aQ.px [] [1,2] [0]
 exact F9 (aO,aP,(f++ [b.aX]),d+1) ⟨rfl,rfl,rfl,rfl,rfl,trivial⟩ (o.2 ⟨aR,e6,e6,e6,et (W) (et (congrArg (fun q=>ik q f) aD) rfl)⟩) (by show a.ak.ls.length - (d+1) < a.ak.ls.length - d; omega)
 refine jF (dF az) (D1 (F4 ?_))
 have aH:ik a.ak.ls ([])=f:=et (W) (et (congrArg (fun q=>ik q f) (eZ (ls:=a.ak.ls) (i:=d) e6)) rfl)
 refine F4 (Gg (FW (sr (Mz rfl (An rfl (rt (rs ?_)))))))
 have aS:=fA aa ae V ag ah aj ak au j
 have aT:=aS.pb [0]
 obtain rfl:_=f:=hr.symm.trans (ai aH)
 exact⟨T,U,rfl,aT,i1⟩
def eT (g:aB) (f:List UInt8):List Nat→List bQ→aB→(List bQ) × aB
  | [],a,b=>(a,b)
  | d::e,a,b=>bnd (iT (bH.mk (E4 a)) d b) fun c=>eT g f e c.1.bB.ls c.2
def ja (g:aB) (f:List UInt8) (d:aB):List bM→List bQ→(List bQ)
  | [],a=>a
  | b::e,a=>bnd (eG (bH.mk (E4 a)) b.bi b.av.ls true) fun c=>ja g f d e c.bB.ls
def fe (e:List UInt8) (a:aB):Nat→Nat→List bQ→(List bQ)
  | 0,b,c=>default
  | d+1,b,c=>if((b:Nat):Int)≤a.aa.av then if((b:Nat):Int)=1 then if((a.cz:Nat):Int) ≥ ((a.aa.bf:Nat):Int) then fe e a d (b+1) c else bnd (dA (bH.mk (E4 c)) (bQ.mk 8 0 ((b:Nat):Int) 0 0 0 0 0 0 0 a.aa.bf a.aa.aK 0 0 0 false (bL.mk ([]) ([])) (E4 ([])) (E4 ([])) (E4 a.aa.ag.ls))) fun f=>fe e a d (b+1) f.bB.ls else if((b:Nat):Int)=2 then if((a.cK:Nat):Int) ≥ ((a.aa.bf:Nat):Int) then fe e a d (b+1) c else bnd (dA (bH.mk (E4 c)) (bQ.mk 8 0 ((b:Nat):Int) 0 0 0 0 0 0 0 a.aa.bf a.aa.aK 0 0 0 false (bL.mk ([]) ([])) (E4 ([])) (E4 ([])) (E4 a.aa.ag.ls))) fun g=>fe e a d (b+1) g.bB.ls else if((b:Nat):Int)=3 then if((a.cB:Nat):Int) ≥ ((a.aa.bf:Nat):Int) then fe e a d (b+1) c else bnd (dA (bH.mk (E4 c)) (bQ.mk 8 0 ((b:Nat):Int) 0 0 0 0 0 0 0 a.aa.bf a.aa.aK 0 0 0 false (bL.mk ([]) ([])) (E4 ([])) (E4 ([])) (E4 a.aa.ag.ls))) fun h=>fe e a d (b+1) h.bB.ls else if((a.cu:Nat):Int) ≥ ((a.aa.bf:Nat):Int) then fe e a d (b+1) c else bnd (dA (bH.mk (E4 c)) (bQ.mk 8 0 ((b:Nat):Int) 0 0 0 0 0 0 0 a.aa.bf a.aa.aK 0 0 0 false (bL.mk ([]) ([])) (E4 ([])) (E4 ([])) (E4 a.aa.ag.ls))) fun i=>fe e a d (b+1) i.bB.ls else c
def jk (d:aB):jW × aB:=
 bnd (eD d.aa) fun a=>bnd (iM d) fun e=>bnd (eT d a.1 e ([]) d) fun sLrbbL=>bnd (ja d a.1 sLrbbL.2 sLrbbL.2.aa.aj.ls sLrbbL.1) fun sLrbbLaL=>bnd (fe a.1 sLrbbL.2 ((D2 (d.aa.av+1 - 1))+1) 1 sLrbbLaL) fun sLrbbLaLaL=>bnd (eD sLrbbL.2.aa) fun b=>bnd (bytes_Equal a.1 b.1) fun c=>(jW.mk (E4 sLrbbLaLaL) (!c),sLrbbL.2)
set_option maxHeartbeats 4000000 in
theorem uu (w:World) (D:Nat→Prop) (f:Nat) (j:aB) (r0:jW) (r1:aB) (H:Own w D w [iE f j]) (pM:j.aa.ag.ls.length≤1000∧j.ak.ls.length+j.aa.aj.ls.length≤8∧j.aa.aI.ls.length≤900∧j.aa.av≤4) (pO:Mk j) (hr:jk j=(r0,r1)):
    Calls y4 14 #[vP f 0] w (dR fun v w'=> ∃ (dJ:Option Addr) (dL:Nat) (aW:List bF),v= .agg #[.slice dJ r0.eP.ls.length dL, .bool r0.iQ]∧Own w D w' [row dJ r0.eP.ls.length dL (q6 bF.cells aW) 42 21,sepL (q6 bF.own aW),iE f r1]∧(s8 bF.abs aW=r0.eP.ls)∧(r1.aa.ag.ls.length=j.aa.ag.ls.length∧r1.aa.av=j.aa.av∧r1.ak.ls.length+r1.aa.aj.ls.length≤8∧r1.aa.aI.ls.length≤j.aa.aI.ls.length+0)∧(Mk r1)):=by
 refine cb Tryz.func14 ?_
 refine sr ?_
 refine dM [.slice none 0 0, .bool false] 47 H ?_
 intro gF pQ lY
 refine ns (Mz rfl ?_)
 refine WL.do rfl (Gd S6 rfl ?_ (fun _ _ k=>k))
 refine cb S7 ?_
 refine sr ?_
 refine dM [.slice none 0 0, .bool false] 47 lY ?_
 intro gG pR lZ
 refine nt (FU ?_)
 have l5:=lZ.pf [2]
 obtain⟨jg,gH,jh,gI,l6,jl,gJ,l7,pU,pV,pW,pX,pY,p8,p9,qb,qc,qf,qg,qh,qi,qj,qm,qo,qw,qx,dO,dP,jm,jo,jq,jr,jv,jw,nN,aX⟩:=ji l5
 refine FT (Mz rfl (Kz (vP f 0) (Kz (vP f 0) (La ([vI j.aa.av,vU j.aa.ax,vU j.aa.bf,vU j.aa.aK, .slice jg j.aa.ag.ls.length gH, .slice jh j.aa.aj.ls.length gI, .slice jl j.aa.aI.ls.length gJ]) aX 0 S8 I0 ?_))))
 obtain⟨⟨n,jy⟩,dQ⟩:∃ q:(List UInt8) × Int,eD j.aa=q:=⟨_,rfl⟩
 obtain⟨qy,jA,nO,jB,aa⟩:=FY aX
 refine cl S9 (kg _ _ j.aa jg j.aa.ag.ls.length gH jh j.aa.aj.ls.length gI l6 jl j.aa.aI.ls.length gJ l7 n jy jA rfl (aa _ 1 _ rfl aV) (show j.aa.ag.ls.length≤gH∧j.aa.ag.ls.length≤9223372036854775807 from by omega) dO rfl (aa _ 2 _ rfl aV) (show j.aa.aj.ls.length≤gI∧j.aa.aj.ls.length≤9223372036854775807 from by omega) (fun x9 Y=>⟨aa _ 3 _ rfl (ay (P3.2 ⟨x9,Y,b1⟩) aV),bz (φ:=fun _=>_) aX (i:=3) rfl (ay (P3.2 ⟨x9,Y,b1⟩) bq)⟩) dP rfl (aa _ 4 _ rfl aV) (show j.aa.aI.ls.length≤gJ∧j.aa.aI.ls.length≤9223372036854775807 from by omega) (fun x9 Y=>⟨aa _ 5 _ rfl (ay (P3.2 ⟨x9,Y,b1⟩) aV),bz (φ:=fun _=>_) aX (i:=5) rfl (ay (P3.2 ⟨x9,Y,b1⟩) bq),(fun y1 k1=>⟨aa _ 5 _ rfl (ay (P3.2 ⟨x9,Y, .tail _ b1⟩) (ay (P3.2 ⟨y1,k1,b1⟩) aV)),bz (φ:=fun _=>_) aX (i:=5) rfl (ay (P3.2 ⟨x9,Y, .tail _ b1⟩) (ay (P3.2 ⟨y1,k1,b1⟩) bq))⟩)⟩) e8 i4 dQ) ?_
 rintro _ qz ⟨aY,bf,rfl,jE,dS⟩
 have jG:=jB _ _ jE
 have nP:=jG.rowC (i:=0) rfl
 replace dS:n.length≤100000:=dS
 refine Mz rfl (Kz (.slice aY n.length bf) (Kz (vI jy) (Az rfl (Ar rfl (Mz rfl (Kz (.agg #[vP f 0, .slice none 0 0]) ?_))))))
 refine dM [vP f 0, .slice none 0 0] 98 jG ?_
 intro d qA jH
 refine Ar rfl (Mz rfl (Mz rfl ?_))
 refine WL.do rfl (Gp Tryz.call25 rfl rfl ?_ (fun _ _ k=>k))
 refine cb Tryz.func25 ?_
 refine FU (sr (Mz rfl (Kz (vP d 0) (Kz (vP d 0) (Lz (vP f 0) jH 0 O3 ?_)))))
 have l8:=jH.pb [0,1,20,21]
 have l9:=fA dO dP jm jo jq jr jv jw l8
 obtain⟨u,dU⟩:∃ q,iM j=q:=⟨_,rfl⟩
 obtain⟨qB,jI,nQ,jJ,nR⟩:=Gn l9
 refine cl Tryz.call15 (tu _ _ f j u jI e8 dU) ?_
 rintro _ jK ⟨bg,gK,rfl,jL,dV⟩
 have jM:=jJ _ _ jL
 have nS:=jM.rowC (i:=0) rfl
 replace dV:u.length≤j.ak.ls.length:=dV
 refine Kz (vJ u.length) (Mn rfl (bo ?_))
 have ma:Own w D jK (sepL (q6 bF.own ([]))::_):=jM.sepNil
 have mf:Own w D jK (row none 0 0 (q6 bF.cells ([])) 42 21::_):=ma.free (fB 42 21)
 have jN:=mf.pb [0,1]
 obtain⟨jO,aJ⟩:=El fun(s:Nat) (av:Option Addr) (ax:Nat) (ae:List bF) (y:List bQ) (a:aB) (w':World)=>Own w D w' [row bg u.length gK (q6 (eN .u64) u) 28 1,iE f a,blk d [vP f 0, .slice av y.length ax] 98,row aY n.length bf (q6 eB n) 5 1,blk gG [.slice none 0 0, .bool false] 47,blk gF [.slice none 0 0, .bool false] 47,row av y.length ax (q6 bF.cells ae) 42 21,sepL (q6 bF.own ae)]∧s8 bF.abs ae=y∧s≤u.length∧y.length≤6 *s∧(a.aa.ag.ls.length=j.aa.ag.ls.length∧a.aa.av=j.aa.av∧a.ak.ls.length+a.aa.aj.ls.length≤8∧a.aa.aI.ls.length≤j.aa.aI.ls.length)∧Mk a∧eT j n u ([]) j=eT j n (r6 s u) y a
 refine C5 (fun i:Nat × (Option Addr) × Nat × (List bF) × (List bQ) × aB=> [(13,vJ i.1),(12,vJ u.length),(11, .slice bg u.length gK),(0,vP d 0)]) jO (fun i=>u.length - i.1) (0,none,0, [], [],j) ⟨rfl,rfl,rfl,rfl,trivial⟩ (aJ.2 ⟨jN,(show s8 bF.abs ([])=([])∧0≤u.length∧0≤6 *0∧(j.aa.ag.ls.length=j.aa.ag.ls.length∧j.aa.av=j.aa.av∧j.ak.ls.length+j.aa.aj.ls.length≤8∧j.aa.aI.ls.length≤j.aa.aI.ls.length)∧Mk j∧eT j n u ([]) j=eT j n (r6 0 u) ([]) j from ⟨by exact rfl,e6,e6,e6,f4,rfl⟩)⟩) ?_
 rintro ⟨s,av,ax,ae,y,a⟩ nT gL
 obtain⟨aC,aK,mg,mh,mi,mo,bi⟩:=aJ.1 gL
 have mq:=az aK
 refine sr (Kz (.bool (decide (((s:Nat):Int) < ((u.length:Nat):Int)))) (nt (FU ?_)))
 by_cases dW:((s:Nat):Int) < ((u.length:Nat):Int)
 obtain⟨bn,bu⟩:=dK (ls:=u) (i:=s) pE f3 (aC.rds (i:=0) rfl) e9
 have gM:=drop_at bu
 refine jT (dT dW) (sk (FU (bo (sr (fw (.pointer (some ⟨ab bg,ao bg+s *1,none⟩)) (FZ (uC) rfl rfl ((aC.rds (i:=0) rfl).addr (i:=s) e6) e6) (fw (vU bn) (F5 rfl (bZ.one E1 (((aC.rds (i:=0) rfl).elem pE bu f3).at_ (k:=0) rfl))) (An rfl (FT (Mz rfl (Mz rfl ?_))))))))))
 have jP:=aC.pf [2,6,7,1]
 obtain⟨⟨bB,U⟩,aL⟩:∃ q:bH × aB,iT (bH.mk (E4 y)) bn a=q:=⟨_,rfl⟩
 obtain⟨nU,gN,mr,gP,mD⟩:=GH jP
 refine cl Tryz.call26 (vS _ _ d (bH.mk (E4 y)) av ax ae bn f a bB U gN aK e8 f8 aL) ?_
 rintro _ nV ⟨jQ,jR,jS,rfl,gQ,bC⟩
 have dX:=gP _ _ gQ
 have mE:=az bC
 have mF:=dX.rowC (i:=1) rfl
 have aM:=rH aL
 have mG:Mk U:=aM.2.2.1 f4
 have mH:U.aa.ag.ls.length=a.aa.ag.ls.length∧U.aa.av=a.aa.av∧U.ak.ls.length+U.aa.aj.ls.length≤8∧U.aa.aI.ls.length≤a.aa.aI.ls.length+0:=Iq aM.2.1 e6
 have mI:bB.bB.ls.length≤y.length+6:=aM.2.2.2 f4
 refine D0 (bN (FW (FT (fw (vJ (s+1)) (FV (e:=C7.wrap (((s:Nat):Int)+1)) yk f1) (Mz rfl (D0 ?_))))))
 have jU:=dX.px [4,3] [] [1,2]
 exact F9 (s+1,jQ,jR,jS,bB.bB.ls,U) ⟨rfl,rfl,rfl,rfl,trivial⟩ (aJ.2 ⟨jU,by exact bC,e6,e6,e6,f4,et (bi) (et (congrArg (fun q=>eT j n q y a) gM) (ai aL))⟩) (by show u.length - (s+1) < u.length - s; omega)
 refine jF (dF dW) (D1 (F4 ?_))
 have gT:eT j n u ([]) j=(y,a):=et (bi) (et (congrArg (fun q=>eT j n q y a) (eZ (ls:=u) (i:=s) e6)) rfl)
 refine F4 (Gg (FW (FU (FU ?_))))
 have jV:=aC.px [] [0] []
 obtain⟨dY,dZ,Z,aD,bE,d9,ed,ek,eu,eF,eH,eO,eP,eQ,eU,eX,eY,fq,fu,fC,fD,fE,fF,fG,fH,fJ,bG,gU,gV,gW,gX,gY,gZ,ib,mJ,bI⟩:=ji jV
 refine FT (Mz rfl (Kz (vP d 0) (Kz (vP d 0) (Lz (vP f 0) bI 18 O3 (Kz (vP f 0) (Kz (vP f 0) (Kz (vP f 5) (Lz (.slice Z a.aa.aj.ls.length aD) bI 0 Tryz.isAgg30 (Kz (vJ a.aa.aj.ls.length) (Mn rfl (bo ?_)))))))))))
 have jX:=bI.pf []
 obtain⟨jY,aN⟩:=AQ fun(t:Nat) (aF:Option Addr) (aG:Nat) (ag:List bF) (z:List bQ) (w':World)=>Own w D w' [blk f [vI a.aa.av,vU a.aa.ax,vU a.aa.bf,vU a.aa.aK, .slice dY a.aa.ag.ls.length dZ, .slice Z a.aa.aj.ls.length aD, .slice d9 a.aa.aI.ls.length ed,vU a.bI, .slice eu a.ak.ls.length eF, .bool a.aR.aT,vU a.aR.aF,vI a.aR.bn, .slice eO a.aR.ae.ls.length eP, .bool a.aN.aT,vU a.aN.aF,vI a.aN.bn, .slice eU a.aN.ae.ls.length eX, .bool a.aO.aT,vU a.aO.aF,vI a.aO.bn, .slice fq a.aO.ae.ls.length fu, .bool a.aP.aT,vU a.aP.aF,vI a.aP.bn, .slice fD a.aP.ae.ls.length fE, .bool a.aM.aT,vU a.aM.aF,vI a.aM.bn, .slice fG a.aM.ae.ls.length fH,vU a.di,vU a.cz,vU a.cK,vU a.cB,vU a.cu, .pointer none] 86,row dY a.aa.ag.ls.length dZ (q6 bv.cells a.aa.ag.ls) 89 2,row Z a.aa.aj.ls.length aD (q6 aA.cells bE) 60 5,sepL (q6 aA.own bE),row d9 a.aa.aI.ls.length ed (q6 aZ.cells ek) 56 4,sepL (q6 aZ.own ek),row eu a.ak.ls.length eF (q6 bA.cells eH) 107 9,sepL (q6 bA.own eH),row eO a.aR.ae.ls.length eP (q6 af.cells eQ) 149 3,sepL (q6 af.own eQ),row eU a.aN.ae.ls.length eX (q6 af.cells eY) 149 3,sepL (q6 af.own eY),row fq a.aO.ae.ls.length fu (q6 af.cells fC) 149 3,sepL (q6 af.own fC),row fD a.aP.ae.ls.length fE (q6 af.cells fF) 149 3,sepL (q6 af.own fF),row fG a.aM.ae.ls.length fH (q6 af.cells fJ) 149 3,sepL (q6 af.own fJ),blk d [vP f 0, .slice aF z.length aG] 98,row aY n.length bf (q6 eB n) 5 1,blk gG [.slice none 0 0, .bool false] 47,blk gF [.slice none 0 0, .bool false] 47,row aF z.length aG (q6 bF.cells ag) 42 21,sepL (q6 bF.own ag)]∧s8 bF.abs ag=z∧t≤a.aa.aj.ls.length∧z.length≤100+1000 *t∧ja j n a a.aa.aj.ls y=ja j n a (r6 t a.aa.aj.ls) z
 refine C5 (fun i:Nat × (Option Addr) × Nat × (List bF) × (List bQ)=> [(30,vJ i.1),(29,vJ a.aa.aj.ls.length),(28, .slice Z a.aa.aj.ls.length aD),(0,vP d 0)]) jY (fun i=>a.aa.aj.ls.length - i.1) (0,av,ax,ae,y) ⟨rfl,rfl,rfl,rfl,trivial⟩ (aN.2 ⟨jX,by exact aK,e6,e6,rfl⟩) ?_
 rintro ⟨t,aF,aG,ag,z⟩ nW ic
 obtain⟨ah,aO,mK,mM,bJ⟩:=aN.1 ic
 have mO:=az aO
 refine sr (Kz (.bool (decide (((t:Nat):Int) < ((a.aa.aj.ls.length:Nat):Int)))) (nt (FU ?_)))
 by_cases fK:((t:Nat):Int) < ((a.aa.aj.ls.length:Nat):Int)
 obtain⟨l,au⟩:=dK (ls:=bE) (i:=t) aA.len f3 (ah.rds (i:=2) rfl) e9
 have bK:=fo bG au
 have mP:l.av.ls.length≤l.av.c∧l.av.ls.length≤9223372036854775807:=bz ah (i:=3) rfl (φ:=fun _=>_) (ay (P3.2 ⟨l,E0 au,b1⟩) bq)
 have mQ:l.av.ls.length≤1000:=DJ (Mk.dec f4) bK
 have ig:=drop_at bK
 refine jT (dT fK) (sk (FU (bo (sr (fw (.pointer (some ⟨ab Z,ao Z+t *5,none⟩)) (FZ (kG) rfl rfl ((ah.rds (i:=2) rfl).addr (i:=t) e6) e6) (fw (.agg (aA.cells l).toArray) (F5 rfl (Gc (cs:=(aA.cells l)) Tryz.isAgg60 Tryz.sizeOf60 ((ah.rds (i:=2) rfl).elem aA.len au f3))) ?_))))))
 refine dM [.int .u64 0,vI 0, .int .u64 0, .int .u64 0, .slice none 0 0] 60 ah ?_
 intro fM nX jZ
 refine dN (aA.cells l) 0 jZ Tryz.sizeOf60 ?_
 intro nY bM
 refine nt (FT (Mz rfl (Kz (vP fM 0) (Lz (vU l.bi) bM 0 E1 (Kz (vP fM 4) (Lz (.slice l.av.A l.av.ls.length l.av.c) bM 0 Tryz.isAgg58 ?_))))))
 have j3:=bM.pf [19,23,24]
 obtain⟨bO,aP⟩:∃ q,eG (bH.mk (E4 z)) l.bi l.av.ls true=q:=⟨_,rfl⟩
 obtain⟨nZ,ik,mR,il,iq⟩:=Gv j3
 refine cl Tryz.call27 (kF _ _ d (bH.mk (E4 z)) aF aG ag f l.bi l.av.A l.av.ls.length l.av.c l.av.ls true bO ik aO (iq _ 4 _ rfl (ay (P3.2 ⟨l,E0 au,b1⟩) aV)) rfl e6 g7 aP) ?_
 rintro _ og ⟨j4,j5,j6,rfl,iw,bP⟩
 have fO:=il _ _ iw
 have mU:=az bP
 have mV:=fO.rowC (i:=1) rfl
 have mW:bO.bB.ls.length=z.length+l.av.ls.length:=xP aP
 refine D0 (bN (FW (FT (fw (vJ (t+1)) (FV (e:=C7.wrap (((t:Nat):Int)+1)) yk f1) (Mz rfl (D0 ?_))))))
 have ko:=fO.px [] [3] [0,22,23,24,1,2]
 exact F9 (t+1,j4,j5,j6,bO.bB.ls) ⟨rfl,rfl,rfl,rfl,trivial⟩ (aN.2 ⟨ko,by exact bP,e6,e6,et (bJ) (et (congrArg (fun q=>ja j n a q z) ig) (ai aP))⟩) (by show a.aa.aj.ls.length - (t+1) < a.aa.aj.ls.length - t; omega)
 refine jF (dF fK) (D1 (F4 ?_))
 have iy:ja j n a a.aa.aj.ls y=z:=et (bJ) (et (congrArg (fun q=>ja j n a q z) (eZ (ls:=a.aa.aj.ls) (i:=t) e6)) rfl)
 refine F4 (Gg (FW (FU (sr (An rfl ?_)))))
 have kr:=fA bG gU gV gW gX gY gZ ib ah
 refine bo ?_
 have ku:=kr.pf []
 obtain⟨kv,C⟩:=El fun(b:Nat) (p:Option Addr) (r:Nat) (I:List bF) (g:List bQ) (aH:Nat) (w':World)=>Own w D w' [iE f a,blk d [vP f 0, .slice p g.length r] 98,row aY n.length bf (q6 eB n) 5 1,blk gG [.slice none 0 0, .bool false] 47,blk gF [.slice none 0 0, .bool false] 47,row p g.length r (q6 bF.cells I) 42 21,sepL (q6 bF.own I)]∧s8 bF.abs I=g∧(1≤b∧((g.length:Nat):Int)≤9000+b)∧D2 (j.aa.av+1 - b) < aH∧fe n a ((D2 (j.aa.av+1 - 1))+1) 1 z=fe n a aH b g
 refine C5 (fun i:Nat × (Option Addr) × Nat × (List bF) × (List bQ) × Nat=> [(6,vJ i.1),(0,vP d 0)]) kv (fun i=>i.2.2.2.2.2) (1,aF,aG,ag,z,(D2 (j.aa.av+1 - 1))+1) ⟨rfl,rfl,trivial⟩ (C.2 ⟨ku,by exact aO,e6,e6,rfl⟩) ?_
 rintro ⟨b,p,r,I,g,aH⟩ oh iA
 obtain⟨kw,E,mX,mY,J⟩:=C.1 iA
 have ng:=az E
 obtain⟨h,iB⟩:∃ q,aH=q+1:=⟨aH - 1,e6⟩
 subst iB
 refine FU (FU ?_)
 obtain⟨S,B,fP,bR,ky,fQ,bS,kz,ol,om,oo,oq,ou,ow,oz,oC,oD,oF,oG,oH,oI,oK,oL,oM,oN,oO,F,G,K,L,M,N,O,P,ni,Q⟩:=ji kw
 refine FT (Mz rfl (Mz rfl (Kz (vP d 0) (Kz (vP d 0) (Lz (vP f 0) Q 18 O3 (Kz (vP f 0) (Kz (vP f 0) (Kz (vP f 0) (Lz (vI a.aa.av) Q 0 C6 (Kz (.bool (decide (((b:Nat):Int)≤a.aa.av))) (nt ?_)))))))))))
 by_cases R:((b:Nat):Int)≤a.aa.av
 refine jT (dT R) (sk (FU (bo (sr (Mz rfl (Kz (vP d 0) (Kz (vP d 0) (Lz (vP f 0) Q 18 O3 (Mz rfl ?_)))))))))
 refine WL.do rfl (Gd Tryz.call28 rfl ?_ (fun _ _ k=>k))
 refine cb Tryz.func28 ?_
 refine sr (An rfl (FU ?_))
 refine oJ 24 [] (F8 Gh) Q ?_
 intro oP V
 refine qv 0 rfl rfl (qv 1 rfl rfl (qp f 0 2 rfl (qp f 29 3 rfl ?_)))
 by_cases W:((b:Nat):Int)=1
 refine qt (v:=vP f 30) 4 rfl (fun _ _=>by(try unfold vJ); rw [show ((b:Nat):Int)=1 from by omega]; exact yk) (ql 5 rfl 0 E1 rfl rfl rfl (qv 6 rfl rfl (qp f 0 7 rfl (qp f 0 8 rfl (qp f 2 9 rfl (ql 10 rfl 0 E1 rfl rfl rfl (qk (.bool (decide (((a.cz:Nat):Int) ≥ ((a.aa.bf:Nat):Int)))) 11 rfl (qa 12 rfl rfl (qn (FW (rt (rs (fw (.bool (decide (¬ (((a.cz:Nat):Int) ≥ ((a.aa.bf:Nat):Int))))) (Gi (e:= !(decide (((a.cz:Nat):Int) ≥ ((a.aa.bf:Nat):Int)))) yk decide_not.symm) (nt ?_))))))))))))))
 by_cases aQ:((a.cz:Nat):Int) ≥ ((a.aa.bf:Nat):Int)
 refine jF (dF (JP aQ)) (Gj (bN (FW (FT (Mz rfl (fw (vJ (b+1)) (FV (e:=C7.wrap (((b:Nat):Int)+1)) yk f1) (Az rfl (D0 ?_))))))))
 have kC:=fA F G K L M N O P V
 have kD:=kC.pf []
 exact F9 (b+1,p,r,I,g,h) ⟨rfl,rfl,trivial⟩ (C.2 ⟨kD,by exact E,e6,e6,et (J) (et (ip R) (et (ip W) (ip aQ)))⟩) (by show h < h+1; omega)
 refine jT (dT aQ) (FT (Mz rfl (Mz rfl ?_)))
 refine WL.do rfl (Gd T2 rfl ?_ (fun _ _ k=>k))
 refine cb T3 ?_
 have kE:=V.pf [0,18,20,21]
 refine xx [32] Gh kE ?_
 intro oQ bT
 refine qv 0 rfl rfl (qv 1 rfl rfl (qv 2 rfl rfl (qp d 0 3 rfl (qp d 0 4 rfl (ql 5 rfl 1 O3 rfl rfl rfl (qp f 0 6 rfl (qp f 0 7 rfl (qp f 2 8 rfl (ql 9 rfl 0 E1 rfl rfl rfl (qv 10 rfl rfl (qp d 0 11 rfl (qp d 0 12 rfl (ql 13 rfl 1 O3 rfl rfl rfl (qp f 0 14 rfl (qp f 0 15 rfl (qp f 3 16 rfl (ql 17 rfl 0 E1 rfl rfl rfl (qv 18 rfl rfl (qp d 0 19 rfl (qp d 0 20 rfl (ql 21 rfl 1 O3 rfl rfl rfl (qv 23 rfl rfl (qp d 0 24 rfl (qp d 0 25 rfl (ql 26 rfl 1 O3 rfl rfl rfl (qp f 0 27 rfl (qp f 0 28 rfl (qp f 4 29 rfl (ql 30 rfl 0 T4 rfl rfl rfl ?_)))))))))))))))))))))))))))))
 refine GX.do 22 rfl e7 (Gd T5 rfl ?_ (fun _ _ k=>k))
 refine cb T6 ?_
 refine sr (An rfl (FU (sr (Mz rfl (Kz (vP f 0) (Kz (vP f 34) (Lz (.pointer none) bT 0 U0 (Kz (.bool true) (nt (jt (sr (An rfl (rt (tR (rs ?_)))))))))))))))
 refine⟨.inr ⟨_,bT⟩, ?_⟩
 refine qk (.agg (gD 8 0 ((b:Nat):Int) 0 0 0 0 0 0 0 a.aa.bf a.aa.aK 0 0 0 false ([]) ([]) none 0 0 none 0 0 S a.aa.ag.ls.length B).toArray) 31 rfl ?_
 have kH:=bT.pf [1,22,23]
 obtain⟨bU,bV⟩:∃ q,dA (bH.mk (E4 g)) (bQ.mk 8 0 ((b:Nat):Int) 0 0 0 0 0 0 0 a.aa.bf a.aa.aK 0 0 0 false (bL.mk ([]) ([])) (E4 ([])) (E4 ([])) (E4 a.aa.ag.ls))=q:=⟨_,rfl⟩
 obtain⟨oU,iC,nk,iD,iF⟩:=Gv kH
 refine qd 32 rfl (Gd O6 rfl (fI _ _ d (bH.mk (E4 g)) p r I f (bQ.mk 8 0 ((b:Nat):Int) 0 0 0 0 0 0 0 a.aa.bf a.aa.aK 0 0 0 false (bL.mk ([]) ([])) (E4 ([])) (E4 ([])) (E4 a.aa.ag.ls)) none 0 0 none 0 0 [] S a.aa.ag.ls.length B bU iC E rfl (fun _ _=>bD.nil _ _ _) f2 rfl rfl (fun _ _=>bD.nil _ _ _) f2 (fun _ Y=>absurd Y B3) rfl (iF _ 3 _ rfl aV) (show a.aa.ag.ls.length≤B∧a.aa.ag.ls.length≤9223372036854775807 from by omega) e8 (by first | assumption | exact dG f4 | exact fun x hx=>absurd hx B3 | exact dG (Mk.l8 f4).1 | exact dG (Mk.lq f4).1 | exact dG (Mk.mq f4).1 | exact dG (Mk.mo f4).1 | exact dG (Mk.mr f4).1) bV) ?_)
 rintro _ oV ⟨kI,kJ,kK,rfl,iG,bW,bX⟩
 have fT:=iD _ _ iG
 have nu:=az bW
 have ny:=fT.rowC (i:=1) rfl
 replace bX:bU.bB.ls.length=g.length+1:=bX
 refine⟨.inl e7, ?_⟩
 refine qn (Gf (res0 rfl) (D0 (bN (FW (FT (Mz rfl (fw (vJ (b+1)) (FV (e:=C7.wrap (((b:Nat):Int)+1)) yk f1) (Az rfl (D0 ?_)))))))))
 have kL:=fT.pb [0,1,2,4,5,23]
 have kM:=fA F G K L M N O P kL
 have kN:=kM.pb [4,5,2,3]
 exact F9 (b+1,kI,kJ,kK,bU.bB.ls,h) ⟨rfl,rfl,trivial⟩ (C.2 ⟨kN,by exact bW,e6,e6,et (J) (et (ip R) (et (ip W) (et (iN aQ) (ai bV))))⟩) (by show h < h+1; omega)
 by_cases aj:((b:Nat):Int)=2
 refine qt (v:=vP f 31) 4 rfl (fun _ _=>by(try unfold vJ); rw [show ((b:Nat):Int)=2 from by omega]; exact yk) (ql 5 rfl 0 E1 rfl rfl rfl (qv 6 rfl rfl (qp f 0 7 rfl (qp f 0 8 rfl (qp f 2 9 rfl (ql 10 rfl 0 E1 rfl rfl rfl (qk (.bool (decide (((a.cK:Nat):Int) ≥ ((a.aa.bf:Nat):Int)))) 11 rfl (qa 12 rfl rfl (qn (FW (rt (rs (fw (.bool (decide (¬ (((a.cK:Nat):Int) ≥ ((a.aa.bf:Nat):Int))))) (Gi (e:= !(decide (((a.cK:Nat):Int) ≥ ((a.aa.bf:Nat):Int)))) yk decide_not.symm) (nt ?_))))))))))))))
 by_cases aR:((a.cK:Nat):Int) ≥ ((a.aa.bf:Nat):Int)
 refine jF (dF (JP aR)) (Gj (bN (FW (FT (Mz rfl (fw (vJ (b+1)) (FV (e:=C7.wrap (((b:Nat):Int)+1)) yk f1) (Az rfl (D0 ?_))))))))
 have kP:=fA F G K L M N O P V
 have kQ:=kP.pf []
 exact F9 (b+1,p,r,I,g,h) ⟨rfl,rfl,trivial⟩ (C.2 ⟨kQ,by exact E,e6,e6,et (J) (et (ip R) (et (iN W) (et (ip aj) (ip aR))))⟩) (by show h < h+1; omega)
 refine jT (dT aR) (FT (Mz rfl (Mz rfl ?_)))
 refine WL.do rfl (Gd T2 rfl ?_ (fun _ _ k=>k))
 refine cb T3 ?_
 have kR:=V.pf [0,18,20,21]
 refine xx [32] Gh kR ?_
 intro oW bY
 refine qv 0 rfl rfl (qv 1 rfl rfl (qv 2 rfl rfl (qp d 0 3 rfl (qp d 0 4 rfl (ql 5 rfl 1 O3 rfl rfl rfl (qp f 0 6 rfl (qp f 0 7 rfl (qp f 2 8 rfl (ql 9 rfl 0 E1 rfl rfl rfl (qv 10 rfl rfl (qp d 0 11 rfl (qp d 0 12 rfl (ql 13 rfl 1 O3 rfl rfl rfl (qp f 0 14 rfl (qp f 0 15 rfl (qp f 3 16 rfl (ql 17 rfl 0 E1 rfl rfl rfl (qv 18 rfl rfl (qp d 0 19 rfl (qp d 0 20 rfl (ql 21 rfl 1 O3 rfl rfl rfl (qv 23 rfl rfl (qp d 0 24 rfl (qp d 0 25 rfl (ql 26 rfl 1 O3 rfl rfl rfl (qp f 0 27 rfl (qp f 0 28 rfl (qp f 4 29 rfl (ql 30 rfl 0 T4 rfl rfl rfl ?_)))))))))))))))))))))))))))))
 refine GX.do 22 rfl e7 (Gd T5 rfl ?_ (fun _ _ k=>k))
 refine cb T6 ?_
 refine sr (An rfl (FU (sr (Mz rfl (Kz (vP f 0) (Kz (vP f 34) (Lz (.pointer none) bY 0 U0 (Kz (.bool true) (nt (jt (sr (An rfl (rt (tR (rs ?_)))))))))))))))
 refine⟨.inr ⟨_,bY⟩, ?_⟩
 refine qk (.agg (gD 8 0 ((b:Nat):Int) 0 0 0 0 0 0 0 a.aa.bf a.aa.aK 0 0 0 false ([]) ([]) none 0 0 none 0 0 S a.aa.ag.ls.length B).toArray) 31 rfl ?_
 have kS:=bY.pf [1,22,23]
 obtain⟨cu,cz⟩:∃ q,dA (bH.mk (E4 g)) (bQ.mk 8 0 ((b:Nat):Int) 0 0 0 0 0 0 0 a.aa.bf a.aa.aK 0 0 0 false (bL.mk ([]) ([])) (E4 ([])) (E4 ([])) (E4 a.aa.ag.ls))=q:=⟨_,rfl⟩
 obtain⟨oZ,iH,nz,iI,iJ⟩:=Gv kS
 refine qd 32 rfl (Gd O6 rfl (fI _ _ d (bH.mk (E4 g)) p r I f (bQ.mk 8 0 ((b:Nat):Int) 0 0 0 0 0 0 0 a.aa.bf a.aa.aK 0 0 0 false (bL.mk ([]) ([])) (E4 ([])) (E4 ([])) (E4 a.aa.ag.ls)) none 0 0 none 0 0 [] S a.aa.ag.ls.length B cu iH E rfl (fun _ _=>bD.nil _ _ _) f2 rfl rfl (fun _ _=>bD.nil _ _ _) f2 (fun _ Y=>absurd Y B3) rfl (iJ _ 3 _ rfl aV) (show a.aa.ag.ls.length≤B∧a.aa.ag.ls.length≤9223372036854775807 from by omega) e8 (by first | assumption | exact dG f4 | exact fun x hx=>absurd hx B3 | exact dG (Mk.l8 f4).1 | exact dG (Mk.lq f4).1 | exact dG (Mk.mq f4).1 | exact dG (Mk.mo f4).1 | exact dG (Mk.mr f4).1) cz) ?_)
 rintro _ o5 ⟨kT,kU,kV,rfl,iK,cB,cK⟩
 have fU:=iI _ _ iK
 have nA:=az cB
 have nC:=fU.rowC (i:=1) rfl
 replace cK:cu.bB.ls.length=g.length+1:=cK
 refine⟨.inl e7, ?_⟩
 refine qn (Gf (res0 rfl) (D0 (bN (FW (FT (Mz rfl (fw (vJ (b+1)) (FV (e:=C7.wrap (((b:Nat):Int)+1)) yk f1) (Az rfl (D0 ?_)))))))))
 have kW:=fU.pb [0,1,2,4,5,23]
 have kX:=fA F G K L M N O P kW
 have kY:=kX.pb [4,5,2,3]
 exact F9 (b+1,kT,kU,kV,cu.bB.ls,h) ⟨rfl,rfl,trivial⟩ (C.2 ⟨kY,by exact cB,e6,e6,et (J) (et (ip R) (et (iN W) (et (ip aj) (et (iN aR) (ai cz)))))⟩) (by show h < h+1; omega)
 by_cases aS:((b:Nat):Int)=3
 refine qt (v:=vP f 32) 4 rfl (fun _ _=>by(try unfold vJ); rw [show ((b:Nat):Int)=3 from by omega]; exact yk) (ql 5 rfl 0 E1 rfl rfl rfl (qv 6 rfl rfl (qp f 0 7 rfl (qp f 0 8 rfl (qp f 2 9 rfl (ql 10 rfl 0 E1 rfl rfl rfl (qk (.bool (decide (((a.cB:Nat):Int) ≥ ((a.aa.bf:Nat):Int)))) 11 rfl (qa 12 rfl rfl (qn (FW (rt (rs (fw (.bool (decide (¬ (((a.cB:Nat):Int) ≥ ((a.aa.bf:Nat):Int))))) (Gi (e:= !(decide (((a.cB:Nat):Int) ≥ ((a.aa.bf:Nat):Int)))) yk decide_not.symm) (nt ?_))))))))))))))
 by_cases aT:((a.cB:Nat):Int) ≥ ((a.aa.bf:Nat):Int)
 refine jF (dF (JP aT)) (Gj (bN (FW (FT (Mz rfl (fw (vJ (b+1)) (FV (e:=C7.wrap (((b:Nat):Int)+1)) yk f1) (Az rfl (D0 ?_))))))))
 have kZ:=fA F G K L M N O P V
 have lc:=kZ.pf []
 exact F9 (b+1,p,r,I,g,h) ⟨rfl,rfl,trivial⟩ (C.2 ⟨lc,by exact E,e6,e6,et (J) (et (ip R) (et (iN W) (et (iN aj) (et (ip aS) (ip aT)))))⟩) (by show h < h+1; omega)
 refine jT (dT aT) (FT (Mz rfl (Mz rfl ?_)))
 refine WL.do rfl (Gd T2 rfl ?_ (fun _ _ k=>k))
 refine cb T3 ?_
 have lg:=V.pf [0,18,20,21]
 refine xx [32] Gh lg ?_
 intro o6 cO
 refine qv 0 rfl rfl (qv 1 rfl rfl (qv 2 rfl rfl (qp d 0 3 rfl (qp d 0 4 rfl (ql 5 rfl 1 O3 rfl rfl rfl (qp f 0 6 rfl (qp f 0 7 rfl (qp f 2 8 rfl (ql 9 rfl 0 E1 rfl rfl rfl (qv 10 rfl rfl (qp d 0 11 rfl (qp d 0 12 rfl (ql 13 rfl 1 O3 rfl rfl rfl (qp f 0 14 rfl (qp f 0 15 rfl (qp f 3 16 rfl (ql 17 rfl 0 E1 rfl rfl rfl (qv 18 rfl rfl (qp d 0 19 rfl (qp d 0 20 rfl (ql 21 rfl 1 O3 rfl rfl rfl (qv 23 rfl rfl (qp d 0 24 rfl (qp d 0 25 rfl (ql 26 rfl 1 O3 rfl rfl rfl (qp f 0 27 rfl (qp f 0 28 rfl (qp f 4 29 rfl (ql 30 rfl 0 T4 rfl rfl rfl ?_)))))))))))))))))))))))))))))
 refine GX.do 22 rfl e7 (Gd T5 rfl ?_ (fun _ _ k=>k))
 refine cb T6 ?_
 refine sr (An rfl (FU (sr (Mz rfl (Kz (vP f 0) (Kz (vP f 34) (Lz (.pointer none) cO 0 U0 (Kz (.bool true) (nt (jt (sr (An rfl (rt (tR (rs ?_)))))))))))))))
 refine⟨.inr ⟨_,cO⟩, ?_⟩
 refine qk (.agg (gD 8 0 ((b:Nat):Int) 0 0 0 0 0 0 0 a.aa.bf a.aa.aK 0 0 0 false ([]) ([]) none 0 0 none 0 0 S a.aa.ag.ls.length B).toArray) 31 rfl ?_
 have lh:=cO.pf [1,22,23]
 obtain⟨cZ,df⟩:∃ q,dA (bH.mk (E4 g)) (bQ.mk 8 0 ((b:Nat):Int) 0 0 0 0 0 0 0 a.aa.bf a.aa.aK 0 0 0 false (bL.mk ([]) ([])) (E4 ([])) (E4 ([])) (E4 a.aa.ag.ls))=q:=⟨_,rfl⟩
 obtain⟨o7,iL,nD,iO,iP⟩:=Gv lh
 refine qd 32 rfl (Gd O6 rfl (fI _ _ d (bH.mk (E4 g)) p r I f (bQ.mk 8 0 ((b:Nat):Int) 0 0 0 0 0 0 0 a.aa.bf a.aa.aK 0 0 0 false (bL.mk ([]) ([])) (E4 ([])) (E4 ([])) (E4 a.aa.ag.ls)) none 0 0 none 0 0 [] S a.aa.ag.ls.length B cZ iL E rfl (fun _ _=>bD.nil _ _ _) f2 rfl rfl (fun _ _=>bD.nil _ _ _) f2 (fun _ Y=>absurd Y B3) rfl (iP _ 3 _ rfl aV) (show a.aa.ag.ls.length≤B∧a.aa.ag.ls.length≤9223372036854775807 from by omega) e8 (by first | assumption | exact dG f4 | exact fun x hx=>absurd hx B3 | exact dG (Mk.l8 f4).1 | exact dG (Mk.lq f4).1 | exact dG (Mk.mq f4).1 | exact dG (Mk.mo f4).1 | exact dG (Mk.mr f4).1) df) ?_)
 rintro _ o8 ⟨ll,lm,lq,rfl,iQ,dh,di⟩
 have fV:=iO _ _ iQ
 have nE:=az dh
 have nG:=fV.rowC (i:=1) rfl
 replace di:cZ.bB.ls.length=g.length+1:=di
 refine⟨.inl e7, ?_⟩
 refine qn (Gf (res0 rfl) (D0 (bN (FW (FT (Mz rfl (fw (vJ (b+1)) (FV (e:=C7.wrap (((b:Nat):Int)+1)) yk f1) (Az rfl (D0 ?_)))))))))
 have lu:=fV.pb [0,1,2,4,5,23]
 have lv:=fA F G K L M N O P lu
 have lw:=lv.pb [4,5,2,3]
 exact F9 (b+1,ll,lm,lq,cZ.bB.ls,h) ⟨rfl,rfl,trivial⟩ (C.2 ⟨lw,by exact dh,e6,e6,et (J) (et (ip R) (et (iN W) (et (iN aj) (et (ip aS) (et (iN aT) (ai df))))))⟩) (by show h < h+1; omega)
 refine qt (v:=vP f 33) 4 rfl (fun _ _=>by(try unfold vJ); rw [show ((b:Nat):Int)=4 from by omega]; exact yk) (ql 5 rfl 0 E1 rfl rfl rfl (qv 6 rfl rfl (qp f 0 7 rfl (qp f 0 8 rfl (qp f 2 9 rfl (ql 10 rfl 0 E1 rfl rfl rfl (qk (.bool (decide (((a.cu:Nat):Int) ≥ ((a.aa.bf:Nat):Int)))) 11 rfl (qa 12 rfl rfl (qn (FW (rt (rs (fw (.bool (decide (¬ (((a.cu:Nat):Int) ≥ ((a.aa.bf:Nat):Int))))) (Gi (e:= !(decide (((a.cu:Nat):Int) ≥ ((a.aa.bf:Nat):Int)))) yk decide_not.symm) (nt ?_))))))))))))))
 by_cases aU:((a.cu:Nat):Int) ≥ ((a.aa.bf:Nat):Int)
 refine jF (dF (JP aU)) (Gj (bN (FW (FT (Mz rfl (fw (vJ (b+1)) (FV (e:=C7.wrap (((b:Nat):Int)+1)) yk f1) (Az rfl (D0 ?_))))))))
 have lC:=fA F G K L M N O P V
 have lD:=lC.pf []
 exact F9 (b+1,p,r,I,g,h) ⟨rfl,rfl,trivial⟩ (C.2 ⟨lD,by exact E,e6,e6,et (J) (et (ip R) (et (iN W) (et (iN aj) (et (iN aS) (ip aU)))))⟩) (by show h < h+1; omega)
 refine jT (dT aU) (FT (Mz rfl (Mz rfl ?_)))
 refine WL.do rfl (Gd T2 rfl ?_ (fun _ _ k=>k))
 refine cb T3 ?_
 have lF:=V.pf [0,18,20,21]
 refine xx [32] Gh lF ?_
 intro o9 dm
 refine qv 0 rfl rfl (qv 1 rfl rfl (qv 2 rfl rfl (qp d 0 3 rfl (qp d 0 4 rfl (ql 5 rfl 1 O3 rfl rfl rfl (qp f 0 6 rfl (qp f 0 7 rfl (qp f 2 8 rfl (ql 9 rfl 0 E1 rfl rfl rfl (qv 10 rfl rfl (qp d 0 11 rfl (qp d 0 12 rfl (ql 13 rfl 1 O3 rfl rfl rfl (qp f 0 14 rfl (qp f 0 15 rfl (qp f 3 16 rfl (ql 17 rfl 0 E1 rfl rfl rfl (qv 18 rfl rfl (qp d 0 19 rfl (qp d 0 20 rfl (ql 21 rfl 1 O3 rfl rfl rfl (qv 23 rfl rfl (qp d 0 24 rfl (qp d 0 25 rfl (ql 26 rfl 1 O3 rfl rfl rfl (qp f 0 27 rfl (qp f 0 28 rfl (qp f 4 29 rfl (ql 30 rfl 0 T4 rfl rfl rfl ?_)))))))))))))))))))))))))))))
 refine GX.do 22 rfl e7 (Gd T5 rfl ?_ (fun _ _ k=>k))
 refine cb T6 ?_
 refine sr (An rfl (FU (sr (Mz rfl (Kz (vP f 0) (Kz (vP f 34) (Lz (.pointer none) dm 0 U0 (Kz (.bool true) (nt (jt (sr (An rfl (rt (tR (rs ?_)))))))))))))))
 refine⟨.inr ⟨_,dm⟩, ?_⟩
 refine qk (.agg (gD 8 0 ((b:Nat):Int) 0 0 0 0 0 0 0 a.aa.bf a.aa.aK 0 0 0 false ([]) ([]) none 0 0 none 0 0 S a.aa.ag.ls.length B).toArray) 31 rfl ?_
 have lG:=dm.pf [1,22,23]
 obtain⟨dn,dw⟩:∃ q,dA (bH.mk (E4 g)) (bQ.mk 8 0 ((b:Nat):Int) 0 0 0 0 0 0 0 a.aa.bf a.aa.aK 0 0 0 false (bL.mk ([]) ([])) (E4 ([])) (E4 ([])) (E4 a.aa.ag.ls))=q:=⟨_,rfl⟩
 obtain⟨pg,iR,nH,iU,iV⟩:=Gv lG
 refine qd 32 rfl (Gd O6 rfl (fI _ _ d (bH.mk (E4 g)) p r I f (bQ.mk 8 0 ((b:Nat):Int) 0 0 0 0 0 0 0 a.aa.bf a.aa.aK 0 0 0 false (bL.mk ([]) ([])) (E4 ([])) (E4 ([])) (E4 a.aa.ag.ls)) none 0 0 none 0 0 [] S a.aa.ag.ls.length B dn iR E rfl (fun _ _=>bD.nil _ _ _) f2 rfl rfl (fun _ _=>bD.nil _ _ _) f2 (fun _ Y=>absurd Y B3) rfl (iV _ 3 _ rfl aV) (show a.aa.ag.ls.length≤B∧a.aa.ag.ls.length≤9223372036854775807 from by omega) e8 (by first | assumption | exact dG f4 | exact fun x hx=>absurd hx B3 | exact dG (Mk.l8 f4).1 | exact dG (Mk.lq f4).1 | exact dG (Mk.mq f4).1 | exact dG (Mk.mo f4).1 | exact dG (Mk.mr f4).1) dw) ?_)
 rintro _ pq ⟨lH,lI,lJ,rfl,iW,dx,dz⟩
 have fZ:=iU _ _ iW
 have nI:=az dx
 have nJ:=fZ.rowC (i:=1) rfl
 replace dz:dn.bB.ls.length=g.length+1:=dz
 refine⟨.inl e7, ?_⟩
 refine qn (Gf (res0 rfl) (D0 (bN (FW (FT (Mz rfl (fw (vJ (b+1)) (FV (e:=C7.wrap (((b:Nat):Int)+1)) yk f1) (Az rfl (D0 ?_)))))))))
 have lK:=fZ.pb [0,1,2,4,5,23]
 have lL:=fA F G K L M N O P lK
 have lM:=lL.pb [4,5,2,3]
 exact F9 (b+1,lH,lI,lJ,dn.bB.ls,h) ⟨rfl,rfl,trivial⟩ (C.2 ⟨lM,by exact dx,e6,e6,et (J) (et (ip R) (et (iN W) (et (iN aj) (et (iN aS) (et (iN aU) (ai dw))))))⟩) (by show h < h+1; omega)
 refine jF (dF R) (D1 (F4 ?_))
 have iX:fe n a ((D2 (j.aa.av+1 - 1))+1) 1 z=g:=et (J) (iN R)
 refine F4 (Gg (FW (FT (Mz rfl ?_))))
 refine WL.do rfl (Gd Tryz.call30 rfl ?_ (fun _ _ k=>k))
 refine cb Tryz.func30 ?_
 refine sr (Mz rfl (Kz (vP d 0) (Kz (vP d 0) (Lz (vP f 0) Q 18 O3 (Kz (vP f 0) (Kz (vP f 34) (Lz (.pointer none) Q 0 U0 (An rfl (FU (sr (Mz rfl (Kz (.bool true) (nt (jt (rt (tR (Fin.res (res0 rfl) (D0 (Gf (res0 rfl) (ns (Mz rfl (Kz (vP f 0) (Kz (vP f 0) (La ([vI a.aa.av,vU a.aa.ax,vU a.aa.bf,vU a.aa.aK, .slice S a.aa.ag.ls.length B, .slice fP a.aa.aj.ls.length bR, .slice fQ a.aa.aI.ls.length bS]) Q 0 S8 I0 ?_))))))))))))))))))))))))
 obtain⟨⟨ak,gp⟩,dB⟩:∃ q:(List UInt8) × Int,eD a.aa=q:=⟨_,rfl⟩
 obtain⟨pu,iY,nK,iZ,T⟩:=FY Q
 refine cl S9 (kg _ _ a.aa S a.aa.ag.ls.length B fP a.aa.aj.ls.length bR ky fQ a.aa.aI.ls.length bS kz ak gp iY rfl (T _ 1 _ rfl aV) (show a.aa.ag.ls.length≤B∧a.aa.ag.ls.length≤9223372036854775807 from by omega) F rfl (T _ 2 _ rfl aV) (show a.aa.aj.ls.length≤bR∧a.aa.aj.ls.length≤9223372036854775807 from by omega) (fun x9 Y=>⟨T _ 3 _ rfl (ay (P3.2 ⟨x9,Y,b1⟩) aV),bz (φ:=fun _=>_) Q (i:=3) rfl (ay (P3.2 ⟨x9,Y,b1⟩) bq)⟩) G rfl (T _ 4 _ rfl aV) (show a.aa.aI.ls.length≤bS∧a.aa.aI.ls.length≤9223372036854775807 from by omega) (fun x9 Y=>⟨T _ 5 _ rfl (ay (P3.2 ⟨x9,Y,b1⟩) aV),bz (φ:=fun _=>_) Q (i:=5) rfl (ay (P3.2 ⟨x9,Y,b1⟩) bq),(fun y1 k1=>⟨T _ 5 _ rfl (ay (P3.2 ⟨x9,Y, .tail _ b1⟩) (ay (P3.2 ⟨y1,k1,b1⟩) aV)),bz (φ:=fun _=>_) Q (i:=5) rfl (ay (P3.2 ⟨x9,Y, .tail _ b1⟩) (ay (P3.2 ⟨y1,k1,b1⟩) bq))⟩)⟩) e8 i4 dB) ?_
 rintro _ pz ⟨gq,gu,rfl,jb,dC⟩
 have gy:=iZ _ _ jb
 have nL:=gy.rowC (i:=0) rfl
 replace dC:ak.length≤100000:=dC
 refine Mz rfl (Kz (.slice gq ak.length gu) (Kz (vI gp) (Az rfl (An rfl (FU ?_)))))
 have lN:=gy.pb [21]
 refine oJ 24 [] (F8 Gh) lN ?_
 intro pF lQ
 refine qv 0 rfl rfl (qp d 0 1 rfl (qp d 1 2 rfl (ql 3 rfl 19 T0 rfl rfl rfl (qv 4 rfl rfl (qv 5 rfl rfl ?_)))))
 obtain⟨X,dD⟩:∃ q,bytes_Equal n ak=q:=⟨_,rfl⟩
 obtain⟨pG,jc,nM,jd,dE⟩:=FY lQ
 refine qd 6 rfl (Gd T1 rfl (qX _ _ aY n.length bf n gq ak.length gu ak X jc (dE _ 20 _ rfl aV) rfl e6 (dE _ 0 _ rfl aV) rfl e6 dD) ?_)
 rintro _ pI ⟨rfl,je⟩
 have gz:=jd _ _ je
 refine⟨.inr ⟨_,gz⟩, ?_⟩
 refine qk (.bool (!X)) 7 rfl (qk (.agg #[.slice p g.length r, .bool (!X)]) 8 rfl ?_)
 have lS:=gz.pf [24]
 refine qe 9 rfl (Do.store (vs:= [.slice p g.length r, .bool (!X)]) (o:=0) lS rfl rfl S4 rfl rfl rfl rfl ?_)
 intro pJ lT
 have dH:=lT.pb [0]
 refine⟨.inr ⟨_,dH⟩, ?_⟩
 refine qn (FW (rt (Fin.res (mZ rfl rfl (Gc (cs:= [.slice p g.length r, .bool (!X)]) S5 S4 ((dH.cls (i:=24) rfl).lit (k:=0) (m:=2) rfl))) ?_)))
 have lU:=dH.pf [21]
 refine dN [.slice p g.length r, .bool (!X)] 0 lU S4 ?_
 intro pK gB
 refine nt (rt (Fin.res (mZ rfl rfl (Gc (cs:= [.slice p g.length r, .bool (!X)]) S5 S4 ((gB.cls (i:=0) rfl).lit (k:=0) (m:=2) rfl))) ?_))
 have lV:=gB.pb [0,1,20,21,22,23,24]
 have lW:=fA F G K L M N O P lV
 have lX:=lW.pk [5,6,0]
 obtain⟨rfl,rfl⟩:=gm (hr.symm.trans (show _=(jW.mk (E4 g) (!X),a) from et (ai dQ) (et (ai dU) (et (ai gT) (et (ai iy) (et (ai iX) (et (ai dB) (ai dD))))))))
 exact⟨p,r,I,rfl,lX,E,i1,f4⟩
end Go.Proofs.YtbkagebjhbphaaaGreat
