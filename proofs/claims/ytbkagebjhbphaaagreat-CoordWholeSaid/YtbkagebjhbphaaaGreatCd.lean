/-
 coord: its methods.
-/
import Derived.Test.YtbkagebjhbphaaaGreatCoW
namespace Go.Proofs.YtbkagebjhbphaaaGreat
open List renaming flatMap→q4,map→s5,mem_flatMap→Q6,not_mem_nil→v7
open Ll renaming mk→E0
open _root_.Go.Proofs.Tryz renaming call54→U1,isAgg3→C2,isAgg33→U0,isAgg42→N8,isAgg47→T6,prog→v5,sizeOf33→H2,sizeOf42→N9,sizeOf47→T5,underlying134→O7,underlying5→T4,underlying9→v9
set_option maxRecDepth 100000
open Go.RowKit
set_option linter.unusedVariables false
set_option linter.unusedSectionVars false
set_option linter.unusedSimpArgs false
def bytes_Equal (l0:List UInt8) (l1:List UInt8):Bool:=
 decide (l0=l1)
theorem uJ (w D h a k l0 i b m l1 j) (H:Own w D w []) (c:Ro w D fun w'=>aY w' 1 h a (q4 eB l0)) (d:a=l0.length) (n:l0.length *1≤211106232532992) (e:Ro w D fun w'=>aY w' 1 i b (q4 eB l1)) (f:b=l1.length) (o:l1.length *1≤211106232532992) (hr:bytes_Equal l0 l1=j):
    Calls v5 55 #[.slice h a k, .slice i b m] w (dA fun v w'=>v= .bool j∧Own w D w' []):=by
 subst d f
 refine cb Tryz.func55 ?_
 refine sr (Ar rfl (Mz rfl (fw (.string ⟨List.toArray l0⟩) (JE (l:=l0) O7 T4 v9 (H.ro c) rfl) (Mz rfl (fw (.string ⟨List.toArray l1⟩) (JE (l:=l1) O7 T4 v9 (H.ro e) rfl) (fw (.bool (decide (l0=l1))) (JC rfl rfl) (An rfl (rt (rs ?_)))))))))
 have g:=H.pk []
 obtain rfl:_=decide (l0=l1):=hr.symm.trans rfl
 exact⟨rfl,g⟩
def dY (c:aD) (d:bW):kG × Int × aD:=
 if d.aI≤10 then bnd (kR d) fun k=>if k=0 then if d.eO=0 then if d.aI > c.aa.au then(kG.mk (E0 ([])) false,180,c) else bnd (ji c.aa) fun l=>bnd (kL (bU.mk (E0 ([]))) d c) fun a=>bnd (ji a.2.aa) fun e=>bnd (bytes_Equal l.1 e.1) fun f=>(kG.mk (E0 a.1.bF.ls) (!f),0,a.2) else(kG.mk (E0 ([])) false,180,c) else(kG.mk (E0 ([])) false,180,c) else bnd (kR d) fun g=>if g=0 then if d.eO=0 then bnd (ji c.aa) fun h=>bnd (kL (bU.mk (E0 ([]))) d c) fun b=>bnd (ji b.2.aa) fun i=>bnd (bytes_Equal h.1 i.1) fun j=>(kG.mk (E0 b.1.bF.ls) (!j),0,b.2) else(kG.mk (E0 ([])) false,180,c) else(kG.mk (E0 ([])) false,180,c)
set_option maxHeartbeats 4000000 in
theorem jI (w D z) (f:aD) (a:bW) (l dG g n dH h P p dI j) (r0:kG) (r1) (r2:aD) (H:Own w D w [jZ z f]) (fF:dG=a.aB.ls.length) (av:Ro w D fun w'=>aY w' 6 l a.aB.ls.length (q4 aN.cells a.aB.ls)) (kr:a.aB.ls.length≤g∧a.aB.ls.length≤9223372036854775807) (Q:s5 af.abs P=a.ah.ls) (fG:dH=a.ah.ls.length) (ax:Ro w D fun w'=>aY w' 3 n a.ah.ls.length (q4 af.cells P)) (ku:a.ah.ls.length≤h∧a.ah.ls.length≤9223372036854775807) (u:∀ x ∈ P,Ro w D (fun w'=>aY w' 2 x.aj.A x.aj.ls.length (q4 aH.cells x.aj.ls))∧(x.aj.ls.length≤x.aj.c∧x.aj.ls.length≤9223372036854775807)) (fH:dI=a.ag.ls.length) (ay:Ro w D fun w'=>aY w' 2 p a.ag.ls.length (q4 aM.cells a.ag.ls)) (kv:a.ag.ls.length≤j∧a.ag.ls.length≤9223372036854775807) (nO:f.aa.ag.ls.length≤1000∧f.aC.ls.length+f.aa.ak.ls.length≤8∧f.aa.aK.ls.length≤900∧jR a.aU∧a.aB.ls.length≤140737488355328∧a.ah.ls.length≤140737488355328∧a.ag.ls.length≤140737488355328) (nP:Mk f) (hr:dY f a=(r0,r1,r2)):
    Calls v5 13 #[vP z 0, .agg (iA a.av a.aI a.eO a.aP a.dK a.fA a.aU a.ax a.aX a.eQ a.bG a.aF a.eG a.cZ a.xN a.fe a.cu.aJ a.cu.aR l dG g n dH h p dI j).toArray] w (dA fun v w'=> ∃ dK dL bg,v= .tuple #[.agg #[.slice dK r0.cz.ls.length dL, .bool r0.jo],vI r1]∧Own w D w' [row dK r0.cz.ls.length dL (q4 bz.cells bg) 42 21,sepL (q4 bz.own bg),jZ z r2]∧(s5 bz.abs bg=r0.cz.ls)∧(r2.aa.ag.ls.length=f.aa.ag.ls.length∧r2.aa.au=f.aa.au∧r2.aC.ls.length+r2.aa.ak.ls.length≤8∧r2.aa.aK.ls.length≤f.aa.aK.ls.length+1)∧(Mk r2)):=by
 subst fF fG fH
 have ko:=aA Q
 refine cb Tryz.func13 ?_
 refine sr ?_
 refine dn (gK a l g n h p j) 42 H ?_
 intro G nQ kw
 refine dn [.slice none 0 0, .bool false] 47 kw ?_
 intro aO nR ky
 refine An rfl (Ik ?_)
 have kz:=ky.pf [2]
 obtain⟨dz,aX,dB,aZ,ig,dC,bf,ik,nS,nT,nU,nV,nW,nX,nY,nZ,og,oh,ol,om,oq,ou,ow,oz,oC,oD,B,C,R,S,T,U,V,W,lH,kC⟩:=lY kz
 refine oV 20 [] (IE IQ) kC ?_
 intro oF dD
 refine qp G 1 0 rfl (ql 1 rfl 19 C2 rfl rfl rfl (qk (.bool (decide (a.aI≤10))) 2 rfl (qv 3 rfl rfl ?_)))
 by_cases r:a.aI≤10
 refine Iy (v:=vP G 1) (rs:= []) 4 rfl rfl rfl (dT r) e7 (fun _ _=>yk) (Iy (v:=vI a.aI) (rs:= []) 5 rfl rfl rfl (dT r) e7 (fun _ ⟨_,H9⟩=>IB rfl (bJ.one C2 (I1 (H9.cls (i:=19) rfl) rfl))) (Iy (v:=vP z 0) (rs:= []) 6 rfl rfl rfl (dT r) e7 (fun _ _=>IA rfl) (Iy (v:=vP z 0) (rs:= []) 7 rfl rfl rfl (dT r) e7 (fun _ _=>yk) (Iy (v:=vP z 0) (rs:= []) 8 rfl rfl rfl (dT r) e7 (fun _ _=>yk) (Iy (v:=vP z 0) (rs:= []) 9 rfl rfl rfl (dT r) e7 (fun _ _=>yk) (Iy (v:=vI f.aa.au) (rs:= []) 10 rfl rfl rfl (dT r) e7 (fun _ ⟨_,H9⟩=>IB rfl (bJ.one C2 (I1 (H9.cls (i:=0) rfl) rfl))) (Iy (v:= .bool (decide (a.aI > f.aa.au))) (rs:= []) 11 rfl rfl rfl (dT r) e7 (fun _ _=>yk) (qt (v:= .bool (decide (a.aI > f.aa.au))) 12 rfl (fun _ _=>Iw rfl (dT r) rfl) (qa 13 rfl rfl (qn (Iq (Ik (sr (La (gK a l g n h p j) dD 19 N8 N9 ?_))))))))))))))
 obtain⟨bi,ah⟩:∃ q,kR a=q:=⟨_,rfl⟩
 obtain⟨oG,il,aS,iq,lI⟩:=Iu dD
 refine cl Tryz.call21 (vz _ _ a l a.aB.ls.length g n a.ah.ls.length h P p a.ag.ls.length j bi il rfl (aS _ av) (show a.aB.ls.length≤g∧a.aB.ls.length≤9223372036854775807 from by omega) Q rfl (aS _ ax) (show a.ah.ls.length≤h∧a.ah.ls.length≤9223372036854775807 from by omega) (fun s t=>⟨aS _ (u s t).1,(u s t).2⟩) rfl (aS _ ay) (show a.ag.ls.length≤j∧a.ag.ls.length≤9223372036854775807 from by omega) i3 ah) ?_
 rintro _ oH ⟨rfl,iw⟩
 have bu:=iq _ _ iw
 have lJ: ¬ (bi=0)∨(a.aB.ls.length≤24∧a.ag.ls.length≤1000∧a.ah.ls.length≤1000∧(¬ (a.av=1)∨11≤a.aI∧a.aI≤14)∧(¬ (a.av=9)∨1≤a.aI∧a.aI≤4)):=DC ah
 refine fw (.bool (decide (¬ (bi=0)))) (IM (e:= !(decide (bi=0))) yk decide_not.symm) (Mz rfl ?_)
 by_cases O:bi=0
 refine gw (vP G 2) (dF (Lr O)) yk (gw (vI a.eO) (dF (Lr O)) (IB rfl (bJ.one C2 (I1 (bu.cls (i:=19) rfl) rfl))) (gw (.bool (decide (¬ (a.eO=0)))) (dF (Lr O)) (IM (e:= !(decide (a.eO=0))) yk decide_not.symm) (fw (.bool (decide (¬ (a.eO=0)))) (Io rfl (dF (Lr O)) rfl) (Mz rfl ?_))))
 by_cases aP:a.eO=0
 refine gw (.bool (decide (a.aI > f.aa.au))) (dF (Lr aP)) (IA rfl) (fw (.bool (decide (a.aI > f.aa.au))) (Io rfl (dF (Lr aP)) rfl) (nt ?_))
 by_cases dE:a.aI > f.aa.au
 refine jT (dT dE) (sr (Kz (.agg #[.slice none 0 0, .bool false]) ?_))
 have kE:=bu.pf [18]
 refine df [.slice none 0 0, .bool false] 0 kE T5 ?_
 intro iy iB
 refine An rfl (rt (tR (Fin.res (jb (vs:= [.agg #[.slice none 0 0, .bool false],vI 180]) rfl (cK.cell rfl (IJ (cs:= [.slice none 0 0, .bool false]) T6 T5 ((iB.cls (i:=0) rfl).lit (k:=0) (m:=2) rfl)) (cK.tmp rfl cK.nil)) (Lj rfl)) ?_)))
 have kF:=iB.pb [0,19]
 have kH:=iK B C R S T U V W kF
 have kI:Own w D iy [sepL (q4 bz.own ([])),jZ z f,blk aO [.slice none 0 0, .bool false] 47,blk G (gK a l g n h p j) 42]:=kH.sepNil
 have kJ:Own w D iy (row none 0 0 (q4 bz.cells ([])) 42 21::_):=kI.free (eP 42 21)
 have kK:=kJ.pk [0,1,2]
 obtain⟨rfl,rfl,rfl⟩:=zR (hr.symm.trans (show _=(kG.mk (E0 ([])) false,180,f) from et (ip r) (et (ae ah) (et (ip O) (et (ip aP) (ip dE))))))
 exact⟨none,0, [],rfl,kK,rfl,i2,f5⟩
 refine jF (dF dE) (sk (sr (Mz rfl (Kz (.func (.func 23) #[] #[vP G 0]) ?_))))
 refine WL.do rfl (IP Tryz.call22 rfl ?_ (fun _ _ k=>k))
 refine cb Tryz.func22 ?_
 refine sr ?_
 refine dn [.slice none 0 0, .bool false] 47 bu ?_
 intro kM oI bv
 refine ns (Mz rfl (Kz (vP z 0) (Kz (vP z 0) (La ([vI f.aa.au,vU f.aa.ax,vU f.aa.bG,vU f.aa.aF, .slice dz f.aa.ag.ls.length aX, .slice dB f.aa.ak.ls.length aZ, .slice dC f.aa.aK.ls.length bf]) bv 1 U0 H2 ?_))))
 obtain⟨⟨aG,iC⟩,dM⟩:∃ q:(List UInt8) × Int,ji f.aa=q:=⟨_,rfl⟩
 obtain⟨oJ,iD,lK,iE,ai⟩:=Iu bv
 refine cl U1 (ma _ _ f.aa dz f.aa.ag.ls.length aX dB f.aa.ak.ls.length aZ ig dC f.aa.aK.ls.length bf ik aG iC iD rfl (ai _ 2 _ rfl aW) (show f.aa.ag.ls.length≤aX∧f.aa.ag.ls.length≤9223372036854775807 from by omega) B rfl (ai _ 3 _ rfl aW) (show f.aa.ak.ls.length≤aZ∧f.aa.ak.ls.length≤9223372036854775807 from by omega) (fun s t=>⟨ai _ 4 _ rfl (az (Q6.2 ⟨s,t,b1⟩) aW),bq (φ:=fun _=>_) bv (i:=4) rfl (az (Q6.2 ⟨s,t,b1⟩) bn)⟩) C rfl (ai _ 5 _ rfl aW) (show f.aa.aK.ls.length≤bf∧f.aa.aK.ls.length≤9223372036854775807 from by omega) (fun s t=>⟨ai _ 6 _ rfl (az (Q6.2 ⟨s,t,b1⟩) aW),bq (φ:=fun _=>_) bv (i:=6) rfl (az (Q6.2 ⟨s,t,b1⟩) bn),(fun y1 k1=>⟨ai _ 6 _ rfl (az (Q6.2 ⟨s,t, .tail _ b1⟩) (az (Q6.2 ⟨y1,k1,b1⟩) aW)),bq (φ:=fun _=>_) bv (i:=6) rfl (az (Q6.2 ⟨s,t, .tail _ b1⟩) (az (Q6.2 ⟨y1,k1,b1⟩) bn))⟩)⟩) e8 i9 dM) ?_
 rintro _ lL ⟨bC,bD,rfl,fI,bE⟩
 have dN:=iE _ _ fI
 have kN:=dN.rowC (i:=0) rfl
 replace bE:aG.length≤100000:=bE
 refine Mz rfl (Kz (.slice bC aG.length bD) (Kz (vI iC) (Az rfl (Ar rfl (Mz rfl (Kz (.agg #[vP z 0, .slice none 0 0]) ?_))))))
 refine dn [vP z 0, .slice none 0 0] 98 dN ?_
 intro aT dO dP
 refine Ar rfl (Mz rfl (Mz rfl ?_))
 refine WL.do rfl (IY Tryz.call23 rfl rfl ?_ (fun _ _ k=>k))
 refine cb Tryz.func23 ?_
 refine Il (Mz rfl (La (gK a l g n h p j) dP 22 N8 N9 ?_))
 have iF:=dP.pb [0,1,2,21,22]
 have iG:=iK B C R S T U V W iF
 have iH:Own w D dO [sepL (q4 bz.own ([])),jZ z f,blk aT [vP z 0, .slice none 0 0] 98,row bC aG.length bD (q4 eB aG) 5 1,blk kM [.slice none 0 0, .bool false] 47,blk aO [.slice none 0 0, .bool false] 47,blk G (gK a l g n h p j) 42]:=iG.sepNil
 have iI:Own w D dO (row none 0 0 (q4 bz.cells ([])) 42 21::_):=iH.free (eP 42 21)
 have iJ:=iI.pf [3]
 obtain⟨⟨L,b⟩,aQ⟩:∃ q:bU × aD,kL (bU.mk (E0 ([]))) a f=q:=⟨_,rfl⟩
 obtain⟨lM,fJ,aB,fK,kP⟩:=Jf iJ
 refine cl Tryz.call24 (rR _ _ aT (bU.mk (E0 ([]))) none 0 ([]) a l a.aB.ls.length g n a.ah.ls.length h P p a.ag.ls.length j z f L b fJ rfl rfl (aB _ av) (show a.aB.ls.length≤g∧a.aB.ls.length≤9223372036854775807 from by omega) Q rfl (aB _ ax) (show a.ah.ls.length≤h∧a.ah.ls.length≤9223372036854775807 from by omega) (fun s t=>⟨aB _ (u s t).1,(u s t).2⟩) rfl (aB _ ay) (show a.ag.ls.length≤j∧a.ag.ls.length≤9223372036854775807 from by omega) e8 f5 e8 j0 e8 aQ) ?_
 rintro _ lN ⟨X,Y,iL,rfl,fM,bF⟩
 have dQ:=fK _ _ fM
 have kQ:=aA bF
 have kS:=dQ.rowC (i:=1) rfl
 have bG:=zi aQ (tT f5 f5) e6 e6
 have kT:Mk b:=bG.2 f5
 have kU:b.aa.ag.ls.length=f.aa.ag.ls.length∧b.aa.au=f.aa.au∧b.aC.ls.length+b.aa.ak.ls.length≤8∧b.aa.aK.ls.length≤f.aa.aK.ls.length+1:=Ku bG.1 e6
 refine WL.nil (IL (res0 rfl) (nt (Ik ?_)))
 have iM:=dQ.pf [3]
 obtain⟨dR,bH,dS,bI,iO,dU,bK,iP,lQ,lS,lT,lU,lV,lW,lX,lZ,l5,l6,l7,l8,l9,mf,mg,mh,mi,mo,bL,bM,fO,fP,fQ,fT,fU,fV,kV,aI⟩:=lY iM
 refine Il (Mz rfl (Kz (vP z 0) (Kz (vP z 0) (La ([vI b.aa.au,vU b.aa.ax,vU b.aa.bG,vU b.aa.aF, .slice dR b.aa.ag.ls.length bH, .slice dS b.aa.ak.ls.length bI, .slice dU b.aa.aK.ls.length bK]) aI 0 U0 H2 ?_))))
 obtain⟨⟨aj,dV⟩,bN⟩:∃ q:(List UInt8) × Int,ji b.aa=q:=⟨_,rfl⟩
 obtain⟨mq,fZ,kW,gm,I⟩:=Iu aI
 refine cl U1 (ma _ _ b.aa dR b.aa.ag.ls.length bH dS b.aa.ak.ls.length bI iO dU b.aa.aK.ls.length bK iP aj dV fZ rfl (I _ 1 _ rfl aW) (show b.aa.ag.ls.length≤bH∧b.aa.ag.ls.length≤9223372036854775807 from by omega) bL rfl (I _ 2 _ rfl aW) (show b.aa.ak.ls.length≤bI∧b.aa.ak.ls.length≤9223372036854775807 from by omega) (fun s t=>⟨I _ 3 _ rfl (az (Q6.2 ⟨s,t,b1⟩) aW),bq (φ:=fun _=>_) aI (i:=3) rfl (az (Q6.2 ⟨s,t,b1⟩) bn)⟩) bM rfl (I _ 4 _ rfl aW) (show b.aa.aK.ls.length≤bK∧b.aa.aK.ls.length≤9223372036854775807 from by omega) (fun s t=>⟨I _ 5 _ rfl (az (Q6.2 ⟨s,t,b1⟩) aW),bq (φ:=fun _=>_) aI (i:=5) rfl (az (Q6.2 ⟨s,t,b1⟩) bn),(fun y1 k1=>⟨I _ 5 _ rfl (az (Q6.2 ⟨s,t, .tail _ b1⟩) (az (Q6.2 ⟨y1,k1,b1⟩) aW)),bq (φ:=fun _=>_) aI (i:=5) rfl (az (Q6.2 ⟨s,t, .tail _ b1⟩) (az (Q6.2 ⟨y1,k1,b1⟩) bn))⟩)⟩) e8 i9 bN) ?_
 rintro _ mr ⟨dW,dX,rfl,gp,bO⟩
 have dZ:=gm _ _ gp
 have kX:=dZ.rowC (i:=0) rfl
 replace bO:aj.length≤100000:=bO
 refine Mz rfl (Kz (.slice dW aj.length dX) (Kz (vI dV) (Az rfl (An rfl (Ik ?_)))))
 have iQ:=dZ.pb [23]
 refine oV 25 [] (IE IQ) iQ ?_
 intro mD iR
 refine qv 0 rfl rfl (qp aT 0 1 rfl (qp aT 1 2 rfl (ql 3 rfl 19 Tryz.isAgg45 rfl rfl rfl (qv 4 rfl rfl (qv 5 rfl rfl ?_)))))
 obtain⟨E,bP⟩:∃ q,bytes_Equal aG aj=q:=⟨_,rfl⟩
 obtain⟨mE,gq,kY,gu,bQ⟩:=Iu iR
 refine qd 6 rfl (IP Tryz.call55 rfl (uJ _ _ bC aG.length bD aG dW aj.length dX aj E gq (bQ _ 22 _ rfl aW) rfl e6 (bQ _ 0 _ rfl aW) rfl e6 bP) ?_)
 rintro _ mF ⟨rfl,gy⟩
 have d9:=gu _ _ gy
 refine⟨.inr ⟨_,d9⟩, ?_⟩
 refine qk (.bool (!E)) 7 rfl (qk (.agg #[.slice X L.bF.ls.length Y, .bool (!E)]) 8 rfl ?_)
 have iT:=d9.pf [25]
 refine qe 9 rfl (Do.store (vs:= [.slice X L.bF.ls.length Y, .bool (!E)]) (o:=0) iT rfl rfl T5 rfl rfl rfl rfl ?_)
 intro mG iU
 have bR:=iU.pb [0]
 refine⟨.inr ⟨_,bR⟩, ?_⟩
 refine qn (Iq (rt (Fin.res (oo rfl rfl (IJ (cs:= [.slice X L.bF.ls.length Y, .bool (!E)]) T6 T5 ((bR.cls (i:=25) rfl).lit (k:=0) (m:=2) rfl))) ?_)))
 have iV:=bR.pf [23]
 refine df [.slice X L.bF.ls.length Y, .bool (!E)] 0 iV T5 ?_
 intro mH ed
 refine An rfl (rt (Fin.res (jb (vs:= [.agg #[.slice X L.bF.ls.length Y, .bool (!E)],vI 0]) rfl (cK.cell rfl (IJ (cs:= [.slice X L.bF.ls.length Y, .bool (!E)]) T6 T5 ((ed.cls (i:=0) rfl).lit (k:=0) (m:=2) rfl)) (cK.tmp rfl cK.nil)) (Lj rfl)) ?_))
 have iW:=ed.pb [0,1,20,21,22,23,24,25]
 have iX:=iK bL bM fO fP fQ fT fU fV iW
 have iY:=iX.pk [4,5,0]
 obtain⟨rfl,rfl,rfl⟩:=zR (hr.symm.trans (show _=(kG.mk (E0 L.bF.ls) (!E),0,b) from et (ip r) (et (ae ah) (et (ip O) (et (ip aP) (et (iN dE) (et (ae dM) (et (ae aQ) (et (ae bN) (ae bP))))))))))
 exact⟨X,Y,iL,rfl,iY,bF,i2,f5⟩
 refine Sz (dT aP) (fw (.bool true) (Iw rfl (dT aP) rfl) (nt (jt (sr (Kz (.agg #[.slice none 0 0, .bool false]) ?_)))))
 have iZ:=bu.pf [18]
 refine df [.slice none 0 0, .bool false] 0 iZ T5 ?_
 intro ek eu
 refine An rfl (rt (tR (Fin.res (jb (vs:= [.agg #[.slice none 0 0, .bool false],vI 180]) rfl (cK.cell rfl (IJ (cs:= [.slice none 0 0, .bool false]) T6 T5 ((eu.cls (i:=0) rfl).lit (k:=0) (m:=2) rfl)) (cK.tmp rfl cK.nil)) (Lj rfl)) ?_)))
 have ja:=eu.pb [0,19]
 have jc:=iK B C R S T U V W ja
 have jd:Own w D ek [sepL (q4 bz.own ([])),jZ z f,blk aO [.slice none 0 0, .bool false] 47,blk G (gK a l g n h p j) 42]:=jc.sepNil
 have je:Own w D ek (row none 0 0 (q4 bz.cells ([])) 42 21::_):=jd.free (eP 42 21)
 have jg:=je.pk [0,1,2]
 obtain⟨rfl,rfl,rfl⟩:=zR (hr.symm.trans (show _=(kG.mk (E0 ([])) false,180,f) from et (ip r) (et (ae ah) (et (ip O) (iN aP)))))
 exact⟨none,0, [],rfl,jg,rfl,i2,f5⟩
 refine Sz (dT O) (Sz (dT O) (Sz (dT O) (fw (.bool true) (Iw rfl (dT O) rfl) (Mz rfl (Sz rfl (fw (.bool true) (Iw rfl rfl rfl) (nt (jt (sr (Kz (.agg #[.slice none 0 0, .bool false]) ?_))))))))))
 have jh:=bu.pf [18]
 refine df [.slice none 0 0, .bool false] 0 jh T5 ?_
 intro eD eF
 refine An rfl (rt (tR (Fin.res (jb (vs:= [.agg #[.slice none 0 0, .bool false],vI 180]) rfl (cK.cell rfl (IJ (cs:= [.slice none 0 0, .bool false]) T6 T5 ((eF.cls (i:=0) rfl).lit (k:=0) (m:=2) rfl)) (cK.tmp rfl cK.nil)) (Lj rfl)) ?_)))
 have jk:=eF.pb [0,19]
 have jl:=iK B C R S T U V W jk
 have jm:Own w D eD [sepL (q4 bz.own ([])),jZ z f,blk aO [.slice none 0 0, .bool false] 47,blk G (gK a l g n h p j) 42]:=jl.sepNil
 have jo:Own w D eD (row none 0 0 (q4 bz.cells ([])) 42 21::_):=jm.free (eP 42 21)
 have jq:=jo.pk [0,1,2]
 obtain⟨rfl,rfl,rfl⟩:=zR (hr.symm.trans (show _=(kG.mk (E0 ([])) false,180,f) from et (ip r) (et (ae ah) (iN O))))
 exact⟨none,0, [],rfl,jq,rfl,i2,f5⟩
 refine Ip (rs:= []) 4 rfl rfl rfl (dF r) e7 (Ip (rs:= []) 5 rfl rfl rfl (dF r) e7 (Ip (rs:= []) 6 rfl rfl rfl (dF r) e7 (Ip (rs:= []) 7 rfl rfl rfl (dF r) e7 (Ip (rs:= []) 8 rfl rfl rfl (dF r) e7 (Ip (rs:= []) 9 rfl rfl rfl (dF r) e7 (Ip (rs:= []) 10 rfl rfl rfl (dF r) e7 (Ip (rs:= []) 11 rfl rfl rfl (dF r) e7 (qt (v:= .bool false) 12 rfl (fun _ _=>Io rfl (dF r) rfl) (qa 13 rfl rfl (qn (Iq (Ik (sr (La (gK a l g n h p j) dD 19 N8 N9 ?_))))))))))))))
 obtain⟨aJ,Z⟩:∃ q,kR a=q:=⟨_,rfl⟩
 obtain⟨mI,gz,aC,gB,kZ⟩:=Iu dD
 refine cl Tryz.call21 (vz _ _ a l a.aB.ls.length g n a.ah.ls.length h P p a.ag.ls.length j aJ gz rfl (aC _ av) (show a.aB.ls.length≤g∧a.aB.ls.length≤9223372036854775807 from by omega) Q rfl (aC _ ax) (show a.ah.ls.length≤h∧a.ah.ls.length≤9223372036854775807 from by omega) (fun s t=>⟨aC _ (u s t).1,(u s t).2⟩) rfl (aC _ ay) (show a.ag.ls.length≤j∧a.ag.ls.length≤9223372036854775807 from by omega) i3 Z) ?_
 rintro _ mJ ⟨rfl,gD⟩
 have aU:=gB _ _ gD
 have lc: ¬ (aJ=0)∨(a.aB.ls.length≤24∧a.ag.ls.length≤1000∧a.ah.ls.length≤1000∧(¬ (a.av=1)∨11≤a.aI∧a.aI≤14)∧(¬ (a.av=9)∨1≤a.aI∧a.aI≤4)):=DC Z
 refine fw (.bool (decide (¬ (aJ=0)))) (IM (e:= !(decide (aJ=0))) yk decide_not.symm) (Mz rfl ?_)
 by_cases y:aJ=0
 refine gw (vP G 2) (dF (Lr y)) yk (gw (vI a.eO) (dF (Lr y)) (IB rfl (bJ.one C2 (I1 (aU.cls (i:=19) rfl) rfl))) (gw (.bool (decide (¬ (a.eO=0)))) (dF (Lr y)) (IM (e:= !(decide (a.eO=0))) yk decide_not.symm) (fw (.bool (decide (¬ (a.eO=0)))) (Io rfl (dF (Lr y)) rfl) (Mz rfl ?_))))
 by_cases ak:a.eO=0
 refine gw (.bool false) (dF (Lr ak)) (IA rfl) (fw (.bool false) (Io rfl (dF (Lr ak)) rfl) (nt (jf (sk (sr (Mz rfl (Kz (.func (.func 23) #[] #[vP G 0]) ?_)))))))
 refine WL.do rfl (IP Tryz.call22 rfl ?_ (fun _ _ k=>k))
 refine cb Tryz.func22 ?_
 refine sr ?_
 refine dn [.slice none 0 0, .bool false] 47 aU ?_
 intro jr mK aK
 refine ns (Mz rfl (Kz (vP z 0) (Kz (vP z 0) (La ([vI f.aa.au,vU f.aa.ax,vU f.aa.bG,vU f.aa.aF, .slice dz f.aa.ag.ls.length aX, .slice dB f.aa.ak.ls.length aZ, .slice dC f.aa.aK.ls.length bf]) aK 1 U0 H2 ?_))))
 obtain⟨⟨M,eG⟩,bS⟩:∃ q:(List UInt8) × Int,ji f.aa=q:=⟨_,rfl⟩
 obtain⟨mM,gF,lg,gG,J⟩:=Iu aK
 refine cl U1 (ma _ _ f.aa dz f.aa.ag.ls.length aX dB f.aa.ak.ls.length aZ ig dC f.aa.aK.ls.length bf ik M eG gF rfl (J _ 2 _ rfl aW) (show f.aa.ag.ls.length≤aX∧f.aa.ag.ls.length≤9223372036854775807 from by omega) B rfl (J _ 3 _ rfl aW) (show f.aa.ak.ls.length≤aZ∧f.aa.ak.ls.length≤9223372036854775807 from by omega) (fun s t=>⟨J _ 4 _ rfl (az (Q6.2 ⟨s,t,b1⟩) aW),bq (φ:=fun _=>_) aK (i:=4) rfl (az (Q6.2 ⟨s,t,b1⟩) bn)⟩) C rfl (J _ 5 _ rfl aW) (show f.aa.aK.ls.length≤bf∧f.aa.aK.ls.length≤9223372036854775807 from by omega) (fun s t=>⟨J _ 6 _ rfl (az (Q6.2 ⟨s,t,b1⟩) aW),bq (φ:=fun _=>_) aK (i:=6) rfl (az (Q6.2 ⟨s,t,b1⟩) bn),(fun y1 k1=>⟨J _ 6 _ rfl (az (Q6.2 ⟨s,t, .tail _ b1⟩) (az (Q6.2 ⟨y1,k1,b1⟩) aW)),bq (φ:=fun _=>_) aK (i:=6) rfl (az (Q6.2 ⟨s,t, .tail _ b1⟩) (az (Q6.2 ⟨y1,k1,b1⟩) bn))⟩)⟩) e8 i9 bS) ?_
 rintro _ mO ⟨bT,bV,rfl,gH,bX⟩
 have eH:=gG _ _ gH
 have lh:=eH.rowC (i:=0) rfl
 replace bX:M.length≤100000:=bX
 refine Mz rfl (Kz (.slice bT M.length bV) (Kz (vI eG) (Az rfl (Ar rfl (Mz rfl (Kz (.agg #[vP z 0, .slice none 0 0]) ?_))))))
 refine dn [vP z 0, .slice none 0 0] 98 eH ?_
 intro aV eO eQ
 refine Ar rfl (Mz rfl (Mz rfl ?_))
 refine WL.do rfl (IY Tryz.call23 rfl rfl ?_ (fun _ _ k=>k))
 refine cb Tryz.func23 ?_
 refine Il (Mz rfl (La (gK a l g n h p j) eQ 22 N8 N9 ?_))
 have jv:=eQ.pb [0,1,2,21,22]
 have jw:=iK B C R S T U V W jv
 have jy:Own w D eO [sepL (q4 bz.own ([])),jZ z f,blk aV [vP z 0, .slice none 0 0] 98,row bT M.length bV (q4 eB M) 5 1,blk jr [.slice none 0 0, .bool false] 47,blk aO [.slice none 0 0, .bool false] 47,blk G (gK a l g n h p j) 42]:=jw.sepNil
 have jA:Own w D eO (row none 0 0 (q4 bz.cells ([])) 42 21::_):=jy.free (eP 42 21)
 have jB:=jA.pf [3]
 obtain⟨⟨N,d⟩,aR⟩:∃ q:bU × aD,kL (bU.mk (E0 ([]))) a f=q:=⟨_,rfl⟩
 obtain⟨mP,gI,aF,gJ,ll⟩:=Jf jB
 refine cl Tryz.call24 (rR _ _ aV (bU.mk (E0 ([]))) none 0 ([]) a l a.aB.ls.length g n a.ah.ls.length h P p a.ag.ls.length j z f N d gI rfl rfl (aF _ av) (show a.aB.ls.length≤g∧a.aB.ls.length≤9223372036854775807 from by omega) Q rfl (aF _ ax) (show a.ah.ls.length≤h∧a.ah.ls.length≤9223372036854775807 from by omega) (fun s t=>⟨aF _ (u s t).1,(u s t).2⟩) rfl (aF _ ay) (show a.ag.ls.length≤j∧a.ag.ls.length≤9223372036854775807 from by omega) e8 f5 e8 j0 e8 aR) ?_
 rintro _ mQ ⟨aa,ag,jC,rfl,gL,bY⟩
 have eT:=gJ _ _ gL
 have lm:=aA bY
 have lq:=eT.rowC (i:=1) rfl
 have bZ:=zi aR (tT f5 f5) e6 e6
 have lu:Mk d:=bZ.2 f5
 have lv:d.aa.ag.ls.length=f.aa.ag.ls.length∧d.aa.au=f.aa.au∧d.aC.ls.length+d.aa.ak.ls.length≤8∧d.aa.aK.ls.length≤f.aa.aK.ls.length+1:=Ku bZ.1 e6
 refine WL.nil (IL (res0 rfl) (nt (Ik ?_)))
 have jD:=eT.pf [3]
 obtain⟨eU,cu,eX,cz,jE,eY,cB,jG,mR,mU,mV,mW,mX,mY,mZ,ng,ni,nk,nu,ny,nz,nA,nC,nD,nE,nG,cO,cZ,gM,gN,gP,gQ,gT,gU,lw,aL⟩:=lY jD
 refine Il (Mz rfl (Kz (vP z 0) (Kz (vP z 0) (La ([vI d.aa.au,vU d.aa.ax,vU d.aa.bG,vU d.aa.aF, .slice eU d.aa.ag.ls.length cu, .slice eX d.aa.ak.ls.length cz, .slice eY d.aa.aK.ls.length cB]) aL 0 U0 H2 ?_))))
 obtain⟨⟨au,eZ⟩,dh⟩:∃ q:(List UInt8) × Int,ji d.aa=q:=⟨_,rfl⟩
 obtain⟨nH,gV,lC,gW,K⟩:=Iu aL
 refine cl U1 (ma _ _ d.aa eU d.aa.ag.ls.length cu eX d.aa.ak.ls.length cz jE eY d.aa.aK.ls.length cB jG au eZ gV rfl (K _ 1 _ rfl aW) (show d.aa.ag.ls.length≤cu∧d.aa.ag.ls.length≤9223372036854775807 from by omega) cO rfl (K _ 2 _ rfl aW) (show d.aa.ak.ls.length≤cz∧d.aa.ak.ls.length≤9223372036854775807 from by omega) (fun s t=>⟨K _ 3 _ rfl (az (Q6.2 ⟨s,t,b1⟩) aW),bq (φ:=fun _=>_) aL (i:=3) rfl (az (Q6.2 ⟨s,t,b1⟩) bn)⟩) cZ rfl (K _ 4 _ rfl aW) (show d.aa.aK.ls.length≤cB∧d.aa.aK.ls.length≤9223372036854775807 from by omega) (fun s t=>⟨K _ 5 _ rfl (az (Q6.2 ⟨s,t,b1⟩) aW),bq (φ:=fun _=>_) aL (i:=5) rfl (az (Q6.2 ⟨s,t,b1⟩) bn),(fun y1 k1=>⟨K _ 5 _ rfl (az (Q6.2 ⟨s,t, .tail _ b1⟩) (az (Q6.2 ⟨y1,k1,b1⟩) aW)),bq (φ:=fun _=>_) aL (i:=5) rfl (az (Q6.2 ⟨s,t, .tail _ b1⟩) (az (Q6.2 ⟨y1,k1,b1⟩) bn))⟩)⟩) e8 i9 dh) ?_
 rintro _ nI ⟨fe,fo,rfl,gX,di⟩
 have fq:=gW _ _ gX
 have lD:=fq.rowC (i:=0) rfl
 replace di:au.length≤100000:=di
 refine Mz rfl (Kz (.slice fe au.length fo) (Kz (vI eZ) (Az rfl (An rfl (Ik ?_)))))
 have jH:=fq.pb [23]
 refine oV 25 [] (IE IQ) jH ?_
 intro nJ jJ
 refine qv 0 rfl rfl (qp aV 0 1 rfl (qp aV 1 2 rfl (ql 3 rfl 19 Tryz.isAgg45 rfl rfl rfl (qv 4 rfl rfl (qv 5 rfl rfl ?_)))))
 obtain⟨F,dm⟩:∃ q,bytes_Equal M au=q:=⟨_,rfl⟩
 obtain⟨nK,gY,lF,gZ,dw⟩:=Iu jJ
 refine qd 6 rfl (IP Tryz.call55 rfl (uJ _ _ bT M.length bV M fe au.length fo au F gY (dw _ 22 _ rfl aW) rfl e6 (dw _ 0 _ rfl aW) rfl e6 dm) ?_)
 rintro _ nL ⟨rfl,ib⟩
 have fu:=gZ _ _ ib
 refine⟨.inr ⟨_,fu⟩, ?_⟩
 refine qk (.bool (!F)) 7 rfl (qk (.agg #[.slice aa N.bF.ls.length ag, .bool (!F)]) 8 rfl ?_)
 have jK:=fu.pf [25]
 refine qe 9 rfl (Do.store (vs:= [.slice aa N.bF.ls.length ag, .bool (!F)]) (o:=0) jK rfl rfl T5 rfl rfl rfl rfl ?_)
 intro nM jL
 have dx:=jL.pb [0]
 refine⟨.inr ⟨_,dx⟩, ?_⟩
 refine qn (Iq (rt (Fin.res (oo rfl rfl (IJ (cs:= [.slice aa N.bF.ls.length ag, .bool (!F)]) T6 T5 ((dx.cls (i:=25) rfl).lit (k:=0) (m:=2) rfl))) ?_)))
 have jM:=dx.pf [23]
 refine df [.slice aa N.bF.ls.length ag, .bool (!F)] 0 jM T5 ?_
 intro nN fA
 refine An rfl (rt (Fin.res (jb (vs:= [.agg #[.slice aa N.bF.ls.length ag, .bool (!F)],vI 0]) rfl (cK.cell rfl (IJ (cs:= [.slice aa N.bF.ls.length ag, .bool (!F)]) T6 T5 ((fA.cls (i:=0) rfl).lit (k:=0) (m:=2) rfl)) (cK.tmp rfl cK.nil)) (Lj rfl)) ?_))
 have jN:=fA.pb [0,1,20,21,22,23,24,25]
 have jO:=iK cO cZ gM gN gP gQ gT gU jN
 have jP:=jO.pk [4,5,0]
 obtain⟨rfl,rfl,rfl⟩:=zR (hr.symm.trans (show _=(kG.mk (E0 N.bF.ls) (!F),0,d) from et (iN r) (et (ae Z) (et (ip y) (et (ip ak) (et (ae bS) (et (ae aR) (et (ae dh) (ae dm)))))))))
 exact⟨aa,ag,jC,rfl,jP,bY,i2,f5⟩
 refine Sz (dT ak) (fw (.bool true) (Iw rfl (dT ak) rfl) (nt (jt (sr (Kz (.agg #[.slice none 0 0, .bool false]) ?_)))))
 have jQ:=aU.pf [18]
 refine df [.slice none 0 0, .bool false] 0 jQ T5 ?_
 intro fB fC
 refine An rfl (rt (tR (Fin.res (jb (vs:= [.agg #[.slice none 0 0, .bool false],vI 180]) rfl (cK.cell rfl (IJ (cs:= [.slice none 0 0, .bool false]) T6 T5 ((fC.cls (i:=0) rfl).lit (k:=0) (m:=2) rfl)) (cK.tmp rfl cK.nil)) (Lj rfl)) ?_)))
 have jS:=fC.pb [0,19]
 have jU:=iK B C R S T U V W jS
 have jV:Own w D fB [sepL (q4 bz.own ([])),jZ z f,blk aO [.slice none 0 0, .bool false] 47,blk G (gK a l g n h p j) 42]:=jU.sepNil
 have jW:Own w D fB (row none 0 0 (q4 bz.cells ([])) 42 21::_):=jV.free (eP 42 21)
 have jX:=jW.pk [0,1,2]
 obtain⟨rfl,rfl,rfl⟩:=zR (hr.symm.trans (show _=(kG.mk (E0 ([])) false,180,f) from et (iN r) (et (ae Z) (et (ip y) (iN ak)))))
 exact⟨none,0, [],rfl,jX,rfl,i2,f5⟩
 refine Sz (dT y) (Sz (dT y) (Sz (dT y) (fw (.bool true) (Iw rfl (dT y) rfl) (Mz rfl (Sz rfl (fw (.bool true) (Iw rfl rfl rfl) (nt (jt (sr (Kz (.agg #[.slice none 0 0, .bool false]) ?_))))))))))
 have jY:=aU.pf [18]
 refine df [.slice none 0 0, .bool false] 0 jY T5 ?_
 intro fD fE
 refine An rfl (rt (tR (Fin.res (jb (vs:= [.agg #[.slice none 0 0, .bool false],vI 180]) rfl (cK.cell rfl (IJ (cs:= [.slice none 0 0, .bool false]) T6 T5 ((fE.cls (i:=0) rfl).lit (k:=0) (m:=2) rfl)) (cK.tmp rfl cK.nil)) (Lj rfl)) ?_)))
 have j3:=fE.pb [0,19]
 have j4:=iK B C R S T U V W j3
 have j5:Own w D fD [sepL (q4 bz.own ([])),jZ z f,blk aO [.slice none 0 0, .bool false] 47,blk G (gK a l g n h p j) 42]:=j4.sepNil
 have j6:Own w D fD (row none 0 0 (q4 bz.cells ([])) 42 21::_):=j5.free (eP 42 21)
 have kg:=j6.pk [0,1,2]
 obtain⟨rfl,rfl,rfl⟩:=zR (hr.symm.trans (show _=(kG.mk (E0 ([])) false,180,f) from et (iN r) (et (ae Z) (iN y))))
 exact⟨none,0, [],rfl,kg,rfl,i2,f5⟩
def lL (b:aD):bZ:=
 bnd (iq b.aa) fun a=>a
set_option maxHeartbeats 4000000 in
theorem uq (w D M) (b:aD) (d:bZ) (H:Own w D w [jZ M b]) (aL:b.aa.ag.ls.length≤1000∧b.aC.ls.length+b.aa.ak.ls.length≤8∧b.aa.aK.ls.length≤900) (aN:Mk b) (hr:lL b=d):
    Calls v5 11 #[vP M 0] w (dA fun v w'=> ∃ l n o p r s e f,v= .agg #[vI d.au,vU d.ax,vU d.bG,vU d.aF, .slice l d.ag.ls.length n, .slice o d.ak.ls.length p, .slice r d.aK.ls.length s]∧Own w D w' [row l d.ag.ls.length n (q4 aM.cells d.ag.ls) 89 2,row o d.ak.ls.length p (q4 ay.cells e) 60 5,sepL (q4 ay.own e),row r d.aK.ls.length s (q4 aS.cells f) 56 4,sepL (q4 aS.own f),jZ M b]∧(s5 ay.abs e=d.ak.ls)∧(s5 aS.abs f=d.aK.ls)):=by
 refine cb Tryz.func11 ?_
 obtain⟨N,A,O,B,aa,P,C,af,aO,aP,aQ,aR,aT,aU,aV,aX,aY,aZ,bf,bg,bi,bu,bv,bz,bA,bB,t,u,Q,R,S,T,U,V,ax,ag⟩:=lY H
 refine sr ?_
 refine dn [vI 0, .int .u64 0, .int .u64 0, .int .u64 0, .slice none 0 0, .slice none 0 0, .slice none 0 0] 33 ag ?_
 intro bC bD g
 refine ns (Mz rfl (Kz (vP M 0) (Kz (vP M 0) (La ([vI b.aa.au,vU b.aa.ax,vU b.aa.bG,vU b.aa.aF, .slice N b.aa.ag.ls.length A, .slice O b.aa.ak.ls.length B, .slice P b.aa.aK.ls.length C]) g 1 U0 H2 ?_))))
 obtain⟨a,x⟩:∃ q,iq b.aa=q:=⟨_,rfl⟩
 obtain⟨bE,W,aB,X,c⟩:=Iu g
 refine cl Tryz.call20 (oO _ _ b.aa N b.aa.ag.ls.length A O b.aa.ak.ls.length B aa P b.aa.aK.ls.length C af a W rfl (c _ 2 _ rfl aW) (show b.aa.ag.ls.length≤A∧b.aa.ag.ls.length≤9223372036854775807 from by omega) t rfl (c _ 3 _ rfl aW) (show b.aa.ak.ls.length≤B∧b.aa.ak.ls.length≤9223372036854775807 from by omega) (fun E h=>⟨c _ 4 _ rfl (az (Q6.2 ⟨E,h,b1⟩) aW),bq (φ:=fun _=>_) g (i:=4) rfl (az (Q6.2 ⟨E,h,b1⟩) bn)⟩) u rfl (c _ 5 _ rfl aW) (show b.aa.aK.ls.length≤C∧b.aa.aK.ls.length≤9223372036854775807 from by omega) (fun E h=>⟨c _ 6 _ rfl (az (Q6.2 ⟨E,h,b1⟩) aW),bq (φ:=fun _=>_) g (i:=6) rfl (az (Q6.2 ⟨E,h,b1⟩) bn),(fun y1 k1=>⟨c _ 6 _ rfl (az (Q6.2 ⟨E,h, .tail _ b1⟩) (az (Q6.2 ⟨y1,k1,b1⟩) aW)),bq (φ:=fun _=>_) g (i:=6) rfl (az (Q6.2 ⟨E,h, .tail _ b1⟩) (az (Q6.2 ⟨y1,k1,b1⟩) bn))⟩)⟩) e8 (by first | assumption | exact ym f5 | exact fun _ h=>absurd h v7) (by first | assumption | exact yn f5 | exact fun _ h=>absurd h v7) x) ?_
 rintro _ bF ⟨F,G,I,J,K,L,ah,ai,rfl,Y,y,z⟩
 have j:=X _ _ Y
 have aG:=aA y
 have aH:=aA z
 have aI:=j.rowC (i:=0) rfl
 have aJ:=j.rowC (i:=1) rfl
 have aK:=j.rowC (i:=3) rfl
 have aj:=j.pf [5]
 refine df [vI a.au,vU a.ax,vU a.bG,vU a.aF, .slice F a.ag.ls.length G, .slice I a.ak.ls.length J, .slice K a.aK.ls.length L] 0 aj H2 ?_
 intro bG Z
 refine nt (rt (Fin.res (oo rfl rfl (IJ (cs:= [vI a.au,vU a.ax,vU a.bG,vU a.aF, .slice F a.ag.ls.length G, .slice I a.ak.ls.length J, .slice K a.aK.ls.length L]) U0 H2 ((Z.cls (i:=0) rfl).lit (k:=0) (m:=7) rfl))) ?_))
 have ak:=Z.pb [0,1,2,3,4,5]
 have au:=iK t u Q R S T U V ak
 have av:=au.px [] [1] [0]
 obtain rfl:_=a:=hr.symm.trans (ae x)
 exact⟨F,G,I,J,K,L,ah,ai,rfl,av,y,z⟩
end Go.Proofs.YtbkagebjhbphaaaGreat
