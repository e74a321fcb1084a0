/-
 coord: a message taken.
-/
import Derived.Test.YtbkagebjhbphaaaGreatCt
namespace Go.Proofs.YtbkagebjhbphaaaGreat
open List renaming flatMap→q6
open Ll renaming mk→E4
open _root_.Go.Proofs.Tryz renaming isAgg24→O2,isAgg28→E1,isAgg3→C6,isAgg42→M4,sizeOf28→M6,sizeOf42→M5
open WL renaming nil→D0
set_option maxRecDepth 100000
open Go.RowKit
set_option linter.unusedVariables false
set_option linter.unusedSectionVars false
set_option linter.unusedSimpArgs false
def iG (c:bE) (b:bM) (a:aB):bE × aB:=
 if b.aG=1 then bnd (iP c b a) fun d=>(d.1,d.2) else if b.aG=4 then bnd (jN c b a) fun e=>(e.1,e.2) else if b.aG=6 then bnd (jY c b a) fun f=>(f.1,f.2) else if b.aG=7 then bnd (kW c b a) fun g=>(g,a) else if b.aG=9 then if b.aH=1 then(c,(aB.mk a.aa a.bP (E4 a.au.ls) a.bH a.bf a.bi a.bn a.aZ a.dI (max a.dz b.aX) a.dB a.dA a.dC)) else if b.aH=2 then(c,(aB.mk a.aa a.bP (E4 a.au.ls) a.bH a.bf a.bi a.bn a.aZ a.dI a.dz (max a.dB b.aX) a.dA a.dC)) else if b.aH=3 then(c,(aB.mk a.aa a.bP (E4 a.au.ls) a.bH a.bf a.bi a.bn a.aZ a.dI a.dz a.dB (max a.dA b.aX) a.dC)) else(c,(aB.mk a.aa a.bP (E4 a.au.ls) a.bH a.bf a.bi a.bn a.aZ a.dI a.dz a.dB a.dA (max a.dC b.aX))) else if b.aG=13 then(c,a) else if b.aG=14 then(c,a) else(c,a)
set_option maxHeartbeats 4000000 in
theorem rO (w D U) (I:bE) (r s p) (b:bM) (j aC f l aD g C m aF h d) (a:aB) (r0:bE) (r1:aB) (H:Own w D w [blk U [.pointer (some ⟨d,0,none⟩), .slice r I.bq.ls.length s] 98,row r I.bq.ls.length s (q6 bC.cells p) 42 21,sepL (q6 bC.own p),iE d a]) (n:List.map bC.abs p=I.bq.ls) (aQ:aC=b.aF.ls.length) (J:Ro w D fun w'=>bA w' 6 j b.aF.ls.length (q6 bv.cells b.aF.ls)) (ek:b.aF.ls.length≤f∧b.aF.ls.length≤9223372036854775807) (E:List.map ae.abs C=b.ah.ls) (aR:aD=b.ah.ls.length) (K:Ro w D fun w'=>bA w' 3 l b.ah.ls.length (q6 ae.cells C)) (eu:b.ah.ls.length≤g∧b.ah.ls.length≤9223372036854775807) (t:∀ x ∈ C,Ro w D (fun w'=>bA w' 2 x.aj.A x.aj.ls.length (q6 aI.cells x.aj.ls))∧(x.aj.ls.length≤x.aj.c∧x.aj.ls.length≤9223372036854775807)) (aS:aF=b.ag.ls.length) (L:Ro w D fun w'=>bA w' 2 m b.ag.ls.length (q6 aW.cells b.ag.ls)) (eB:b.ag.ls.length≤h∧b.ag.ls.length≤9223372036854775807) (ko:a.aa.ag.ls.length≤1000∧a.aa.ak.ls.length≤1000∧a.aa.aJ.ls.length≤1000∧a.au.ls.length≤1000∧I.bq.ls.length≤100000) (kr:Mk a) (ku:b.aF.ls.length≤24∧b.ag.ls.length≤1000∧b.ah.ls.length≤1000∧jZ b.aO) (kv:mU b.ah.ls) (kw:(¬ (b.aG=1)∨11≤b.aH∧b.aH≤14)∧(¬ (b.aG=9)∨1≤b.aH∧b.aH≤4)) (hr:iG I b a=(r0,r1)):
    Calls Tryz.prog 24 #[vP U 0, .agg (gD b.aG b.aH b.eP b.aN b.cZ b.eu b.aO b.ay b.aU b.dW b.aX b.aL b.dH b.bZ b.xN b.d9 b.bT.bG b.bT.bU j aC f l aD g m aF h).toArray] w (dR fun v w'=> ∃ ak au W,v= .tuple #[]∧Own w D w' [blk U [vP d 0, .slice ak r0.bq.ls.length au] 98,row ak r0.bq.ls.length au (q6 bC.cells W) 42 21,sepL (q6 bC.own W),iE d r1]∧(List.map bC.abs W=r0.bq.ls)):=by
 subst aQ aR aS
 have d9:=az n
 have ed:=az E
 have eD:=H.rowC (i:=1) rfl
 refine cb Tryz.func24 ?_
 refine sr ?_
 refine dM (gT b j f l g m h) 42 H ?_
 intro X ky u
 refine ns (Kz (vP X 0) (Lz (vI b.aG) u 0 C6 (nt (bo (sr (Kz (.bool (decide (b.aG=1))) (An rfl ?_)))))))
 by_cases z:b.aG=1
 refine jT (dT z) (FV (Mz rfl (La (gT b j f l g m h) u 0 M4 M5 ?_)))
 have eF:=u.pb [0]
 obtain⟨⟨bG,bH⟩,aG⟩:∃ q:bE × aB,iP I b a=q:=⟨_,rfl⟩
 obtain⟨kz,bI,Y,bJ,fK⟩:=GJ eF
 refine cl Tryz.call56 (uw _ _ U I r s p b j b.aF.ls.length f l b.ah.ls.length g C m b.ag.ls.length h d a bG bH bI n rfl (Y _ J) (show b.aF.ls.length≤f∧b.aF.ls.length≤9223372036854775807 from by omega) E rfl (Y _ K) (show b.ah.ls.length≤g∧b.ah.ls.length≤9223372036854775807 from by omega) (fun x9 h9=>⟨Y _ (t x9 h9).1,(t x9 h9).2⟩) rfl (Y _ L) (show b.ag.ls.length≤h∧b.ag.ls.length≤9223372036854775807 from by omega) e8 f4 j9 e8 e8 aG) ?_
 rintro _ kC ⟨eG,eH,eO,rfl,bK,aH⟩
 have bO:=bJ _ _ bK
 have fM:=az aH
 have fO:=bO.rowC (i:=1) rfl
 refine D0 (bN (Gh (res0 rfl) ?_))
 have eP:=bO.px [] [4] []
 obtain⟨rfl,rfl⟩:=gm (hr.symm.trans (show _=(bG,bH) from et (ip z) (ai aG)))
 exact⟨eG,eH,eO,rfl,eP,aH⟩
 refine jF (dF z) (sr (Kz (.bool (decide (b.aG=4))) (An rfl ?_)))
 by_cases B:b.aG=4
 refine jT (dT B) (FV (Mz rfl (La (gT b j f l g m h) u 0 M4 M5 ?_)))
 have eQ:=u.pb [0]
 obtain⟨⟨bP,bQ⟩,aJ⟩:∃ q:bE × aB,jN I b a=q:=⟨_,rfl⟩
 obtain⟨kD,bR,Z,bS,fP⟩:=GJ eQ
 refine cl Tryz.call57 (vT _ _ U I r s p b j b.aF.ls.length f l b.ah.ls.length g C m b.ag.ls.length h d a bP bQ bR n rfl (Z _ J) (show b.aF.ls.length≤f∧b.aF.ls.length≤9223372036854775807 from by omega) E rfl (Z _ K) (show b.ah.ls.length≤g∧b.ah.ls.length≤9223372036854775807 from by omega) (fun x9 h9=>⟨Z _ (t x9 h9).1,(t x9 h9).2⟩) rfl (Z _ L) (show b.ag.ls.length≤h∧b.ag.ls.length≤9223372036854775807 from by omega) e8 f8 e8 f4 aJ) ?_
 rintro _ kE ⟨eT,eU,eX,rfl,bT,aK⟩
 have bU:=bS _ _ bT
 have fQ:=az aK
 have fT:=bU.rowC (i:=1) rfl
 refine D0 (bN (Gh (res0 rfl) ?_))
 have eY:=bU.px [] [4] []
 obtain⟨rfl,rfl⟩:=gm (hr.symm.trans (show _=(bP,bQ) from et (iN z) (et (ip B) (ai aJ))))
 exact⟨eT,eU,eX,rfl,eY,aK⟩
 refine jF (dF B) (sr (Kz (.bool (decide (b.aG=6))) (An rfl ?_)))
 by_cases F:b.aG=6
 refine jT (dT F) (FV (Mz rfl (La (gT b j f l g m h) u 0 M4 M5 ?_)))
 have eZ:=u.pb [0]
 obtain⟨⟨bV,bW⟩,aL⟩:∃ q:bE × aB,jY I b a=q:=⟨_,rfl⟩
 obtain⟨kF,bX,aa,bY,fU⟩:=GJ eZ
 refine cl Tryz.call58 (wH _ _ U I r s p b j b.aF.ls.length f l b.ah.ls.length g C m b.ag.ls.length h d a bV bW bX n rfl (aa _ J) (show b.aF.ls.length≤f∧b.aF.ls.length≤9223372036854775807 from by omega) E rfl (aa _ K) (show b.ah.ls.length≤g∧b.ah.ls.length≤9223372036854775807 from by omega) (fun x9 h9=>⟨aa _ (t x9 h9).1,(t x9 h9).2⟩) rfl (aa _ L) (show b.ag.ls.length≤h∧b.ag.ls.length≤9223372036854775807 from by omega) e8 j8 aL) ?_
 rintro _ kG ⟨fe,fo,fq,rfl,bZ,aM⟩
 have cu:=bY _ _ bZ
 have fV:=az aM
 have fZ:=cu.rowC (i:=1) rfl
 refine D0 (bN (Gh (res0 rfl) ?_))
 have fu:=cu.px [] [4] []
 obtain⟨rfl,rfl⟩:=gm (hr.symm.trans (show _=(bV,bW) from et (iN z) (et (iN B) (et (ip F) (ai aL)))))
 exact⟨fe,fo,fq,rfl,fu,aM⟩
 refine jF (dF F) (sr (Kz (.bool (decide (b.aG=7))) (An rfl ?_)))
 by_cases G:b.aG=7
 refine jT (dT G) (FV (Mz rfl (La (gT b j f l g m h) u 0 M4 M5 ?_)))
 have fw:=u.pb [0]
 obtain⟨cz,aN⟩:∃ q,kW I b a=q:=⟨_,rfl⟩
 obtain⟨kH,cB,af,cK,gp⟩:=GJ fw
 refine cl Tryz.call59 (wI _ _ U I r s p b j b.aF.ls.length f l b.ah.ls.length g C m b.ag.ls.length h d a cz cB n rfl (af _ J) (show b.aF.ls.length≤f∧b.aF.ls.length≤9223372036854775807 from by omega) E rfl (af _ K) (show b.ah.ls.length≤g∧b.ah.ls.length≤9223372036854775807 from by omega) (fun x9 h9=>⟨af _ (t x9 h9).1,(t x9 h9).2⟩) rfl (af _ L) (show b.ag.ls.length≤h∧b.ag.ls.length≤9223372036854775807 from by omega) e8 aN) ?_
 rintro _ kI ⟨fB,fC,fD,rfl,cO,aO⟩
 have cZ:=cK _ _ cO
 have fE:=az aO
 have fF:=cZ.rowC (i:=1) rfl
 refine D0 (bN (Gh (res0 rfl) ?_))
 have df:=cZ.px [] [4] []
 obtain⟨rfl,rfl⟩:=gm (hr.symm.trans (show _=(cz,a) from et (iN z) (et (iN B) (et (iN F) (et (ip G) (ai aN))))))
 exact⟨fB,fC,fD,rfl,df,aO⟩
 refine jF (dF G) (sr (Kz (.bool (decide (b.aG=9))) (An rfl ?_)))
 by_cases y:b.aG=9
 refine jT (dT y) ?_
 have dh:=u.pf [4]
 obtain⟨gq,gu,gy,gz,gB,gF,gG,gH,gI,gJ,gK,gL,gM,gN,gP,gQ,gU,gV,gW,gX,gY,gZ,ib,ic,ig,ik,M,N,O,P,Q,R,S,T,fG,di⟩:=ji dh
 refine oL 22 [22] (bL.block Gj) di ?_
 intro il ag
 refine qv 0 rfl rfl (qp U 0 1 rfl (qp U 0 2 rfl (ql 3 rfl 19 O2 rfl rfl rfl (qp X 1 4 rfl (ql 5 rfl 18 C6 rfl rfl rfl (qv 6 rfl rfl (qp U 0 7 rfl (qp U 0 8 rfl (ql 9 rfl 19 O2 rfl rfl rfl (qp X 1 10 rfl (ql 11 rfl 18 C6 rfl rfl rfl (qp d 0 12 rfl (qp d 29 13 rfl ?_)))))))))))))
 by_cases ah:b.aH=1
 refine qt (v:=vP d 30) 14 rfl (fun _ _=>by rw [show b.aH=1 from by omega]; exact yk) (ql 15 rfl 0 E1 rfl rfl rfl (qp X 10 16 rfl (ql 17 rfl 18 E1 rfl rfl rfl (qt (v:=vU (max a.dz b.aX)) 18 rfl (fun _ _=>FX (e:=if((b.aX:Nat):Int) > ((a.dz:Nat):Int) then((b.aX:Nat):Int) else((a.dz:Nat):Int)) yk e6) (qp d 0 19 rfl (qp d 29 20 rfl (qt (v:=vP d 30) 21 rfl (fun _ _=>by rw [show b.aH=1 from by omega]; exact yk) ?_)))))))
 refine qe 22 rfl (Do.store (vs:= [vU (max a.dz b.aX)]) (o:=30) ag rfl rfl M6 rfl rfl rfl rfl ?_)
 intro iq dm
 refine⟨.inl e7, ?_⟩
 refine qn (bN (Gh (res0 rfl) ?_))
 have dn:=fA M N O P Q R S T dm
 have dw:=dn.px [] [1] [0]
 obtain⟨rfl,rfl⟩:=gm (hr.symm.trans (show _=(I,(aB.mk a.aa a.bP (E4 a.au.ls) a.bH a.bf a.bi a.bn a.aZ a.dI (max a.dz b.aX) a.dB a.dA a.dC)) from et (iN z) (et (iN B) (et (iN F) (et (iN G) (et (ip y) (ip ah)))))))
 exact⟨r,s,p,rfl,dw,n⟩
 by_cases ay:b.aH=2
 refine qt (v:=vP d 31) 14 rfl (fun _ _=>by rw [show b.aH=2 from by omega]; exact yk) (ql 15 rfl 0 E1 rfl rfl rfl (qp X 10 16 rfl (ql 17 rfl 18 E1 rfl rfl rfl (qt (v:=vU (max a.dB b.aX)) 18 rfl (fun _ _=>FX (e:=if((b.aX:Nat):Int) > ((a.dB:Nat):Int) then((b.aX:Nat):Int) else((a.dB:Nat):Int)) yk e6) (qp d 0 19 rfl (qp d 29 20 rfl (qt (v:=vP d 31) 21 rfl (fun _ _=>by rw [show b.aH=2 from by omega]; exact yk) ?_)))))))
 refine qe 22 rfl (Do.store (vs:= [vU (max a.dB b.aX)]) (o:=31) ag rfl rfl M6 rfl rfl rfl rfl ?_)
 intro iw dx
 refine⟨.inl e7, ?_⟩
 refine qn (bN (Gh (res0 rfl) ?_))
 have dz:=fA M N O P Q R S T dx
 have dA:=dz.px [] [1] [0]
 obtain⟨rfl,rfl⟩:=gm (hr.symm.trans (show _=(I,(aB.mk a.aa a.bP (E4 a.au.ls) a.bH a.bf a.bi a.bn a.aZ a.dI a.dz (max a.dB b.aX) a.dA a.dC)) from et (iN z) (et (iN B) (et (iN F) (et (iN G) (et (ip y) (et (iN ah) (ip ay))))))))
 exact⟨r,s,p,rfl,dA,n⟩
 by_cases aP:b.aH=3
 refine qt (v:=vP d 32) 14 rfl (fun _ _=>by rw [show b.aH=3 from by omega]; exact yk) (ql 15 rfl 0 E1 rfl rfl rfl (qp X 10 16 rfl (ql 17 rfl 18 E1 rfl rfl rfl (qt (v:=vU (max a.dA b.aX)) 18 rfl (fun _ _=>FX (e:=if((b.aX:Nat):Int) > ((a.dA:Nat):Int) then((b.aX:Nat):Int) else((a.dA:Nat):Int)) yk e6) (qp d 0 19 rfl (qp d 29 20 rfl (qt (v:=vP d 32) 21 rfl (fun _ _=>by rw [show b.aH=3 from by omega]; exact yk) ?_)))))))
 refine qe 22 rfl (Do.store (vs:= [vU (max a.dA b.aX)]) (o:=32) ag rfl rfl M6 rfl rfl rfl rfl ?_)
 intro iy dB
 refine⟨.inl e7, ?_⟩
 refine qn (bN (Gh (res0 rfl) ?_))
 have dC:=fA M N O P Q R S T dB
 have dD:=dC.px [] [1] [0]
 obtain⟨rfl,rfl⟩:=gm (hr.symm.trans (show _=(I,(aB.mk a.aa a.bP (E4 a.au.ls) a.bH a.bf a.bi a.bn a.aZ a.dI a.dz a.dB (max a.dA b.aX) a.dC)) from et (iN z) (et (iN B) (et (iN F) (et (iN G) (et (ip y) (et (iN ah) (et (iN ay) (ip aP)))))))))
 exact⟨r,s,p,rfl,dD,n⟩
 refine qt (v:=vP d 33) 14 rfl (fun _ _=>by rw [show b.aH=4 from by omega]; exact yk) (ql 15 rfl 0 E1 rfl rfl rfl (qp X 10 16 rfl (ql 17 rfl 18 E1 rfl rfl rfl (qt (v:=vU (max a.dC b.aX)) 18 rfl (fun _ _=>FX (e:=if((b.aX:Nat):Int) > ((a.dC:Nat):Int) then((b.aX:Nat):Int) else((a.dC:Nat):Int)) yk e6) (qp d 0 19 rfl (qp d 29 20 rfl (qt (v:=vP d 33) 21 rfl (fun _ _=>by rw [show b.aH=4 from by omega]; exact yk) ?_)))))))
 refine qe 22 rfl (Do.store (vs:= [vU (max a.dC b.aX)]) (o:=33) ag rfl rfl M6 rfl rfl rfl rfl ?_)
 intro iA dE
 refine⟨.inl e7, ?_⟩
 refine qn (bN (Gh (res0 rfl) ?_))
 have dG:=fA M N O P Q R S T dE
 have dH:=dG.px [] [1] [0]
 obtain⟨rfl,rfl⟩:=gm (hr.symm.trans (show _=(I,(aB.mk a.aa a.bP (E4 a.au.ls) a.bH a.bf a.bi a.bn a.aZ a.dI a.dz a.dB a.dA (max a.dC b.aX))) from et (iN z) (et (iN B) (et (iN F) (et (iN G) (et (ip y) (et (iN ah) (et (iN ay) (iN aP)))))))))
 exact⟨r,s,p,rfl,dH,n⟩
 refine jF (dF y) (sr (Kz (.bool (decide (b.aG=13))) (An rfl ?_)))
 by_cases V:b.aG=13
 refine jT (dT V) (sr (Mz rfl (La (gT b j f l g m h) u 0 M4 M5 ?_)))
 refine WL.do rfl (Gg Tryz.call60 rfl ?_ (fun _ _ k=>k))
 refine cb Tryz.func60 ?_
 refine sr ?_
 refine dM (gT b j f l g m h) 42 u ?_
 intro iB iC dI
 refine An rfl (FW ?_)
 have dJ:=dI.pf [5]
 obtain⟨iD,iF,iH,iI,iJ,iK,iL,iM,iO,iQ,iR,iT,iU,iV,iW,iX,iY,iZ,ja,jb,jc,jd,je,jg,jh,jk,aT,aU,aV,aX,aY,aZ,bf,bg,fH,dK⟩:=ji dJ
 refine oL 23 [] (Gb Gj) dK ?_
 intro jl dL
 refine qv 0 rfl rfl (qp U 0 1 rfl (qp U 0 2 rfl (ql 3 rfl 20 O2 rfl rfl rfl (qp d 0 4 rfl (qp d 34 5 rfl (ql 6 rfl 0 Tryz.isAgg84 rfl rfl rfl (qk (.bool false) 7 rfl (qv 8 rfl rfl (F5 (rs:= []) 9 rfl rfl rfl rfl e7 (F5 (rs:= []) 10 rfl rfl rfl rfl e7 (F5 (rs:= []) 11 rfl rfl rfl rfl e7 (F5 (rs:= []) 12 rfl rfl rfl rfl e7 (F5 (rs:= []) 13 rfl rfl rfl rfl e7 (F5 (rs:= []) 14 rfl rfl rfl rfl e7 (F5 (rs:= []) 15 rfl rfl rfl rfl e7 (F5 (rs:= []) 16 rfl rfl rfl rfl e7 (F5 (rs:= []) 17 rfl rfl rfl rfl e7 (F5 (rs:= []) 18 rfl rfl rfl rfl e7 (F5 (rs:= []) 19 rfl rfl rfl rfl e7 (F5 (rs:= []) 20 rfl rfl rfl rfl e7 (F5 (rs:= []) 21 rfl rfl rfl rfl e7 (qt (v:= .bool false) 22 rfl (fun _ _=>FZ rfl rfl rfl) (qv 23 rfl rfl (F5 (rs:= []) 24 rfl rfl rfl rfl e7 (F5 (rs:= []) 25 rfl rfl rfl rfl e7 (F5 (rs:= []) 26 rfl rfl rfl rfl e7 (F5 (rs:= []) 27 rfl rfl rfl rfl e7 (F5 (rs:= []) 28 rfl rfl rfl rfl e7 (F5 (rs:= []) 29 rfl rfl rfl rfl e7 (F5 (rs:= []) 30 rfl rfl rfl rfl e7 (F5 (rs:= []) 31 rfl rfl rfl rfl e7 (F5 (rs:= []) 32 rfl rfl rfl rfl e7 (F5 (rs:= []) 33 rfl rfl rfl rfl e7 (F5 (rs:= []) 34 rfl rfl rfl rfl e7 (F5 (rs:= []) 35 rfl rfl rfl rfl e7 (F5 (rs:= []) 36 rfl rfl rfl rfl e7 (qt (v:= .bool false) 37 rfl (fun _ _=>FZ rfl rfl rfl) (qa 38 rfl rfl (qn ?_)))))))))))))))))))))))))))))))))))))))
 refine FY (rt (rs (nt (jf (Gn (bN (Gh (res0 rfl) ?_)))))))
 have dN:=fA aT aU aV aX aY aZ bf bg dL
 have dO:=dN.pk [3,4,5,0]
 obtain⟨rfl,rfl⟩:=gm (hr.symm.trans (show _=(I,a) from et (iN z) (et (iN B) (et (iN F) (et (iN G) (et (iN y) (ip V)))))))
 exact⟨r,s,p,rfl,dO,n⟩
 refine jF (dF V) (sr (Kz (.bool (decide (b.aG=14))) (An rfl ?_)))
 by_cases aj:b.aG=14
 refine jT (dT aj) (FV (Mz rfl (La (gT b j f l g m h) u 0 M4 M5 ?_)))
 refine WL.do rfl (Gg Tryz.call61 rfl ?_ (fun _ _ k=>k))
 refine cb Tryz.func61 ?_
 refine sr ?_
 refine dM [vP U 0] 94 u ?_
 intro jm jo dP
 refine dM (gT b j f l g m h) 42 dP ?_
 intro jq jr aA
 refine nt (FW (sr (Lz (vP U 0) aA 1 Tryz.isAgg94 (La (gT b j f l g m h) aA 0 M4 M5 ?_))))
 refine WL.do rfl (Gg Tryz.call60 rfl ?_ (fun _ _ k=>k))
 refine cb Tryz.func60 ?_
 refine sr ?_
 refine dM (gT b j f l g m h) 42 aA ?_
 intro jv jw dQ
 refine An rfl (FW ?_)
 have dS:=dQ.pf [7]
 obtain⟨jy,jA,jB,jC,jD,jE,jG,jH,jI,jJ,jK,jL,jM,jO,jP,jQ,jR,jS,jU,jV,jW,jX,j3,j4,j5,j6,bi,bn,bq,bu,bz,bB,bD,bF,fI,dU⟩:=ji dS
 refine oL 25 [] (Gb Gj) dU ?_
 intro kg dV
 refine qv 0 rfl rfl (qp U 0 1 rfl (qp U 0 2 rfl (ql 3 rfl 22 O2 rfl rfl rfl (qp d 0 4 rfl (qp d 34 5 rfl (ql 6 rfl 0 Tryz.isAgg84 rfl rfl rfl (qk (.bool false) 7 rfl (qv 8 rfl rfl (F5 (rs:= []) 9 rfl rfl rfl rfl e7 (F5 (rs:= []) 10 rfl rfl rfl rfl e7 (F5 (rs:= []) 11 rfl rfl rfl rfl e7 (F5 (rs:= []) 12 rfl rfl rfl rfl e7 (F5 (rs:= []) 13 rfl rfl rfl rfl e7 (F5 (rs:= []) 14 rfl rfl rfl rfl e7 (F5 (rs:= []) 15 rfl rfl rfl rfl e7 (F5 (rs:= []) 16 rfl rfl rfl rfl e7 (F5 (rs:= []) 17 rfl rfl rfl rfl e7 (F5 (rs:= []) 18 rfl rfl rfl rfl e7 (F5 (rs:= []) 19 rfl rfl rfl rfl e7 (F5 (rs:= []) 20 rfl rfl rfl rfl e7 (F5 (rs:= []) 21 rfl rfl rfl rfl e7 (qt (v:= .bool false) 22 rfl (fun _ _=>FZ rfl rfl rfl) (qv 23 rfl rfl (F5 (rs:= []) 24 rfl rfl rfl rfl e7 (F5 (rs:= []) 25 rfl rfl rfl rfl e7 (F5 (rs:= []) 26 rfl rfl rfl rfl e7 (F5 (rs:= []) 27 rfl rfl rfl rfl e7 (F5 (rs:= []) 28 rfl rfl rfl rfl e7 (F5 (rs:= []) 29 rfl rfl rfl rfl e7 (F5 (rs:= []) 30 rfl rfl rfl rfl e7 (F5 (rs:= []) 31 rfl rfl rfl rfl e7 (F5 (rs:= []) 32 rfl rfl rfl rfl e7 (F5 (rs:= []) 33 rfl rfl rfl rfl e7 (F5 (rs:= []) 34 rfl rfl rfl rfl e7 (F5 (rs:= []) 35 rfl rfl rfl rfl e7 (F5 (rs:= []) 36 rfl rfl rfl rfl e7 (qt (v:= .bool false) 37 rfl (fun _ _=>FZ rfl rfl rfl) (qa 38 rfl rfl (qn ?_)))))))))))))))))))))))))))))))))))))))
 refine FY (rt (rs (Kz (.bool true) (nt (jt (rt (tR (Fin.res (res0 rfl) (D0 (bN (Gh (res0 rfl) ?_)))))))))))
 have dW:=fA bi bn bq bu bz bB bD bF dV
 have dX:=dW.pk [5,6,7,0]
 obtain⟨rfl,rfl⟩:=gm (hr.symm.trans (show _=(I,a) from et (iN z) (et (iN B) (et (iN F) (et (iN G) (et (iN y) (et (iN V) (ip aj))))))))
 exact⟨r,s,p,rfl,dX,n⟩
 refine jF (dF aj) (Gn (bN (Gh (res0 rfl) ?_)))
 have dY:=u.px [] [0] []
 obtain⟨rfl,rfl⟩:=gm (hr.symm.trans (show _=(I,a) from et (iN z) (et (iN B) (et (iN F) (et (iN G) (et (iN y) (et (iN V) (iN aj))))))))
 exact⟨r,s,p,rfl,dY,n⟩
end Go.Proofs.YtbkagebjhbphaaaGreat
