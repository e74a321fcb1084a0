/-
 coord: a message taken.
-/
import Derived.Test.YtbkagebjhbphaaaGreatCt
namespace Go.Proofs.YtbkagebjhbphaaaGreat
open List renaming flatMap→q6
open Ll renaming mk→E4
open _root_.Go.Proofs.Tryz renaming isAgg24→O3,isAgg28→E1,isAgg3→C6,isAgg42→M5,sizeOf28→M7,sizeOf42→M6
open WL renaming nil→D0
set_option maxRecDepth 100000
open Go.RowKit
set_option linter.unusedVariables false
set_option linter.unusedSectionVars false
set_option linter.unusedSimpArgs false
def iG (c:bH) (b:bQ) (a:aB):bH × aB:=
 if b.aH=1 then bnd (iP c b a) fun d=>(d.1,d.2) else if b.aH=4 then bnd (jN c b a) fun e=>(e.1,e.2) else if b.aH=6 then bnd (jY c b a) fun f=>(f.1,f.2) else if b.aH=7 then bnd (kW c b a) fun g=>(g,a) else if b.aH=9 then if b.aJ=1 then(c,(aB.mk a.aa a.bI (E4 a.ak.ls) a.aR a.aN a.aO a.aP a.aM a.di (max a.cz b.bf) a.cK a.cB a.cu)) else if b.aJ=2 then(c,(aB.mk a.aa a.bI (E4 a.ak.ls) a.aR a.aN a.aO a.aP a.aM a.di a.cz (max a.cK b.bf) a.cB a.cu)) else if b.aJ=3 then(c,(aB.mk a.aa a.bI (E4 a.ak.ls) a.aR a.aN a.aO a.aP a.aM a.di a.cz a.cK (max a.cB b.bf) a.cu)) else(c,(aB.mk a.aa a.bI (E4 a.ak.ls) a.aR a.aN a.aO a.aP a.aM a.di a.cz a.cK a.cB (max a.cu b.bf))) else if b.aH=13 then(c,a) else if b.aH=14 then(c,a) else(c,a)
set_option maxHeartbeats 4000000 in
theorem rJ (w:World) (D:Nat→Prop) (U:Nat) (I:bH) (r:Option Addr) (s:Nat) (p:List bF) (b:bQ) (j:Option Addr) (ax f:Nat) (l:Option Addr) (ay g:Nat) (C:List af) (m:Option Addr) (aA h:Nat) (d:Nat) (a:aB) (r0:bH) (r1:aB) (H:Own w D w [blk U [.pointer (some ⟨d,0,none⟩), .slice r I.bB.ls.length s] 98,row r I.bB.ls.length s (q6 bF.cells p) 42 21,sepL (q6 bF.own p),iE d a]) (n:List.map bF.abs p=I.bB.ls) (aN:ax=b.aG.ls.length) (J:Ro w D fun w'=>bD w' 6 j b.aG.ls.length (q6 bC.cells b.aG.ls)) (dZ:b.aG.ls.length≤f∧b.aG.ls.length≤9223372036854775807) (E:List.map af.abs C=b.ah.ls) (aO:ay=b.ah.ls.length) (K:Ro w D fun w'=>bD w' 3 l b.ah.ls.length (q6 af.cells C)) (d9:b.ah.ls.length≤g∧b.ah.ls.length≤9223372036854775807) (t:∀ x ∈ C,Ro w D (fun w'=>bD w' 2 x.au.A x.au.ls.length (q6 aL.cells x.au.ls))∧(x.au.ls.length≤x.au.c∧x.au.ls.length≤9223372036854775807)) (aP:aA=b.ag.ls.length) (L:Ro w D fun w'=>bD w' 2 m b.ag.ls.length (q6 bv.cells b.ag.ls)) (ed:b.ag.ls.length≤h∧b.ag.ls.length≤9223372036854775807) (j5:a.aa.ag.ls.length≤1000∧a.aa.aj.ls.length≤1000∧a.aa.aI.ls.length≤1000∧a.ak.ls.length≤1000∧I.bB.ls.length≤100000) (j6:Mk a) (kg:b.aG.ls.length≤24∧b.ag.ls.length≤1000∧b.ah.ls.length≤1000∧jZ b.aU) (ko:mR b.ah.ls) (kr:(¬ (b.aH=1)∨11≤b.aJ∧b.aJ≤14)∧(¬ (b.aH=9)∨1≤b.aJ∧b.aJ≤4)) (hr:iG I b a=(r0,r1)):
    Calls Tryz.prog 24 #[vP U 0, .agg (gD b.aH b.aJ b.eO b.aS b.dz b.eu b.aU b.ax b.bi b.dW b.bf b.aK b.dI b.cZ b.xN b.d9 b.bV.bK b.bV.bW j ax f l ay g m aA h).toArray] w (dR fun v w'=> ∃ (B0ox0:Option Addr) (b0ox0:Nat) (e0ox0:List bF),v= .tuple #[]∧Own w D w' [blk U [vP d 0, .slice B0ox0 r0.bB.ls.length b0ox0] 98,row B0ox0 r0.bB.ls.length b0ox0 (q6 bF.cells e0ox0) 42 21,sepL (q6 bF.own e0ox0),iE d r1]∧(List.map bF.abs e0ox0=r0.bB.ls)):=by
 subst aN aO aP
 have dX:=az n
 have dY:=az E
 have ek:=H.rowC (i:=1) rfl
 refine cb Tryz.func24 ?_
 refine sr ?_
 refine dM (gT b j f l g m h) 42 H ?_
 intro W ku u
 refine ns (Kz (vP W 0) (Lz (vI b.aH) u 0 C6 (nt (bo (sr (Kz (.bool (decide (b.aH=1))) (An rfl ?_)))))))
 by_cases z:b.aH=1
 refine jT (dT z) (FT (Mz rfl (La (gT b j f l g m h) u 0 M5 M6 ?_)))
 have eu:=u.pb [0]
 obtain⟨⟨bz,bA⟩,aC⟩:∃ q:bH × aB,iP I b a=q:=⟨_,rfl⟩
 obtain⟨kv,bB,X,bE,fH⟩:=GH eu
 refine cl Tryz.call56 (ut _ _ U I r s p b j b.aG.ls.length f l b.ah.ls.length g C m b.ag.ls.length h d a bz bA bB n rfl (X _ J) (show b.aG.ls.length≤f∧b.aG.ls.length≤9223372036854775807 from by omega) E rfl (X _ K) (show b.ah.ls.length≤g∧b.ah.ls.length≤9223372036854775807 from by omega) (fun x9 h9=>⟨X _ (t x9 h9).1,(t x9 h9).2⟩) rfl (X _ L) (show b.ag.ls.length≤h∧b.ag.ls.length≤9223372036854775807 from by omega) e8 f4 j9 e8 e8 aC) ?_
 rintro _ kw ⟨eB,eD,eF,rfl,bG,aD⟩
 have bI:=bE _ _ bG
 have fI:=az aD
 have fJ:=bI.rowC (i:=1) rfl
 refine D0 (bN (Gf (res0 rfl) ?_))
 have eG:=bI.px [] [4] []
 obtain⟨rfl,rfl⟩:=gm (hr.symm.trans (show _=(bz,bA) from et (ip z) (ai aC)))
 exact⟨eB,eD,eF,rfl,eG,aD⟩
 refine jF (dF z) (sr (Kz (.bool (decide (b.aH=4))) (An rfl ?_)))
 by_cases B:b.aH=4
 refine jT (dT B) (FT (Mz rfl (La (gT b j f l g m h) u 0 M5 M6 ?_)))
 have eH:=u.pb [0]
 obtain⟨⟨bJ,bK⟩,aF⟩:∃ q:bH × aB,jN I b a=q:=⟨_,rfl⟩
 obtain⟨ky,bL,Y,bM,fK⟩:=GH eH
 refine cl Tryz.call57 (vR _ _ U I r s p b j b.aG.ls.length f l b.ah.ls.length g C m b.ag.ls.length h d a bJ bK bL n rfl (Y _ J) (show b.aG.ls.length≤f∧b.aG.ls.length≤9223372036854775807 from by omega) E rfl (Y _ K) (show b.ah.ls.length≤g∧b.ah.ls.length≤9223372036854775807 from by omega) (fun x9 h9=>⟨Y _ (t x9 h9).1,(t x9 h9).2⟩) rfl (Y _ L) (show b.ag.ls.length≤h∧b.ag.ls.length≤9223372036854775807 from by omega) e8 f8 e8 f4 aF) ?_
 rintro _ kz ⟨eO,eP,eQ,rfl,bO,aG⟩
 have bR:=bM _ _ bO
 have fM:=az aG
 have fO:=bR.rowC (i:=1) rfl
 refine D0 (bN (Gf (res0 rfl) ?_))
 have eT:=bR.px [] [4] []
 obtain⟨rfl,rfl⟩:=gm (hr.symm.trans (show _=(bJ,bK) from et (iN z) (et (ip B) (ai aF))))
 exact⟨eO,eP,eQ,rfl,eT,aG⟩
 refine jF (dF B) (sr (Kz (.bool (decide (b.aH=6))) (An rfl ?_)))
 by_cases F:b.aH=6
 refine jT (dT F) (FT (Mz rfl (La (gT b j f l g m h) u 0 M5 M6 ?_)))
 have eU:=u.pb [0]
 obtain⟨⟨bS,bT⟩,aH⟩:∃ q:bH × aB,jY I b a=q:=⟨_,rfl⟩
 obtain⟨kC,bU,Z,bV,fP⟩:=GH eU
 refine cl Tryz.call58 (wF _ _ U I r s p b j b.aG.ls.length f l b.ah.ls.length g C m b.ag.ls.length h d a bS bT bU n rfl (Z _ J) (show b.aG.ls.length≤f∧b.aG.ls.length≤9223372036854775807 from by omega) E rfl (Z _ K) (show b.ah.ls.length≤g∧b.ah.ls.length≤9223372036854775807 from by omega) (fun x9 h9=>⟨Z _ (t x9 h9).1,(t x9 h9).2⟩) rfl (Z _ L) (show b.ag.ls.length≤h∧b.ag.ls.length≤9223372036854775807 from by omega) e8 j8 aH) ?_
 rintro _ kD ⟨eX,eY,eZ,rfl,bW,aI⟩
 have bX:=bV _ _ bW
 have fQ:=az aI
 have fT:=bX.rowC (i:=1) rfl
 refine D0 (bN (Gf (res0 rfl) ?_))
 have fe:=bX.px [] [4] []
 obtain⟨rfl,rfl⟩:=gm (hr.symm.trans (show _=(bS,bT) from et (iN z) (et (iN B) (et (ip F) (ai aH)))))
 exact⟨eX,eY,eZ,rfl,fe,aI⟩
 refine jF (dF F) (sr (Kz (.bool (decide (b.aH=7))) (An rfl ?_)))
 by_cases G:b.aH=7
 refine jT (dT G) (FT (Mz rfl (La (gT b j f l g m h) u 0 M5 M6 ?_)))
 have fo:=u.pb [0]
 obtain⟨bY,aJ⟩:∃ q,kW I b a=q:=⟨_,rfl⟩
 obtain⟨kE,bZ,aa,cu,fU⟩:=GH fo
 refine cl Tryz.call59 (wG _ _ U I r s p b j b.aG.ls.length f l b.ah.ls.length g C m b.ag.ls.length h d a bY bZ n rfl (aa _ J) (show b.aG.ls.length≤f∧b.aG.ls.length≤9223372036854775807 from by omega) E rfl (aa _ K) (show b.ah.ls.length≤g∧b.ah.ls.length≤9223372036854775807 from by omega) (fun x9 h9=>⟨aa _ (t x9 h9).1,(t x9 h9).2⟩) rfl (aa _ L) (show b.ag.ls.length≤h∧b.ag.ls.length≤9223372036854775807 from by omega) e8 aJ) ?_
 rintro _ kF ⟨fq,fu,fw,rfl,cz,aK⟩
 have cB:=cu _ _ cz
 have fB:=az aK
 have fC:=cB.rowC (i:=1) rfl
 refine D0 (bN (Gf (res0 rfl) ?_))
 have cK:=cB.px [] [4] []
 obtain⟨rfl,rfl⟩:=gm (hr.symm.trans (show _=(bY,a) from et (iN z) (et (iN B) (et (iN F) (et (ip G) (ai aJ))))))
 exact⟨fq,fu,fw,rfl,cK,aK⟩
 refine jF (dF G) (sr (Kz (.bool (decide (b.aH=9))) (An rfl ?_)))
 by_cases y:b.aH=9
 refine jT (dT y) ?_
 have cO:=u.pf [4]
 obtain⟨fV,fZ,gp,gq,gu,gy,gz,gB,gF,gG,gH,gI,gJ,gK,gL,gM,gN,gP,gQ,gU,gV,gW,gX,gY,gZ,ib,M,N,O,P,Q,R,S,T,fD,cZ⟩:=ji cO
 refine oJ 22 [22] (bP.block Gh) cZ ?_
 intro ic ae
 refine qv 0 rfl rfl (qp U 0 1 rfl (qp U 0 2 rfl (ql 3 rfl 19 O3 rfl rfl rfl (qp W 1 4 rfl (ql 5 rfl 18 C6 rfl rfl rfl (qv 6 rfl rfl (qp U 0 7 rfl (qp U 0 8 rfl (ql 9 rfl 19 O3 rfl rfl rfl (qp W 1 10 rfl (ql 11 rfl 18 C6 rfl rfl rfl (qp d 0 12 rfl (qp d 29 13 rfl ?_)))))))))))))
 by_cases ag:b.aJ=1
 refine qt (v:=vP d 30) 14 rfl (fun _ _=>by rw [show b.aJ=1 from by omega]; exact yk) (ql 15 rfl 0 E1 rfl rfl rfl (qp W 10 16 rfl (ql 17 rfl 18 E1 rfl rfl rfl (qt (v:=vU (max a.cz b.bf)) 18 rfl (fun _ _=>FV (e:=if((b.bf:Nat):Int) > ((a.cz:Nat):Int) then((b.bf:Nat):Int) else((a.cz:Nat):Int)) yk e6) (qp d 0 19 rfl (qp d 29 20 rfl (qt (v:=vP d 30) 21 rfl (fun _ _=>by rw [show b.aJ=1 from by omega]; exact yk) ?_)))))))
 refine qe 22 rfl (Do.store (vs:= [vU (max a.cz b.bf)]) (o:=30) ae rfl rfl M7 rfl rfl rfl rfl ?_)
 intro ig df
 refine⟨.inl e7, ?_⟩
 refine qn (bN (Gf (res0 rfl) ?_))
 have dh:=fA M N O P Q R S T df
 have di:=dh.px [] [1] [0]
 obtain⟨rfl,rfl⟩:=gm (hr.symm.trans (show _=(I,(aB.mk a.aa a.bI (E4 a.ak.ls) a.aR a.aN a.aO a.aP a.aM a.di (max a.cz b.bf) a.cK a.cB a.cu)) from et (iN z) (et (iN B) (et (iN F) (et (iN G) (et (ip y) (ip ag)))))))
 exact⟨r,s,p,rfl,di,n⟩
 by_cases au:b.aJ=2
 refine qt (v:=vP d 31) 14 rfl (fun _ _=>by rw [show b.aJ=2 from by omega]; exact yk) (ql 15 rfl 0 E1 rfl rfl rfl (qp W 10 16 rfl (ql 17 rfl 18 E1 rfl rfl rfl (qt (v:=vU (max a.cK b.bf)) 18 rfl (fun _ _=>FV (e:=if((b.bf:Nat):Int) > ((a.cK:Nat):Int) then((b.bf:Nat):Int) else((a.cK:Nat):Int)) yk e6) (qp d 0 19 rfl (qp d 29 20 rfl (qt (v:=vP d 31) 21 rfl (fun _ _=>by rw [show b.aJ=2 from by omega]; exact yk) ?_)))))))
 refine qe 22 rfl (Do.store (vs:= [vU (max a.cK b.bf)]) (o:=31) ae rfl rfl M7 rfl rfl rfl rfl ?_)
 intro ik dm
 refine⟨.inl e7, ?_⟩
 refine qn (bN (Gf (res0 rfl) ?_))
 have dn:=fA M N O P Q R S T dm
 have dw:=dn.px [] [1] [0]
 obtain⟨rfl,rfl⟩:=gm (hr.symm.trans (show _=(I,(aB.mk a.aa a.bI (E4 a.ak.ls) a.aR a.aN a.aO a.aP a.aM a.di a.cz (max a.cK b.bf) a.cB a.cu)) from et (iN z) (et (iN B) (et (iN F) (et (iN G) (et (ip y) (et (iN ag) (ip au))))))))
 exact⟨r,s,p,rfl,dw,n⟩
 by_cases aM:b.aJ=3
 refine qt (v:=vP d 32) 14 rfl (fun _ _=>by rw [show b.aJ=3 from by omega]; exact yk) (ql 15 rfl 0 E1 rfl rfl rfl (qp W 10 16 rfl (ql 17 rfl 18 E1 rfl rfl rfl (qt (v:=vU (max a.cB b.bf)) 18 rfl (fun _ _=>FV (e:=if((b.bf:Nat):Int) > ((a.cB:Nat):Int) then((b.bf:Nat):Int) else((a.cB:Nat):Int)) yk e6) (qp d 0 19 rfl (qp d 29 20 rfl (qt (v:=vP d 32) 21 rfl (fun _ _=>by rw [show b.aJ=3 from by omega]; exact yk) ?_)))))))
 refine qe 22 rfl (Do.store (vs:= [vU (max a.cB b.bf)]) (o:=32) ae rfl rfl M7 rfl rfl rfl rfl ?_)
 intro il dx
 refine⟨.inl e7, ?_⟩
 refine qn (bN (Gf (res0 rfl) ?_))
 have dz:=fA M N O P Q R S T dx
 have dA:=dz.px [] [1] [0]
 obtain⟨rfl,rfl⟩:=gm (hr.symm.trans (show _=(I,(aB.mk a.aa a.bI (E4 a.ak.ls) a.aR a.aN a.aO a.aP a.aM a.di a.cz a.cK (max a.cB b.bf) a.cu)) from et (iN z) (et (iN B) (et (iN F) (et (iN G) (et (ip y) (et (iN ag) (et (iN au) (ip aM)))))))))
 exact⟨r,s,p,rfl,dA,n⟩
 refine qt (v:=vP d 33) 14 rfl (fun _ _=>by rw [show b.aJ=4 from by omega]; exact yk) (ql 15 rfl 0 E1 rfl rfl rfl (qp W 10 16 rfl (ql 17 rfl 18 E1 rfl rfl rfl (qt (v:=vU (max a.cu b.bf)) 18 rfl (fun _ _=>FV (e:=if((b.bf:Nat):Int) > ((a.cu:Nat):Int) then((b.bf:Nat):Int) else((a.cu:Nat):Int)) yk e6) (qp d 0 19 rfl (qp d 29 20 rfl (qt (v:=vP d 33) 21 rfl (fun _ _=>by rw [show b.aJ=4 from by omega]; exact yk) ?_)))))))
 refine qe 22 rfl (Do.store (vs:= [vU (max a.cu b.bf)]) (o:=33) ae rfl rfl M7 rfl rfl rfl rfl ?_)
 intro iq dB
 refine⟨.inl e7, ?_⟩
 refine qn (bN (Gf (res0 rfl) ?_))
 have dC:=fA M N O P Q R S T dB
 have dD:=dC.px [] [1] [0]
 obtain⟨rfl,rfl⟩:=gm (hr.symm.trans (show _=(I,(aB.mk a.aa a.bI (E4 a.ak.ls) a.aR a.aN a.aO a.aP a.aM a.di a.cz a.cK a.cB (max a.cu b.bf))) from et (iN z) (et (iN B) (et (iN F) (et (iN G) (et (ip y) (et (iN ag) (et (iN au) (iN aM)))))))))
 exact⟨r,s,p,rfl,dD,n⟩
 refine jF (dF y) (sr (Kz (.bool (decide (b.aH=13))) (An rfl ?_)))
 by_cases V:b.aH=13
 refine jT (dT V) (sr (Mz rfl (La (gT b j f l g m h) u 0 M5 M6 ?_)))
 refine WL.do rfl (Gd Tryz.call60 rfl ?_ (fun _ _ k=>k))
 refine cb Tryz.func60 ?_
 refine sr ?_
 refine dM (gT b j f l g m h) 42 u ?_
 intro iw iy dE
 refine An rfl (FU ?_)
 have dG:=dE.pf [5]
 obtain⟨iA,iB,iC,iD,iF,iH,iI,iJ,iK,iL,iM,iO,iQ,iR,iT,iU,iV,iW,iX,iY,iZ,ja,jb,jc,jd,je,aQ,aR,aS,aT,aU,aV,aW,aX,fE,dH⟩:=ji dG
 refine oJ 23 [] (F8 Gh) dH ?_
 intro jg dI
 refine qv 0 rfl rfl (qp U 0 1 rfl (qp U 0 2 rfl (ql 3 rfl 20 O3 rfl rfl rfl (qp d 0 4 rfl (qp d 34 5 rfl (ql 6 rfl 0 Tryz.isAgg84 rfl rfl rfl (qk (.bool false) 7 rfl (qv 8 rfl rfl (F3 (rs:= []) 9 rfl rfl rfl rfl e7 (F3 (rs:= []) 10 rfl rfl rfl rfl e7 (F3 (rs:= []) 11 rfl rfl rfl rfl e7 (F3 (rs:= []) 12 rfl rfl rfl rfl e7 (F3 (rs:= []) 13 rfl rfl rfl rfl e7 (F3 (rs:= []) 14 rfl rfl rfl rfl e7 (F3 (rs:= []) 15 rfl rfl rfl rfl e7 (F3 (rs:= []) 16 rfl rfl rfl rfl e7 (F3 (rs:= []) 17 rfl rfl rfl rfl e7 (F3 (rs:= []) 18 rfl rfl rfl rfl e7 (F3 (rs:= []) 19 rfl rfl rfl rfl e7 (F3 (rs:= []) 20 rfl rfl rfl rfl e7 (F3 (rs:= []) 21 rfl rfl rfl rfl e7 (qt (v:= .bool false) 22 rfl (fun _ _=>FX rfl rfl rfl) (qv 23 rfl rfl (F3 (rs:= []) 24 rfl rfl rfl rfl e7 (F3 (rs:= []) 25 rfl rfl rfl rfl e7 (F3 (rs:= []) 26 rfl rfl rfl rfl e7 (F3 (rs:= []) 27 rfl rfl rfl rfl e7 (F3 (rs:= []) 28 rfl rfl rfl rfl e7 (F3 (rs:= []) 29 rfl rfl rfl rfl e7 (F3 (rs:= []) 30 rfl rfl rfl rfl e7 (F3 (rs:= []) 31 rfl rfl rfl rfl e7 (F3 (rs:= []) 32 rfl rfl rfl rfl e7 (F3 (rs:= []) 33 rfl rfl rfl rfl e7 (F3 (rs:= []) 34 rfl rfl rfl rfl e7 (F3 (rs:= []) 35 rfl rfl rfl rfl e7 (F3 (rs:= []) 36 rfl rfl rfl rfl e7 (qt (v:= .bool false) 37 rfl (fun _ _=>FX rfl rfl rfl) (qa 38 rfl rfl (qn ?_)))))))))))))))))))))))))))))))))))))))
 refine FW (rt (rs (nt (jf (Gj (bN (Gf (res0 rfl) ?_)))))))
 have dJ:=fA aQ aR aS aT aU aV aW aX dI
 have dK:=dJ.pk [3,4,5,0]
 obtain⟨rfl,rfl⟩:=gm (hr.symm.trans (show _=(I,a) from et (iN z) (et (iN B) (et (iN F) (et (iN G) (et (iN y) (ip V)))))))
 exact⟨r,s,p,rfl,dK,n⟩
 refine jF (dF V) (sr (Kz (.bool (decide (b.aH=14))) (An rfl ?_)))
 by_cases ah:b.aH=14
 refine jT (dT ah) (FT (Mz rfl (La (gT b j f l g m h) u 0 M5 M6 ?_)))
 refine WL.do rfl (Gd Tryz.call61 rfl ?_ (fun _ _ k=>k))
 refine cb Tryz.func61 ?_
 refine sr ?_
 refine dM [vP U 0] 94 u ?_
 intro jh jk dL
 refine dM (gT b j f l g m h) 42 dL ?_
 intro jl jm av
 refine nt (FU (sr (Lz (vP U 0) av 1 Tryz.isAgg94 (La (gT b j f l g m h) av 0 M5 M6 ?_))))
 refine WL.do rfl (Gd Tryz.call60 rfl ?_ (fun _ _ k=>k))
 refine cb Tryz.func60 ?_
 refine sr ?_
 refine dM (gT b j f l g m h) 42 av ?_
 intro jo jq dN
 refine An rfl (FU ?_)
 have dO:=dN.pf [7]
 obtain⟨jr,jv,jw,jy,jA,jB,jC,jD,jE,jG,jH,jI,jJ,jK,jL,jM,jO,jP,jQ,jR,jS,jU,jV,jW,jX,j3,aY,aZ,bf,bg,bi,bn,bq,bu,fF,dP⟩:=ji dO
 refine oJ 25 [] (F8 Gh) dP ?_
 intro j4 dQ
 refine qv 0 rfl rfl (qp U 0 1 rfl (qp U 0 2 rfl (ql 3 rfl 22 O3 rfl rfl rfl (qp d 0 4 rfl (qp d 34 5 rfl (ql 6 rfl 0 Tryz.isAgg84 rfl rfl rfl (qk (.bool false) 7 rfl (qv 8 rfl rfl (F3 (rs:= []) 9 rfl rfl rfl rfl e7 (F3 (rs:= []) 10 rfl rfl rfl rfl e7 (F3 (rs:= []) 11 rfl rfl rfl rfl e7 (F3 (rs:= []) 12 rfl rfl rfl rfl e7 (F3 (rs:= []) 13 rfl rfl rfl rfl e7 (F3 (rs:= []) 14 rfl rfl rfl rfl e7 (F3 (rs:= []) 15 rfl rfl rfl rfl e7 (F3 (rs:= []) 16 rfl rfl rfl rfl e7 (F3 (rs:= []) 17 rfl rfl rfl rfl e7 (F3 (rs:= []) 18 rfl rfl rfl rfl e7 (F3 (rs:= []) 19 rfl rfl rfl rfl e7 (F3 (rs:= []) 20 rfl rfl rfl rfl e7 (F3 (rs:= []) 21 rfl rfl rfl rfl e7 (qt (v:= .bool false) 22 rfl (fun _ _=>FX rfl rfl rfl) (qv 23 rfl rfl (F3 (rs:= []) 24 rfl rfl rfl rfl e7 (F3 (rs:= []) 25 rfl rfl rfl rfl e7 (F3 (rs:= []) 26 rfl rfl rfl rfl e7 (F3 (rs:= []) 27 rfl rfl rfl rfl e7 (F3 (rs:= []) 28 rfl rfl rfl rfl e7 (F3 (rs:= []) 29 rfl rfl rfl rfl e7 (F3 (rs:= []) 30 rfl rfl rfl rfl e7 (F3 (rs:= []) 31 rfl rfl rfl rfl e7 (F3 (rs:= []) 32 rfl rfl rfl rfl e7 (F3 (rs:= []) 33 rfl rfl rfl rfl e7 (F3 (rs:= []) 34 rfl rfl rfl rfl e7 (F3 (rs:= []) 35 rfl rfl rfl rfl e7 (F3 (rs:= []) 36 rfl rfl rfl rfl e7 (qt (v:= .bool false) 37 rfl (fun _ _=>FX rfl rfl rfl) (qa 38 rfl rfl (qn ?_)))))))))))))))))))))))))))))))))))))))
 refine FW (rt (rs (Kz (.bool true) (nt (jt (rt (tR (Fin.res (res0 rfl) (D0 (bN (Gf (res0 rfl) ?_)))))))))))
 have dS:=fA aY aZ bf bg bi bn bq bu dQ
 have dU:=dS.pk [5,6,7,0]
 obtain⟨rfl,rfl⟩:=gm (hr.symm.trans (show _=(I,a) from et (iN z) (et (iN B) (et (iN F) (et (iN G) (et (iN y) (et (iN V) (ip ah))))))))
 exact⟨r,s,p,rfl,dU,n⟩
 refine jF (dF ah) (Gj (bN (Gf (res0 rfl) ?_)))
 have dV:=u.px [] [0] []
 obtain⟨rfl,rfl⟩:=gm (hr.symm.trans (show _=(I,a) from et (iN z) (et (iN B) (et (iN F) (et (iN G) (et (iN y) (et (iN V) (iN ah))))))))
 exact⟨r,s,p,rfl,dV,n⟩
end Go.Proofs.YtbkagebjhbphaaaGreat
