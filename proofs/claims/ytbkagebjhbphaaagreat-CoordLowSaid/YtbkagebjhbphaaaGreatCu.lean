/-
 coord: a message taken.
-/
import Derived.Test.YtbkagebjhbphaaaGreatCt
namespace Go.Proofs.YtbkagebjhbphaaaGreat
open List renaming flatMap→q6
open Ll renaming mk→E4
open _root_.Go.Proofs.Tryz renaming isAgg24→N7,isAgg28→E1,isAgg3→C6,isAgg42→L9,sizeOf28→M1,sizeOf42→M0
open WL renaming nil→D0
set_option maxRecDepth 100000
open Go.RowKit
set_option linter.unusedVariables false
set_option linter.unusedSectionVars false
set_option linter.unusedSimpArgs false
def jd (c:bO) (b:bQ) (a:aB):bO × aB:=
 if b.aM=1 then bnd (kr c b a) fun d=>(d.1,d.2) else if b.aM=4 then bnd (kY c b a) fun e=>(e.1,e.2) else if b.aM=6 then bnd (lG c b a) fun f=>(f.1,f.2) else if b.aM=7 then bnd (mi c b a) fun g=>(g,a) else if b.aM=9 then if b.aP=1 then(c,(aB.mk a.aa a.bH (E4 a.aA.ls) a.aQ a.aO a.aL a.aN a.aK a.df (max a.cu b.bi) a.cz a.cB a.cK)) else if b.aP=2 then(c,(aB.mk a.aa a.bH (E4 a.aA.ls) a.aQ a.aO a.aL a.aN a.aK a.df a.cu (max a.cz b.bi) a.cB a.cK)) else if b.aP=3 then(c,(aB.mk a.aa a.bH (E4 a.aA.ls) a.aQ a.aO a.aL a.aN a.aK a.df a.cu a.cz (max a.cB b.bi) a.cK)) else(c,(aB.mk a.aa a.bH (E4 a.aA.ls) a.aQ a.aO a.aL a.aN a.aK a.df a.cu a.cz a.cB (max a.cK b.bi))) else if b.aM=13 then(c,a) else if b.aM=14 then(c,a) else(c,a)
set_option maxHeartbeats 4000000 in
theorem q8 (w:World) (D:Nat→Prop) (U:Nat) (I:bO) (r:Option Addr) (s:Nat) (p:List bA) (b:bQ) (j:Option Addr) (ax f:Nat) (l:Option Addr) (ay g:Nat) (C:List af) (m:Option Addr) (aA h:Nat) (d:Nat) (a:aB) (r0:bO) (r1:aB) (H:Own w D w [blk U [.pointer (some ⟨d,0,none⟩), .slice r I.bE.ls.length s] 98,row r I.bE.ls.length s (q6 bA.cells p) 42 21,sepL (q6 bA.own p),iE d a]) (n:List.map bA.abs p=I.bE.ls) (aN:ax=b.aD.ls.length) (J:Ro w D fun w'=>bD w' 6 j b.aD.ls.length (q6 bC.cells b.aD.ls)) (dZ:b.aD.ls.length≤f∧b.aD.ls.length≤9223372036854775807) (E:List.map af.abs C=b.ai.ls) (aO:ay=b.ai.ls.length) (K:Ro w D fun w'=>bD w' 3 l b.ai.ls.length (q6 af.cells C)) (d9:b.ai.ls.length≤g∧b.ai.ls.length≤9223372036854775807) (t:∀ x ∈ C,Ro w D (fun w'=>bD w' 2 x.au.A x.au.ls.length (q6 aJ.cells x.au.ls))∧(x.au.ls.length≤x.au.c∧x.au.ls.length≤9223372036854775807)) (aP:aA=b.ag.ls.length) (L:Ro w D fun w'=>bD w' 2 m b.ag.ls.length (q6 bv.cells b.ag.ls)) (ed:b.ag.ls.length≤h∧b.ag.ls.length≤9223372036854775807) (jZ:a.aa.ag.ls.length≤1000∧a.aa.aj.ls.length≤1000∧a.aa.aF.ls.length≤1000∧a.aA.ls.length≤1000∧I.bE.ls.length≤100000) (j3:Mk a) (j4:b.aD.ls.length≤24∧b.ag.ls.length≤1000∧b.ai.ls.length≤1000∧jy b.aY) (j5:mJ b.ai.ls) (j6:(¬ (b.aM=1)∨11≤b.aP∧b.aP≤14)∧(¬ (b.aM=9)∨1≤b.aP∧b.aP≤4)) (hr:jd I b a=(r0,r1)):
    Calls Tryz.prog 24 #[vP U 0, .agg (gH b.aM b.aP b.fO b.aS b.dJ b.d9 b.aY b.ax b.bf b.di b.bi b.aI b.dM b.cZ b.xN b.dY b.bW.bJ b.bW.bX j ax f l ay g m aA h).toArray] w (dS fun v w'=> ∃ (B0ox0:Option Addr) (b0ox0:Nat) (e0ox0:List bA),v= .tuple #[]∧Own w D w' [blk U [vP d 0, .slice B0ox0 r0.bE.ls.length b0ox0] 98,row B0ox0 r0.bE.ls.length b0ox0 (q6 bA.cells e0ox0) 42 21,sepL (q6 bA.own e0ox0),iE d r1]∧(List.map bA.abs e0ox0=r0.bE.ls)):=by
 subst aN aO aP
 have dX:=az n
 have dY:=az E
 have ek:=H.rowC (i:=1) rfl
 refine cb Tryz.func24 ?_
 refine sr ?_
 refine dK (gM b j f l g m h) 42 H ?_
 intro W kg u
 refine ns (Kz (vP W 0) (Lz (vI b.aM) u 0 C6 (nt (bo (sr (Kz (.bool (decide (b.aM=1))) (An rfl ?_)))))))
 by_cases z:b.aM=1
 refine jT (dT z) (EO (Mz rfl (La (gM b j f l g m h) u 0 L9 M0 ?_)))
 have eu:=u.pb [0]
 obtain⟨⟨bz,bB⟩,aC⟩:∃ q:bO × aB,kr I b a=q:=⟨_,rfl⟩
 obtain⟨ko,bE,X,bF,fH⟩:=FM eu
 refine cl Tryz.call56 (tV _ _ U I r s p b j b.aD.ls.length f l b.ai.ls.length g C m b.ag.ls.length h d a bz bB bE n rfl (X _ J) (show b.aD.ls.length≤f∧b.aD.ls.length≤9223372036854775807 from by omega) E rfl (X _ K) (show b.ai.ls.length≤g∧b.ai.ls.length≤9223372036854775807 from by omega) (fun x9 h9=>⟨X _ (t x9 h9).1,(t x9 h9).2⟩) rfl (X _ L) (show b.ag.ls.length≤h∧b.ag.ls.length≤9223372036854775807 from by omega) e8 f5 j9 e8 e8 aC) ?_
 rintro _ ku ⟨eB,eD,eF,rfl,bG,aD⟩
 have bH:=bF _ _ bG
 have fI:=az aD
 have fJ:=bH.rowC (i:=1) rfl
 refine D0 (bN (Ff (res0 rfl) ?_))
 have eG:=bH.px [] [4] []
 obtain⟨rfl,rfl⟩:=fT (hr.symm.trans (show _=(bz,bB) from et (ip z) (ah aC)))
 exact⟨eB,eD,eF,rfl,eG,aD⟩
 refine jF (dF z) (sr (Kz (.bool (decide (b.aM=4))) (An rfl ?_)))
 by_cases B:b.aM=4
 refine jT (dT B) (EO (Mz rfl (La (gM b j f l g m h) u 0 L9 M0 ?_)))
 have eH:=u.pb [0]
 obtain⟨⟨bI,bJ⟩,aF⟩:∃ q:bO × aB,kY I b a=q:=⟨_,rfl⟩
 obtain⟨kv,bK,Y,bL,fK⟩:=FM eH
 refine cl Tryz.call57 (vB _ _ U I r s p b j b.aD.ls.length f l b.ai.ls.length g C m b.ag.ls.length h d a bI bJ bK n rfl (Y _ J) (show b.aD.ls.length≤f∧b.aD.ls.length≤9223372036854775807 from by omega) E rfl (Y _ K) (show b.ai.ls.length≤g∧b.ai.ls.length≤9223372036854775807 from by omega) (fun x9 h9=>⟨Y _ (t x9 h9).1,(t x9 h9).2⟩) rfl (Y _ L) (show b.ag.ls.length≤h∧b.ag.ls.length≤9223372036854775807 from by omega) e8 f9 e8 f5 aF) ?_
 rintro _ kw ⟨eO,eP,eQ,rfl,bM,aG⟩
 have bR:=bL _ _ bM
 have fM:=az aG
 have fO:=bR.rowC (i:=1) rfl
 refine D0 (bN (Ff (res0 rfl) ?_))
 have eT:=bR.px [] [4] []
 obtain⟨rfl,rfl⟩:=fT (hr.symm.trans (show _=(bI,bJ) from et (iN z) (et (ip B) (ah aF))))
 exact⟨eO,eP,eQ,rfl,eT,aG⟩
 refine jF (dF B) (sr (Kz (.bool (decide (b.aM=6))) (An rfl ?_)))
 by_cases F:b.aM=6
 refine jT (dT F) (EO (Mz rfl (La (gM b j f l g m h) u 0 L9 M0 ?_)))
 have eU:=u.pb [0]
 obtain⟨⟨bS,bT⟩,aH⟩:∃ q:bO × aB,lG I b a=q:=⟨_,rfl⟩
 obtain⟨ky,bU,Z,bV,fP⟩:=FM eU
 refine cl Tryz.call58 (vX _ _ U I r s p b j b.aD.ls.length f l b.ai.ls.length g C m b.ag.ls.length h d a bS bT bU n rfl (Z _ J) (show b.aD.ls.length≤f∧b.aD.ls.length≤9223372036854775807 from by omega) E rfl (Z _ K) (show b.ai.ls.length≤g∧b.ai.ls.length≤9223372036854775807 from by omega) (fun x9 h9=>⟨Z _ (t x9 h9).1,(t x9 h9).2⟩) rfl (Z _ L) (show b.ag.ls.length≤h∧b.ag.ls.length≤9223372036854775807 from by omega) e8 j8 aH) ?_
 rintro _ kz ⟨eX,eY,eZ,rfl,bW,aI⟩
 have bX:=bV _ _ bW
 have fQ:=az aI
 have fU:=bX.rowC (i:=1) rfl
 refine D0 (bN (Ff (res0 rfl) ?_))
 have fe:=bX.px [] [4] []
 obtain⟨rfl,rfl⟩:=fT (hr.symm.trans (show _=(bS,bT) from et (iN z) (et (iN B) (et (ip F) (ah aH)))))
 exact⟨eX,eY,eZ,rfl,fe,aI⟩
 refine jF (dF F) (sr (Kz (.bool (decide (b.aM=7))) (An rfl ?_)))
 by_cases G:b.aM=7
 refine jT (dT G) (EO (Mz rfl (La (gM b j f l g m h) u 0 L9 M0 ?_)))
 have fq:=u.pb [0]
 obtain⟨bY,aK⟩:∃ q,mi I b a=q:=⟨_,rfl⟩
 obtain⟨kC,bZ,aa,cu,fV⟩:=FM fq
 refine cl Tryz.call59 (vY _ _ U I r s p b j b.aD.ls.length f l b.ai.ls.length g C m b.ag.ls.length h d a bY bZ n rfl (aa _ J) (show b.aD.ls.length≤f∧b.aD.ls.length≤9223372036854775807 from by omega) E rfl (aa _ K) (show b.ai.ls.length≤g∧b.ai.ls.length≤9223372036854775807 from by omega) (fun x9 h9=>⟨aa _ (t x9 h9).1,(t x9 h9).2⟩) rfl (aa _ L) (show b.ag.ls.length≤h∧b.ag.ls.length≤9223372036854775807 from by omega) e8 aK) ?_
 rintro _ kD ⟨fu,fw,fA,rfl,cz,aL⟩
 have cB:=cu _ _ cz
 have fB:=az aL
 have fC:=cB.rowC (i:=1) rfl
 refine D0 (bN (Ff (res0 rfl) ?_))
 have cK:=cB.px [] [4] []
 obtain⟨rfl,rfl⟩:=fT (hr.symm.trans (show _=(bY,a) from et (iN z) (et (iN B) (et (iN F) (et (ip G) (ah aK))))))
 exact⟨fu,fw,fA,rfl,cK,aL⟩
 refine jF (dF G) (sr (Kz (.bool (decide (b.aM=9))) (An rfl ?_)))
 by_cases y:b.aM=9
 refine jT (dT y) ?_
 have cO:=u.pf [4]
 obtain⟨fZ,gm,gp,gq,gu,gy,gz,gB,gD,gF,gG,gI,gJ,gK,gL,gN,gP,gQ,gT,gU,gV,gW,gX,gY,gZ,ib,M,N,O,P,Q,R,S,T,fD,cZ⟩:=jJ cO
 refine oF 22 [22] (bP.block Fp) cZ ?_
 intro ic ae
 refine qv 0 rfl rfl (qp U 0 1 rfl (qp U 0 2 rfl (ql 3 rfl 19 N7 rfl rfl rfl (qp W 1 4 rfl (ql 5 rfl 18 C6 rfl rfl rfl (qv 6 rfl rfl (qp U 0 7 rfl (qp U 0 8 rfl (ql 9 rfl 19 N7 rfl rfl rfl (qp W 1 10 rfl (ql 11 rfl 18 C6 rfl rfl rfl (qp d 0 12 rfl (qp d 29 13 rfl ?_)))))))))))))
 by_cases ag:b.aP=1
 refine qt (v:=vP d 30) 14 rfl (fun _ _=>by rw [show b.aP=1 from by omega]; exact yk) (ql 15 rfl 0 E1 rfl rfl rfl (qp W 10 16 rfl (ql 17 rfl 18 E1 rfl rfl rfl (qt (v:=vU (max a.cu b.bi)) 18 rfl (fun _ _=>EQ (e:=if((b.bi:Nat):Int) > ((a.cu:Nat):Int) then((b.bi:Nat):Int) else((a.cu:Nat):Int)) yk e6) (qp d 0 19 rfl (qp d 29 20 rfl (qt (v:=vP d 30) 21 rfl (fun _ _=>by rw [show b.aP=1 from by omega]; exact yk) ?_)))))))
 refine qe 22 rfl (Do.store (vs:= [vU (max a.cu b.bi)]) (o:=30) ae rfl rfl M1 rfl rfl rfl rfl ?_)
 intro ig df
 refine⟨.inl e7, ?_⟩
 refine qn (bN (Ff (res0 rfl) ?_))
 have dh:=fo M N O P Q R S T df
 have di:=dh.px [] [1] [0]
 obtain⟨rfl,rfl⟩:=fT (hr.symm.trans (show _=(I,(aB.mk a.aa a.bH (E4 a.aA.ls) a.aQ a.aO a.aL a.aN a.aK a.df (max a.cu b.bi) a.cz a.cB a.cK)) from et (iN z) (et (iN B) (et (iN F) (et (iN G) (et (ip y) (ip ag)))))))
 exact⟨r,s,p,rfl,di,n⟩
 by_cases au:b.aP=2
 refine qt (v:=vP d 31) 14 rfl (fun _ _=>by rw [show b.aP=2 from by omega]; exact yk) (ql 15 rfl 0 E1 rfl rfl rfl (qp W 10 16 rfl (ql 17 rfl 18 E1 rfl rfl rfl (qt (v:=vU (max a.cz b.bi)) 18 rfl (fun _ _=>EQ (e:=if((b.bi:Nat):Int) > ((a.cz:Nat):Int) then((b.bi:Nat):Int) else((a.cz:Nat):Int)) yk e6) (qp d 0 19 rfl (qp d 29 20 rfl (qt (v:=vP d 31) 21 rfl (fun _ _=>by rw [show b.aP=2 from by omega]; exact yk) ?_)))))))
 refine qe 22 rfl (Do.store (vs:= [vU (max a.cz b.bi)]) (o:=31) ae rfl rfl M1 rfl rfl rfl rfl ?_)
 intro ik dm
 refine⟨.inl e7, ?_⟩
 refine qn (bN (Ff (res0 rfl) ?_))
 have dn:=fo M N O P Q R S T dm
 have dw:=dn.px [] [1] [0]
 obtain⟨rfl,rfl⟩:=fT (hr.symm.trans (show _=(I,(aB.mk a.aa a.bH (E4 a.aA.ls) a.aQ a.aO a.aL a.aN a.aK a.df a.cu (max a.cz b.bi) a.cB a.cK)) from et (iN z) (et (iN B) (et (iN F) (et (iN G) (et (ip y) (et (iN ag) (ip au))))))))
 exact⟨r,s,p,rfl,dw,n⟩
 by_cases aM:b.aP=3
 refine qt (v:=vP d 32) 14 rfl (fun _ _=>by rw [show b.aP=3 from by omega]; exact yk) (ql 15 rfl 0 E1 rfl rfl rfl (qp W 10 16 rfl (ql 17 rfl 18 E1 rfl rfl rfl (qt (v:=vU (max a.cB b.bi)) 18 rfl (fun _ _=>EQ (e:=if((b.bi:Nat):Int) > ((a.cB:Nat):Int) then((b.bi:Nat):Int) else((a.cB:Nat):Int)) yk e6) (qp d 0 19 rfl (qp d 29 20 rfl (qt (v:=vP d 32) 21 rfl (fun _ _=>by rw [show b.aP=3 from by omega]; exact yk) ?_)))))))
 refine qe 22 rfl (Do.store (vs:= [vU (max a.cB b.bi)]) (o:=32) ae rfl rfl M1 rfl rfl rfl rfl ?_)
 intro il dx
 refine⟨.inl e7, ?_⟩
 refine qn (bN (Ff (res0 rfl) ?_))
 have dz:=fo M N O P Q R S T dx
 have dA:=dz.px [] [1] [0]
 obtain⟨rfl,rfl⟩:=fT (hr.symm.trans (show _=(I,(aB.mk a.aa a.bH (E4 a.aA.ls) a.aQ a.aO a.aL a.aN a.aK a.df a.cu a.cz (max a.cB b.bi) a.cK)) from et (iN z) (et (iN B) (et (iN F) (et (iN G) (et (ip y) (et (iN ag) (et (iN au) (ip aM)))))))))
 exact⟨r,s,p,rfl,dA,n⟩
 refine qt (v:=vP d 33) 14 rfl (fun _ _=>by rw [show b.aP=4 from by omega]; exact yk) (ql 15 rfl 0 E1 rfl rfl rfl (qp W 10 16 rfl (ql 17 rfl 18 E1 rfl rfl rfl (qt (v:=vU (max a.cK b.bi)) 18 rfl (fun _ _=>EQ (e:=if((b.bi:Nat):Int) > ((a.cK:Nat):Int) then((b.bi:Nat):Int) else((a.cK:Nat):Int)) yk e6) (qp d 0 19 rfl (qp d 29 20 rfl (qt (v:=vP d 33) 21 rfl (fun _ _=>by rw [show b.aP=4 from by omega]; exact yk) ?_)))))))
 refine qe 22 rfl (Do.store (vs:= [vU (max a.cK b.bi)]) (o:=33) ae rfl rfl M1 rfl rfl rfl rfl ?_)
 intro iq dB
 refine⟨.inl e7, ?_⟩
 refine qn (bN (Ff (res0 rfl) ?_))
 have dC:=fo M N O P Q R S T dB
 have dD:=dC.px [] [1] [0]
 obtain⟨rfl,rfl⟩:=fT (hr.symm.trans (show _=(I,(aB.mk a.aa a.bH (E4 a.aA.ls) a.aQ a.aO a.aL a.aN a.aK a.df a.cu a.cz a.cB (max a.cK b.bi))) from et (iN z) (et (iN B) (et (iN F) (et (iN G) (et (ip y) (et (iN ag) (et (iN au) (iN aM)))))))))
 exact⟨r,s,p,rfl,dD,n⟩
 refine jF (dF y) (sr (Kz (.bool (decide (b.aM=13))) (An rfl ?_)))
 by_cases V:b.aM=13
 refine jT (dT V) (sr (Mz rfl (La (gM b j f l g m h) u 0 L9 M0 ?_)))
 refine WL.do rfl (Fe Tryz.call60 rfl ?_ (fun _ _ k=>k))
 refine cb Tryz.func60 ?_
 refine sr ?_
 refine dK (gM b j f l g m h) 42 u ?_
 intro iw iy dE
 refine An rfl (EP ?_)
 have dG:=dE.pf [5]
 obtain⟨iA,iB,iC,iD,iF,iG,iH,iI,iJ,iK,iL,iM,iO,iP,iQ,iR,iT,iU,iV,iW,iX,iY,iZ,ja,jb,jc,aQ,aR,aS,aT,aU,aV,aW,aX,fE,dH⟩:=jJ dG
 refine oF 23 [] (E9 Fp) dH ?_
 intro je dI
 refine qv 0 rfl rfl (qp U 0 1 rfl (qp U 0 2 rfl (ql 3 rfl 20 N7 rfl rfl rfl (qp d 0 4 rfl (qp d 34 5 rfl (ql 6 rfl 0 Tryz.isAgg84 rfl rfl rfl (qk (.bool false) 7 rfl (qv 8 rfl rfl (EW (rs:= []) 9 rfl rfl rfl rfl e7 (EW (rs:= []) 10 rfl rfl rfl rfl e7 (EW (rs:= []) 11 rfl rfl rfl rfl e7 (EW (rs:= []) 12 rfl rfl rfl rfl e7 (EW (rs:= []) 13 rfl rfl rfl rfl e7 (EW (rs:= []) 14 rfl rfl rfl rfl e7 (EW (rs:= []) 15 rfl rfl rfl rfl e7 (EW (rs:= []) 16 rfl rfl rfl rfl e7 (EW (rs:= []) 17 rfl rfl rfl rfl e7 (EW (rs:= []) 18 rfl rfl rfl rfl e7 (EW (rs:= []) 19 rfl rfl rfl rfl e7 (EW (rs:= []) 20 rfl rfl rfl rfl e7 (EW (rs:= []) 21 rfl rfl rfl rfl e7 (qt (v:= .bool false) 22 rfl (fun _ _=>ES rfl rfl rfl) (qv 23 rfl rfl (EW (rs:= []) 24 rfl rfl rfl rfl e7 (EW (rs:= []) 25 rfl rfl rfl rfl e7 (EW (rs:= []) 26 rfl rfl rfl rfl e7 (EW (rs:= []) 27 rfl rfl rfl rfl e7 (EW (rs:= []) 28 rfl rfl rfl rfl e7 (EW (rs:= []) 29 rfl rfl rfl rfl e7 (EW (rs:= []) 30 rfl rfl rfl rfl e7 (EW (rs:= []) 31 rfl rfl rfl rfl e7 (EW (rs:= []) 32 rfl rfl rfl rfl e7 (EW (rs:= []) 33 rfl rfl rfl rfl e7 (EW (rs:= []) 34 rfl rfl rfl rfl e7 (EW (rs:= []) 35 rfl rfl rfl rfl e7 (EW (rs:= []) 36 rfl rfl rfl rfl e7 (qt (v:= .bool false) 37 rfl (fun _ _=>ES rfl rfl rfl) (qa 38 rfl rfl (qn ?_)))))))))))))))))))))))))))))))))))))))
 refine ER (rt (rs (nt (jf (Fq (bN (Ff (res0 rfl) ?_)))))))
 have dJ:=fo aQ aR aS aT aU aV aW aX dI
 have dL:=dJ.pk [3,4,5,0]
 obtain⟨rfl,rfl⟩:=fT (hr.symm.trans (show _=(I,a) from et (iN z) (et (iN B) (et (iN F) (et (iN G) (et (iN y) (ip V)))))))
 exact⟨r,s,p,rfl,dL,n⟩
 refine jF (dF V) (sr (Kz (.bool (decide (b.aM=14))) (An rfl ?_)))
 by_cases ai:b.aM=14
 refine jT (dT ai) (EO (Mz rfl (La (gM b j f l g m h) u 0 L9 M0 ?_)))
 refine WL.do rfl (Fe Tryz.call61 rfl ?_ (fun _ _ k=>k))
 refine cb Tryz.func61 ?_
 refine sr ?_
 refine dK [vP U 0] 94 u ?_
 intro jg jh dM
 refine dK (gM b j f l g m h) 42 dM ?_
 intro ji jk av
 refine nt (EP (sr (Lz (vP U 0) av 1 Tryz.isAgg94 (La (gM b j f l g m h) av 0 L9 M0 ?_))))
 refine WL.do rfl (Fe Tryz.call60 rfl ?_ (fun _ _ k=>k))
 refine cb Tryz.func60 ?_
 refine sr ?_
 refine dK (gM b j f l g m h) 42 av ?_
 intro jl jm dN
 refine An rfl (EP ?_)
 have dO:=dN.pf [7]
 obtain⟨jo,jq,jr,jv,jw,jA,jB,jC,jD,jE,jG,jH,jI,jK,jL,jM,jN,jO,jP,jQ,jR,jS,jU,jV,jW,jX,aY,aZ,bf,bg,bi,bn,bq,bu,fF,dP⟩:=jJ dO
 refine oF 25 [] (E9 Fp) dP ?_
 intro jY dQ
 refine qv 0 rfl rfl (qp U 0 1 rfl (qp U 0 2 rfl (ql 3 rfl 22 N7 rfl rfl rfl (qp d 0 4 rfl (qp d 34 5 rfl (ql 6 rfl 0 Tryz.isAgg84 rfl rfl rfl (qk (.bool false) 7 rfl (qv 8 rfl rfl (EW (rs:= []) 9 rfl rfl rfl rfl e7 (EW (rs:= []) 10 rfl rfl rfl rfl e7 (EW (rs:= []) 11 rfl rfl rfl rfl e7 (EW (rs:= []) 12 rfl rfl rfl rfl e7 (EW (rs:= []) 13 rfl rfl rfl rfl e7 (EW (rs:= []) 14 rfl rfl rfl rfl e7 (EW (rs:= []) 15 rfl rfl rfl rfl e7 (EW (rs:= []) 16 rfl rfl rfl rfl e7 (EW (rs:= []) 17 rfl rfl rfl rfl e7 (EW (rs:= []) 18 rfl rfl rfl rfl e7 (EW (rs:= []) 19 rfl rfl rfl rfl e7 (EW (rs:= []) 20 rfl rfl rfl rfl e7 (EW (rs:= []) 21 rfl rfl rfl rfl e7 (qt (v:= .bool false) 22 rfl (fun _ _=>ES rfl rfl rfl) (qv 23 rfl rfl (EW (rs:= []) 24 rfl rfl rfl rfl e7 (EW (rs:= []) 25 rfl rfl rfl rfl e7 (EW (rs:= []) 26 rfl rfl rfl rfl e7 (EW (rs:= []) 27 rfl rfl rfl rfl e7 (EW (rs:= []) 28 rfl rfl rfl rfl e7 (EW (rs:= []) 29 rfl rfl rfl rfl e7 (EW (rs:= []) 30 rfl rfl rfl rfl e7 (EW (rs:= []) 31 rfl rfl rfl rfl e7 (EW (rs:= []) 32 rfl rfl rfl rfl e7 (EW (rs:= []) 33 rfl rfl rfl rfl e7 (EW (rs:= []) 34 rfl rfl rfl rfl e7 (EW (rs:= []) 35 rfl rfl rfl rfl e7 (EW (rs:= []) 36 rfl rfl rfl rfl e7 (qt (v:= .bool false) 37 rfl (fun _ _=>ES rfl rfl rfl) (qa 38 rfl rfl (qn ?_)))))))))))))))))))))))))))))))))))))))
 refine ER (rt (rs (Kz (.bool true) (nt (jt (rt (tR (Fin.res (res0 rfl) (D0 (bN (Ff (res0 rfl) ?_)))))))))))
 have dR:=fo aY aZ bf bg bi bn bq bu dQ
 have dU:=dR.pk [5,6,7,0]
 obtain⟨rfl,rfl⟩:=fT (hr.symm.trans (show _=(I,a) from et (iN z) (et (iN B) (et (iN F) (et (iN G) (et (iN y) (et (iN V) (ip ai))))))))
 exact⟨r,s,p,rfl,dU,n⟩
 refine jF (dF ai) (Fq (bN (Ff (res0 rfl) ?_)))
 have dV:=u.px [] [0] []
 obtain⟨rfl,rfl⟩:=fT (hr.symm.trans (show _=(I,a) from et (iN z) (et (iN B) (et (iN F) (et (iN G) (et (iN y) (et (iN V) (iN ai))))))))
 exact⟨r,s,p,rfl,dV,n⟩
end Go.Proofs.YtbkagebjhbphaaaGreat
