/-
 coord: a message taken.
-/
import Derived.Test.YtbkagebjhbphaaaGreatCt
namespace Go.Proofs.YtbkagebjhbphaaaGreat
open List renaming flatMap→q4
open Ll renaming mk→E0
open _root_.Go.Proofs.Tryz renaming isAgg24→P6,isAgg28→D2,isAgg3→C2,isAgg42→N8,sizeOf28→O0,sizeOf42→N9
open WL renaming nil→C4
set_option maxRecDepth 100000
open Go.RowKit
set_option linter.unusedVariables false
set_option linter.unusedSectionVars false
set_option linter.unusedSimpArgs false
def kL (c:bU) (b:bW) (a:aD):bU × aD:=
 if b.av=1 then bnd (iU c b a) fun d=>(d.1,d.2) else if b.av=4 then bnd (lq c b a) fun e=>(e.1,e.2) else if b.av=6 then bnd (lT c b a) fun f=>(f.1,f.2) else if b.av=7 then bnd (mP c b a) fun g=>(g,a) else if b.av=9 then if b.aI=1 then(c,(aD.mk a.aa a.bT (E0 a.aC.ls) a.bM a.bD a.bA a.bC a.bB a.dO (max a.dG b.bG) a.dH a.dD a.dE)) else if b.aI=2 then(c,(aD.mk a.aa a.bT (E0 a.aC.ls) a.bM a.bD a.bA a.bC a.bB a.dO a.dG (max a.dH b.bG) a.dD a.dE)) else if b.aI=3 then(c,(aD.mk a.aa a.bT (E0 a.aC.ls) a.bM a.bD a.bA a.bC a.bB a.dO a.dG a.dH (max a.dD b.bG) a.dE)) else(c,(aD.mk a.aa a.bT (E0 a.aC.ls) a.bM a.bD a.bA a.bC a.bB a.dO a.dG a.dH a.dD (max a.dE b.bG))) else if b.av=13 then(c,a) else if b.av=14 then(c,a) else(c,a)
set_option maxHeartbeats 4000000 in
theorem rR (w D U) (I:bU) (r s p) (b:bW) (j aB f l aC g C m aF h d) (a:aD) (r0:bU) (r1:aD) (H:Own w D w [blk U [.pointer (some ⟨d,0,none⟩), .slice r I.bF.ls.length s] 98,row r I.bF.ls.length s (q4 bz.cells p) 42 21,sepL (q4 bz.own p),jZ d a]) (n:List.map bz.abs p=I.bF.ls) (aS:aB=b.aB.ls.length) (J:Ro w D fun w'=>aY w' 6 j b.aB.ls.length (q4 aN.cells b.aB.ls)) (ek:b.aB.ls.length≤f∧b.aB.ls.length≤9223372036854775807) (E:List.map af.abs C=b.ah.ls) (aT:aC=b.ah.ls.length) (K:Ro w D fun w'=>aY w' 3 l b.ah.ls.length (q4 af.cells C)) (eu:b.ah.ls.length≤g∧b.ah.ls.length≤9223372036854775807) (t:∀ x ∈ C,Ro w D (fun w'=>aY w' 2 x.aj.A x.aj.ls.length (q4 aH.cells x.aj.ls))∧(x.aj.ls.length≤x.aj.c∧x.aj.ls.length≤9223372036854775807)) (aU:aF=b.ag.ls.length) (L:Ro w D fun w'=>aY w' 2 m b.ag.ls.length (q4 aM.cells b.ag.ls)) (eB:b.ag.ls.length≤h∧b.ag.ls.length≤9223372036854775807) (j4:a.aa.ag.ls.length≤1000∧a.aa.ak.ls.length≤1000∧a.aa.aK.ls.length≤1000∧a.aC.ls.length≤1000∧I.bF.ls.length≤100000) (j5:Mk a) (j6:b.aB.ls.length≤24∧b.ag.ls.length≤1000∧b.ah.ls.length≤1000∧jR b.aU) (kg:mV b.ah.ls) (ko:(¬ (b.av=1)∨11≤b.aI∧b.aI≤14)∧(¬ (b.av=9)∨1≤b.aI∧b.aI≤4)) (hr:kL I b a=(r0,r1)):
    Calls Tryz.prog 24 #[vP U 0, .agg (iA b.av b.aI b.eO b.aP b.dK b.fA b.aU b.ax b.aX b.eQ b.bG b.aF b.eG b.cZ b.xN b.fe b.cu.aJ b.cu.aR j aB f l aC g m aF h).toArray] w (dA fun v w'=> ∃ ak au W,v= .tuple #[]∧Own w D w' [blk U [vP d 0, .slice ak r0.bF.ls.length au] 98,row ak r0.bF.ls.length au (q4 bz.cells W) 42 21,sepL (q4 bz.own W),jZ d r1]∧(List.map bz.abs W=r0.bF.ls)):=by
 subst aS aT aU
 have d9:=aA n
 have ed:=aA E
 have eD:=H.rowC (i:=1) rfl
 refine cb Tryz.func24 ?_
 refine sr ?_
 refine dn (gK b j f l g m h) 42 H ?_
 intro X kr u
 refine ns (Kz (vP X 0) (Lz (vI b.av) u 0 C2 (nt (bo (sr (Kz (.bool (decide (b.av=1))) (An rfl ?_)))))))
 by_cases z:b.av=1
 refine jT (dT z) (Il (Mz rfl (La (gK b j f l g m h) u 0 N8 N9 ?_)))
 have eF:=u.pb [0]
 obtain⟨⟨bG,bH⟩,aG⟩:∃ q:bU × aD,iU I b a=q:=⟨_,rfl⟩
 obtain⟨ku,bI,Y,bJ,fK⟩:=Jf eF
 refine cl Tryz.call56 (uI _ _ U I r s p b j b.aB.ls.length f l b.ah.ls.length g C m b.ag.ls.length h d a bG bH bI n rfl (Y _ J) (show b.aB.ls.length≤f∧b.aB.ls.length≤9223372036854775807 from by omega) E rfl (Y _ K) (show b.ah.ls.length≤g∧b.ah.ls.length≤9223372036854775807 from by omega) (fun x9 h9=>⟨Y _ (t x9 h9).1,(t x9 h9).2⟩) rfl (Y _ L) (show b.ag.ls.length≤h∧b.ag.ls.length≤9223372036854775807 from by omega) e8 f5 l2 e8 e8 aG) ?_
 rintro _ kv ⟨eG,eH,eO,rfl,bK,aI⟩
 have bL:=bJ _ _ bK
 have fM:=aA aI
 have fO:=bL.rowC (i:=1) rfl
 refine C4 (bN (IL (res0 rfl) ?_))
 have eP:=bL.px [] [4] []
 obtain⟨rfl,rfl⟩:=fD (hr.symm.trans (show _=(bG,bH) from et (ip z) (ae aG)))
 exact⟨eG,eH,eO,rfl,eP,aI⟩
 refine jF (dF z) (sr (Kz (.bool (decide (b.av=4))) (An rfl ?_)))
 by_cases B:b.av=4
 refine jT (dT B) (Il (Mz rfl (La (gK b j f l g m h) u 0 N8 N9 ?_)))
 have eQ:=u.pb [0]
 obtain⟨⟨bM,bO⟩,aJ⟩:∃ q:bU × aD,lq I b a=q:=⟨_,rfl⟩
 obtain⟨kw,bP,Z,bQ,fP⟩:=Jf eQ
 refine cl Tryz.call57 (wm _ _ U I r s p b j b.aB.ls.length f l b.ah.ls.length g C m b.ag.ls.length h d a bM bO bP n rfl (Z _ J) (show b.aB.ls.length≤f∧b.aB.ls.length≤9223372036854775807 from by omega) E rfl (Z _ K) (show b.ah.ls.length≤g∧b.ah.ls.length≤9223372036854775807 from by omega) (fun x9 h9=>⟨Z _ (t x9 h9).1,(t x9 h9).2⟩) rfl (Z _ L) (show b.ag.ls.length≤h∧b.ag.ls.length≤9223372036854775807 from by omega) e8 g5 e8 f5 aJ) ?_
 rintro _ ky ⟨eT,eU,eX,rfl,bR,aK⟩
 have bS:=bQ _ _ bR
 have fQ:=aA aK
 have fT:=bS.rowC (i:=1) rfl
 refine C4 (bN (IL (res0 rfl) ?_))
 have eY:=bS.px [] [4] []
 obtain⟨rfl,rfl⟩:=fD (hr.symm.trans (show _=(bM,bO) from et (iN z) (et (ip B) (ae aJ))))
 exact⟨eT,eU,eX,rfl,eY,aK⟩
 refine jF (dF B) (sr (Kz (.bool (decide (b.av=6))) (An rfl ?_)))
 by_cases F:b.av=6
 refine jT (dT F) (Il (Mz rfl (La (gK b j f l g m h) u 0 N8 N9 ?_)))
 have eZ:=u.pb [0]
 obtain⟨⟨bT,bV⟩,aL⟩:∃ q:bU × aD,lT I b a=q:=⟨_,rfl⟩
 obtain⟨kz,bX,aa,bY,fU⟩:=Jf eZ
 refine cl Tryz.call58 (wO _ _ U I r s p b j b.aB.ls.length f l b.ah.ls.length g C m b.ag.ls.length h d a bT bV bX n rfl (aa _ J) (show b.aB.ls.length≤f∧b.aB.ls.length≤9223372036854775807 from by omega) E rfl (aa _ K) (show b.ah.ls.length≤g∧b.ah.ls.length≤9223372036854775807 from by omega) (fun x9 h9=>⟨aa _ (t x9 h9).1,(t x9 h9).2⟩) rfl (aa _ L) (show b.ag.ls.length≤h∧b.ag.ls.length≤9223372036854775807 from by omega) e8 j9 aL) ?_
 rintro _ kC ⟨fe,fo,fq,rfl,bZ,aO⟩
 have cu:=bY _ _ bZ
 have fV:=aA aO
 have fZ:=cu.rowC (i:=1) rfl
 refine C4 (bN (IL (res0 rfl) ?_))
 have fu:=cu.px [] [4] []
 obtain⟨rfl,rfl⟩:=fD (hr.symm.trans (show _=(bT,bV) from et (iN z) (et (iN B) (et (ip F) (ae aL)))))
 exact⟨fe,fo,fq,rfl,fu,aO⟩
 refine jF (dF F) (sr (Kz (.bool (decide (b.av=7))) (An rfl ?_)))
 by_cases G:b.av=7
 refine jT (dT G) (Il (Mz rfl (La (gK b j f l g m h) u 0 N8 N9 ?_)))
 have fw:=u.pb [0]
 obtain⟨cz,aP⟩:∃ q,mP I b a=q:=⟨_,rfl⟩
 obtain⟨kD,cB,ag,cK,gm⟩:=Jf fw
 refine cl Tryz.call59 (wP _ _ U I r s p b j b.aB.ls.length f l b.ah.ls.length g C m b.ag.ls.length h d a cz cB n rfl (ag _ J) (show b.aB.ls.length≤f∧b.aB.ls.length≤9223372036854775807 from by omega) E rfl (ag _ K) (show b.ah.ls.length≤g∧b.ah.ls.length≤9223372036854775807 from by omega) (fun x9 h9=>⟨ag _ (t x9 h9).1,(t x9 h9).2⟩) rfl (ag _ L) (show b.ag.ls.length≤h∧b.ag.ls.length≤9223372036854775807 from by omega) e8 aP) ?_
 rintro _ kE ⟨fA,fB,fC,rfl,cO,aQ⟩
 have cZ:=cK _ _ cO
 have fE:=aA aQ
 have fF:=cZ.rowC (i:=1) rfl
 refine C4 (bN (IL (res0 rfl) ?_))
 have df:=cZ.px [] [4] []
 obtain⟨rfl,rfl⟩:=fD (hr.symm.trans (show _=(cz,a) from et (iN z) (et (iN B) (et (iN F) (et (ip G) (ae aP))))))
 exact⟨fA,fB,fC,rfl,df,aQ⟩
 refine jF (dF G) (sr (Kz (.bool (decide (b.av=9))) (An rfl ?_)))
 by_cases y:b.av=9
 refine jT (dT y) ?_
 have dh:=u.pf [4]
 obtain⟨gp,gq,gu,gy,gz,gB,gD,gF,gG,gH,gI,gJ,gL,gM,gN,gP,gQ,gT,gU,gV,gW,gX,gY,gZ,ib,ic,M,N,O,P,Q,R,S,T,fG,di⟩:=lY dh
 refine oV 22 [22] (bv.block IQ) di ?_
 intro ig ah
 refine qv 0 rfl rfl (qp U 0 1 rfl (qp U 0 2 rfl (ql 3 rfl 19 P6 rfl rfl rfl (qp X 1 4 rfl (ql 5 rfl 18 C2 rfl rfl rfl (qv 6 rfl rfl (qp U 0 7 rfl (qp U 0 8 rfl (ql 9 rfl 19 P6 rfl rfl rfl (qp X 1 10 rfl (ql 11 rfl 18 C2 rfl rfl rfl (qp d 0 12 rfl (qp d 29 13 rfl ?_)))))))))))))
 by_cases ai:b.aI=1
 refine qt (v:=vP d 30) 14 rfl (fun _ _=>by rw [show b.aI=1 from by omega]; exact yk) (ql 15 rfl 0 D2 rfl rfl rfl (qp X 10 16 rfl (ql 17 rfl 18 D2 rfl rfl rfl (qt (v:=vU (max a.dG b.bG)) 18 rfl (fun _ _=>Ir (e:=if((b.bG:Nat):Int) > ((a.dG:Nat):Int) then((b.bG:Nat):Int) else((a.dG:Nat):Int)) yk e6) (qp d 0 19 rfl (qp d 29 20 rfl (qt (v:=vP d 30) 21 rfl (fun _ _=>by rw [show b.aI=1 from by omega]; exact yk) ?_)))))))
 refine qe 22 rfl (Do.store (vs:= [vU (max a.dG b.bG)]) (o:=30) ah rfl rfl O0 rfl rfl rfl rfl ?_)
 intro ik dm
 refine⟨.inl e7, ?_⟩
 refine qn (bN (IL (res0 rfl) ?_))
 have dw:=iK M N O P Q R S T dm
 have dx:=dw.px [] [1] [0]
 obtain⟨rfl,rfl⟩:=fD (hr.symm.trans (show _=(I,(aD.mk a.aa a.bT (E0 a.aC.ls) a.bM a.bD a.bA a.bC a.bB a.dO (max a.dG b.bG) a.dH a.dD a.dE)) from et (iN z) (et (iN B) (et (iN F) (et (iN G) (et (ip y) (ip ai)))))))
 exact⟨r,s,p,rfl,dx,n⟩
 by_cases ay:b.aI=2
 refine qt (v:=vP d 31) 14 rfl (fun _ _=>by rw [show b.aI=2 from by omega]; exact yk) (ql 15 rfl 0 D2 rfl rfl rfl (qp X 10 16 rfl (ql 17 rfl 18 D2 rfl rfl rfl (qt (v:=vU (max a.dH b.bG)) 18 rfl (fun _ _=>Ir (e:=if((b.bG:Nat):Int) > ((a.dH:Nat):Int) then((b.bG:Nat):Int) else((a.dH:Nat):Int)) yk e6) (qp d 0 19 rfl (qp d 29 20 rfl (qt (v:=vP d 31) 21 rfl (fun _ _=>by rw [show b.aI=2 from by omega]; exact yk) ?_)))))))
 refine qe 22 rfl (Do.store (vs:= [vU (max a.dH b.bG)]) (o:=31) ah rfl rfl O0 rfl rfl rfl rfl ?_)
 intro il dz
 refine⟨.inl e7, ?_⟩
 refine qn (bN (IL (res0 rfl) ?_))
 have dB:=iK M N O P Q R S T dz
 have dC:=dB.px [] [1] [0]
 obtain⟨rfl,rfl⟩:=fD (hr.symm.trans (show _=(I,(aD.mk a.aa a.bT (E0 a.aC.ls) a.bM a.bD a.bA a.bC a.bB a.dO a.dG (max a.dH b.bG) a.dD a.dE)) from et (iN z) (et (iN B) (et (iN F) (et (iN G) (et (ip y) (et (iN ai) (ip ay))))))))
 exact⟨r,s,p,rfl,dC,n⟩
 by_cases aR:b.aI=3
 refine qt (v:=vP d 32) 14 rfl (fun _ _=>by rw [show b.aI=3 from by omega]; exact yk) (ql 15 rfl 0 D2 rfl rfl rfl (qp X 10 16 rfl (ql 17 rfl 18 D2 rfl rfl rfl (qt (v:=vU (max a.dD b.bG)) 18 rfl (fun _ _=>Ir (e:=if((b.bG:Nat):Int) > ((a.dD:Nat):Int) then((b.bG:Nat):Int) else((a.dD:Nat):Int)) yk e6) (qp d 0 19 rfl (qp d 29 20 rfl (qt (v:=vP d 32) 21 rfl (fun _ _=>by rw [show b.aI=3 from by omega]; exact yk) ?_)))))))
 refine qe 22 rfl (Do.store (vs:= [vU (max a.dD b.bG)]) (o:=32) ah rfl rfl O0 rfl rfl rfl rfl ?_)
 intro iq dD
 refine⟨.inl e7, ?_⟩
 refine qn (bN (IL (res0 rfl) ?_))
 have dE:=iK M N O P Q R S T dD
 have dG:=dE.px [] [1] [0]
 obtain⟨rfl,rfl⟩:=fD (hr.symm.trans (show _=(I,(aD.mk a.aa a.bT (E0 a.aC.ls) a.bM a.bD a.bA a.bC a.bB a.dO a.dG a.dH (max a.dD b.bG) a.dE)) from et (iN z) (et (iN B) (et (iN F) (et (iN G) (et (ip y) (et (iN ai) (et (iN ay) (ip aR)))))))))
 exact⟨r,s,p,rfl,dG,n⟩
 refine qt (v:=vP d 33) 14 rfl (fun _ _=>by rw [show b.aI=4 from by omega]; exact yk) (ql 15 rfl 0 D2 rfl rfl rfl (qp X 10 16 rfl (ql 17 rfl 18 D2 rfl rfl rfl (qt (v:=vU (max a.dE b.bG)) 18 rfl (fun _ _=>Ir (e:=if((b.bG:Nat):Int) > ((a.dE:Nat):Int) then((b.bG:Nat):Int) else((a.dE:Nat):Int)) yk e6) (qp d 0 19 rfl (qp d 29 20 rfl (qt (v:=vP d 33) 21 rfl (fun _ _=>by rw [show b.aI=4 from by omega]; exact yk) ?_)))))))
 refine qe 22 rfl (Do.store (vs:= [vU (max a.dE b.bG)]) (o:=33) ah rfl rfl O0 rfl rfl rfl rfl ?_)
 intro iw dH
 refine⟨.inl e7, ?_⟩
 refine qn (bN (IL (res0 rfl) ?_))
 have dI:=iK M N O P Q R S T dH
 have dJ:=dI.px [] [1] [0]
 obtain⟨rfl,rfl⟩:=fD (hr.symm.trans (show _=(I,(aD.mk a.aa a.bT (E0 a.aC.ls) a.bM a.bD a.bA a.bC a.bB a.dO a.dG a.dH a.dD (max a.dE b.bG))) from et (iN z) (et (iN B) (et (iN F) (et (iN G) (et (ip y) (et (iN ai) (et (iN ay) (iN aR)))))))))
 exact⟨r,s,p,rfl,dJ,n⟩
 refine jF (dF y) (sr (Kz (.bool (decide (b.av=13))) (An rfl ?_)))
 by_cases V:b.av=13
 refine jT (dT V) (sr (Mz rfl (La (gK b j f l g m h) u 0 N8 N9 ?_)))
 refine WL.do rfl (IP Tryz.call60 rfl ?_ (fun _ _ k=>k))
 refine cb Tryz.func60 ?_
 refine sr ?_
 refine dn (gK b j f l g m h) 42 u ?_
 intro iy iB dK
 refine An rfl (Ik ?_)
 have dL:=dK.pf [5]
 obtain⟨iC,iD,iE,iF,iG,iH,iI,iJ,iL,iM,iO,iP,iQ,iR,iT,iV,iW,iX,iY,iZ,ja,jb,jc,jd,je,jg,aV,aW,aX,aZ,bf,bg,bi,bn,fH,dM⟩:=lY dL
 refine oV 23 [] (IE IQ) dM ?_
 intro jh dN
 refine qv 0 rfl rfl (qp U 0 1 rfl (qp U 0 2 rfl (ql 3 rfl 20 P6 rfl rfl rfl (qp d 0 4 rfl (qp d 34 5 rfl (ql 6 rfl 0 Tryz.isAgg84 rfl rfl rfl (qk (.bool false) 7 rfl (qv 8 rfl rfl (Ip (rs:= []) 9 rfl rfl rfl rfl e7 (Ip (rs:= []) 10 rfl rfl rfl rfl e7 (Ip (rs:= []) 11 rfl rfl rfl rfl e7 (Ip (rs:= []) 12 rfl rfl rfl rfl e7 (Ip (rs:= []) 13 rfl rfl rfl rfl e7 (Ip (rs:= []) 14 rfl rfl rfl rfl e7 (Ip (rs:= []) 15 rfl rfl rfl rfl e7 (Ip (rs:= []) 16 rfl rfl rfl rfl e7 (Ip (rs:= []) 17 rfl rfl rfl rfl e7 (Ip (rs:= []) 18 rfl rfl rfl rfl e7 (Ip (rs:= []) 19 rfl rfl rfl rfl e7 (Ip (rs:= []) 20 rfl rfl rfl rfl e7 (Ip (rs:= []) 21 rfl rfl rfl rfl e7 (qt (v:= .bool false) 22 rfl (fun _ _=>Io rfl rfl rfl) (qv 23 rfl rfl (Ip (rs:= []) 24 rfl rfl rfl rfl e7 (Ip (rs:= []) 25 rfl rfl rfl rfl e7 (Ip (rs:= []) 26 rfl rfl rfl rfl e7 (Ip (rs:= []) 27 rfl rfl rfl rfl e7 (Ip (rs:= []) 28 rfl rfl rfl rfl e7 (Ip (rs:= []) 29 rfl rfl rfl rfl e7 (Ip (rs:= []) 30 rfl rfl rfl rfl e7 (Ip (rs:= []) 31 rfl rfl rfl rfl e7 (Ip (rs:= []) 32 rfl rfl rfl rfl e7 (Ip (rs:= []) 33 rfl rfl rfl rfl e7 (Ip (rs:= []) 34 rfl rfl rfl rfl e7 (Ip (rs:= []) 35 rfl rfl rfl rfl e7 (Ip (rs:= []) 36 rfl rfl rfl rfl e7 (qt (v:= .bool false) 37 rfl (fun _ _=>Io rfl rfl rfl) (qa 38 rfl rfl (qn ?_)))))))))))))))))))))))))))))))))))))))
 refine Iq (rt (rs (nt (jf (IU (bN (IL (res0 rfl) ?_)))))))
 have dO:=iK aV aW aX aZ bf bg bi bn dN
 have dP:=dO.pk [3,4,5,0]
 obtain⟨rfl,rfl⟩:=fD (hr.symm.trans (show _=(I,a) from et (iN z) (et (iN B) (et (iN F) (et (iN G) (et (iN y) (ip V)))))))
 exact⟨r,s,p,rfl,dP,n⟩
 refine jF (dF V) (sr (Kz (.bool (decide (b.av=14))) (An rfl ?_)))
 by_cases aj:b.av=14
 refine jT (dT aj) (Il (Mz rfl (La (gK b j f l g m h) u 0 N8 N9 ?_)))
 refine WL.do rfl (IP Tryz.call61 rfl ?_ (fun _ _ k=>k))
 refine cb Tryz.func61 ?_
 refine sr ?_
 refine dn [vP U 0] 94 u ?_
 intro ji jk dQ
 refine dn (gK b j f l g m h) 42 dQ ?_
 intro jl jm az
 refine nt (Ik (sr (Lz (vP U 0) az 1 Tryz.isAgg94 (La (gK b j f l g m h) az 0 N8 N9 ?_))))
 refine WL.do rfl (IP Tryz.call60 rfl ?_ (fun _ _ k=>k))
 refine cb Tryz.func60 ?_
 refine sr ?_
 refine dn (gK b j f l g m h) 42 az ?_
 intro jo jq dR
 refine An rfl (Ik ?_)
 have dS:=dR.pf [7]
 obtain⟨jr,jv,jw,jy,jA,jB,jC,jD,jE,jG,jH,jI,jJ,jK,jL,jM,jN,jO,jP,jQ,jS,jU,jV,jW,jX,jY,bq,bu,bA,bB,bC,bD,bE,bF,fI,dU⟩:=lY dS
 refine oV 25 [] (IE IQ) dU ?_
 intro j3 dV
 refine qv 0 rfl rfl (qp U 0 1 rfl (qp U 0 2 rfl (ql 3 rfl 22 P6 rfl rfl rfl (qp d 0 4 rfl (qp d 34 5 rfl (ql 6 rfl 0 Tryz.isAgg84 rfl rfl rfl (qk (.bool false) 7 rfl (qv 8 rfl rfl (Ip (rs:= []) 9 rfl rfl rfl rfl e7 (Ip (rs:= []) 10 rfl rfl rfl rfl e7 (Ip (rs:= []) 11 rfl rfl rfl rfl e7 (Ip (rs:= []) 12 rfl rfl rfl rfl e7 (Ip (rs:= []) 13 rfl rfl rfl rfl e7 (Ip (rs:= []) 14 rfl rfl rfl rfl e7 (Ip (rs:= []) 15 rfl rfl rfl rfl e7 (Ip (rs:= []) 16 rfl rfl rfl rfl e7 (Ip (rs:= []) 17 rfl rfl rfl rfl e7 (Ip (rs:= []) 18 rfl rfl rfl rfl e7 (Ip (rs:= []) 19 rfl rfl rfl rfl e7 (Ip (rs:= []) 20 rfl rfl rfl rfl e7 (Ip (rs:= []) 21 rfl rfl rfl rfl e7 (qt (v:= .bool false) 22 rfl (fun _ _=>Io rfl rfl rfl) (qv 23 rfl rfl (Ip (rs:= []) 24 rfl rfl rfl rfl e7 (Ip (rs:= []) 25 rfl rfl rfl rfl e7 (Ip (rs:= []) 26 rfl rfl rfl rfl e7 (Ip (rs:= []) 27 rfl rfl rfl rfl e7 (Ip (rs:= []) 28 rfl rfl rfl rfl e7 (Ip (rs:= []) 29 rfl rfl rfl rfl e7 (Ip (rs:= []) 30 rfl rfl rfl rfl e7 (Ip (rs:= []) 31 rfl rfl rfl rfl e7 (Ip (rs:= []) 32 rfl rfl rfl rfl e7 (Ip (rs:= []) 33 rfl rfl rfl rfl e7 (Ip (rs:= []) 34 rfl rfl rfl rfl e7 (Ip (rs:= []) 35 rfl rfl rfl rfl e7 (Ip (rs:= []) 36 rfl rfl rfl rfl e7 (qt (v:= .bool false) 37 rfl (fun _ _=>Io rfl rfl rfl) (qa 38 rfl rfl (qn ?_)))))))))))))))))))))))))))))))))))))))
 refine Iq (rt (rs (Kz (.bool true) (nt (jt (rt (tR (Fin.res (res0 rfl) (C4 (bN (IL (res0 rfl) ?_)))))))))))
 have dW:=iK bq bu bA bB bC bD bE bF dV
 have dX:=dW.pk [5,6,7,0]
 obtain⟨rfl,rfl⟩:=fD (hr.symm.trans (show _=(I,a) from et (iN z) (et (iN B) (et (iN F) (et (iN G) (et (iN y) (et (iN V) (ip aj))))))))
 exact⟨r,s,p,rfl,dX,n⟩
 refine jF (dF aj) (IU (bN (IL (res0 rfl) ?_)))
 have dY:=u.px [] [0] []
 obtain⟨rfl,rfl⟩:=fD (hr.symm.trans (show _=(I,a) from et (iN z) (et (iN B) (et (iN F) (et (iN G) (et (iN y) (et (iN V) (iN aj))))))))
 exact⟨r,s,p,rfl,dY,n⟩
end Go.Proofs.YtbkagebjhbphaaaGreat
