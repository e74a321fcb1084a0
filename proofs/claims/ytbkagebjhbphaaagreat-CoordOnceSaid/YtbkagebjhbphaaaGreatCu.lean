/-
 coord: a message taken.
-/
import Derived.Test.YtbkagebjhbphaaaGreatCt
namespace Go.Proofs.YtbkagebjhbphaaaGreat
open List renaming flatMap→q3
open Ll renaming mk→E2
open _root_.Go.Proofs.Tryz renaming isAgg24→P3,isAgg28→D4,isAgg3→C4,isAgg42→N5,sizeOf28→N7,sizeOf42→N6
open WL renaming nil→C6
set_option maxRecDepth 100000
open Go.RowKit
set_option linter.unusedVariables false
set_option linter.unusedSectionVars false
set_option linter.unusedSimpArgs false
def iR (c:bI) (b:bL) (a:aA):bI × aA:=
 if b.aD=1 then bnd (ji c b a) fun d=>(d.1,d.2) else if b.aD=4 then bnd (kg c b a) fun e=>(e.1,e.2) else if b.aD=6 then bnd (mf c b a) fun f=>(f.1,f.2) else if b.aD=7 then bnd (lH c b a) fun g=>(g,a) else if b.aD=9 then if b.aJ=1 then(c,(aA.mk a.aa a.bP (E2 a.ay.ls) a.bK a.bA a.bz a.bv a.bq a.dP (max a.dH b.aV) a.dI a.dG a.dJ)) else if b.aJ=2 then(c,(aA.mk a.aa a.bP (E2 a.ay.ls) a.bK a.bA a.bz a.bv a.bq a.dP a.dH (max a.dI b.aV) a.dG a.dJ)) else if b.aJ=3 then(c,(aA.mk a.aa a.bP (E2 a.ay.ls) a.bK a.bA a.bz a.bv a.bq a.dP a.dH a.dI (max a.dG b.aV) a.dJ)) else(c,(aA.mk a.aa a.bP (E2 a.ay.ls) a.bK a.bA a.bz a.bv a.bq a.dP a.dH a.dI a.dG (max a.dJ b.aV))) else if b.aD=13 then(c,a) else if b.aD=14 then(c,a) else(c,a)
set_option maxHeartbeats 4000000 in
theorem sF (w D U) (I:bI) (r s p) (b:bL) (j aC f l aD g C m aF h d) (a:aA) (r0:bI) (r1:aA) (H:Own w D w [blk U [.pointer (some ⟨d,0,none⟩), .slice r I.aX.ls.length s] 98,row r I.aX.ls.length s (q3 bf.cells p) 42 21,sepL (q3 bf.own p),iG d a]) (n:List.map bf.abs p=I.aX.ls) (aQ:aC=b.aH.ls.length) (J:Ro w D fun w'=>bE w' 6 j b.aH.ls.length (q3 bi.cells b.aH.ls)) (ek:b.aH.ls.length≤f∧b.aH.ls.length≤9223372036854775807) (E:List.map ae.abs C=b.ai.ls) (aR:aD=b.ai.ls.length) (K:Ro w D fun w'=>bE w' 3 l b.ai.ls.length (q3 ae.cells C)) (eu:b.ai.ls.length≤g∧b.ai.ls.length≤9223372036854775807) (t:∀ x ∈ C,Ro w D (fun w'=>bE w' 2 x.ak.A x.ak.ls.length (q3 aI.cells x.ak.ls))∧(x.ak.ls.length≤x.ak.c∧x.ak.ls.length≤9223372036854775807)) (aS:aF=b.ag.ls.length) (L:Ro w D fun w'=>bE w' 2 m b.ag.ls.length (q3 aY.cells b.ag.ls)) (eB:b.ag.ls.length≤h∧b.ag.ls.length≤9223372036854775807) (j5:a.aa.ag.ls.length≤1000∧a.aa.aj.ls.length≤1000∧a.aa.aF.ls.length≤1000∧a.ay.ls.length≤1000∧I.aX.ls.length≤100000) (j6:Mk a) (ko:b.aH.ls.length≤24∧b.ag.ls.length≤1000∧b.ai.ls.length≤1000∧ky b.aP) (kr:nI b.ai.ls) (ku:(¬ (b.aD=1)∨11≤b.aJ∧b.aJ≤14)∧(¬ (b.aD=9)∨1≤b.aJ∧b.aJ≤4)) (hr:iR I b a=(r0,r1)):
    Calls Tryz.prog 24 #[vP U 0, .agg (gU b.aD b.aJ b.fI b.aK b.dz b.eH b.aP b.av b.aN b.dY b.aV b.aL b.dL b.cu b.xN b.cz b.bU.bF b.bU.bT j aC f l aD g m aF h).toArray] w (d9 fun v w'=> ∃ ak au W,v= .tuple #[]∧Own w D w' [blk U [vP d 0, .slice ak r0.aX.ls.length au] 98,row ak r0.aX.ls.length au (q3 bf.cells W) 42 21,sepL (q3 bf.own W),iG d r1]∧(List.map bf.abs W=r0.aX.ls)):=by
 subst aQ aR aS
 have dZ:=aB n
 have ed:=aB E
 have eD:=H.rowC (i:=1) rfl
 refine cb Tryz.func24 ?_
 refine sr ?_
 refine dV (iH b j f l g m h) 42 H ?_
 intro X kv u
 refine ns (Kz (vP X 0) (Lz (vI b.aD) u 0 C4 (nt (bo (sr (Kz (.bool (decide (b.aD=1))) (An rfl ?_)))))))
 by_cases z:b.aD=1
 refine jT (dT z) (Ib (Mz rfl (La (iH b j f l g m h) u 0 N5 N6 ?_)))
 have eF:=u.pb [0]
 obtain⟨⟨bF,bG⟩,aG⟩:∃ q:bI × aA,ji I b a=q:=⟨_,rfl⟩
 obtain⟨kw,bH,Y,bJ,fK⟩:=I5 eF
 refine cl Tryz.call56 (uQ _ _ U I r s p b j b.aH.ls.length f l b.ai.ls.length g C m b.ag.ls.length h d a bF bG bH n rfl (Y _ J) (show b.aH.ls.length≤f∧b.aH.ls.length≤9223372036854775807 from by omega) E rfl (Y _ K) (show b.ai.ls.length≤g∧b.ai.ls.length≤9223372036854775807 from by omega) (fun x9 h9=>⟨Y _ (t x9 h9).1,(t x9 h9).2⟩) rfl (Y _ L) (show b.ag.ls.length≤h∧b.ag.ls.length≤9223372036854775807 from by omega) e8 f5 j9 e8 e8 aG) ?_
 rintro _ kz ⟨eG,eH,eO,rfl,bK,aH⟩
 have bM:=bJ _ _ bK
 have fM:=aB aH
 have fO:=bM.rowC (i:=1) rfl
 refine C6 (bN (IA (res0 rfl) ?_))
 have eP:=bM.px [] [4] []
 obtain⟨rfl,rfl⟩:=ic (hr.symm.trans (show _=(bF,bG) from et (ip z) (ah aG)))
 exact⟨eG,eH,eO,rfl,eP,aH⟩
 refine jF (dF z) (sr (Kz (.bool (decide (b.aD=4))) (An rfl ?_)))
 by_cases B:b.aD=4
 refine jT (dT B) (Ib (Mz rfl (La (iH b j f l g m h) u 0 N5 N6 ?_)))
 have eQ:=u.pb [0]
 obtain⟨⟨bO,bP⟩,aJ⟩:∃ q:bI × aA,kg I b a=q:=⟨_,rfl⟩
 obtain⟨kC,bR,Z,bS,fP⟩:=I5 eQ
 refine cl Tryz.call57 (wK _ _ U I r s p b j b.aH.ls.length f l b.ai.ls.length g C m b.ag.ls.length h d a bO bP bR n rfl (Z _ J) (show b.aH.ls.length≤f∧b.aH.ls.length≤9223372036854775807 from by omega) E rfl (Z _ K) (show b.ai.ls.length≤g∧b.ai.ls.length≤9223372036854775807 from by omega) (fun x9 h9=>⟨Z _ (t x9 h9).1,(t x9 h9).2⟩) rfl (Z _ L) (show b.ag.ls.length≤h∧b.ag.ls.length≤9223372036854775807 from by omega) e8 f8 e8 f5 aJ) ?_
 rintro _ kD ⟨eT,eU,eX,rfl,bT,aK⟩
 have bU:=bS _ _ bT
 have fQ:=aB aK
 have fT:=bU.rowC (i:=1) rfl
 refine C6 (bN (IA (res0 rfl) ?_))
 have eY:=bU.px [] [4] []
 obtain⟨rfl,rfl⟩:=ic (hr.symm.trans (show _=(bO,bP) from et (iN z) (et (ip B) (ah aJ))))
 exact⟨eT,eU,eX,rfl,eY,aK⟩
 refine jF (dF B) (sr (Kz (.bool (decide (b.aD=6))) (An rfl ?_)))
 by_cases F:b.aD=6
 refine jT (dT F) (Ib (Mz rfl (La (iH b j f l g m h) u 0 N5 N6 ?_)))
 have eZ:=u.pb [0]
 obtain⟨⟨bV,bW⟩,aL⟩:∃ q:bI × aA,mf I b a=q:=⟨_,rfl⟩
 obtain⟨kE,bX,aa,bY,fU⟩:=I5 eZ
 refine cl Tryz.call58 (xk _ _ U I r s p b j b.aH.ls.length f l b.ai.ls.length g C m b.ag.ls.length h d a bV bW bX n rfl (aa _ J) (show b.aH.ls.length≤f∧b.aH.ls.length≤9223372036854775807 from by omega) E rfl (aa _ K) (show b.ai.ls.length≤g∧b.ai.ls.length≤9223372036854775807 from by omega) (fun x9 h9=>⟨aa _ (t x9 h9).1,(t x9 h9).2⟩) rfl (aa _ L) (show b.ag.ls.length≤h∧b.ag.ls.length≤9223372036854775807 from by omega) e8 j8 aL) ?_
 rintro _ kF ⟨fo,fq,fu,rfl,bZ,aM⟩
 have cu:=bY _ _ bZ
 have fV:=aB aM
 have fZ:=cu.rowC (i:=1) rfl
 refine C6 (bN (IA (res0 rfl) ?_))
 have fw:=cu.px [] [4] []
 obtain⟨rfl,rfl⟩:=ic (hr.symm.trans (show _=(bV,bW) from et (iN z) (et (iN B) (et (ip F) (ah aL)))))
 exact⟨fo,fq,fu,rfl,fw,aM⟩
 refine jF (dF F) (sr (Kz (.bool (decide (b.aD=7))) (An rfl ?_)))
 by_cases G:b.aD=7
 refine jT (dT G) (Ib (Mz rfl (La (iH b j f l g m h) u 0 N5 N6 ?_)))
 have fA:=u.pb [0]
 obtain⟨cz,aN⟩:∃ q,lH I b a=q:=⟨_,rfl⟩
 obtain⟨kG,cB,af,cK,gm⟩:=I5 fA
 refine cl Tryz.call59 (xm _ _ U I r s p b j b.aH.ls.length f l b.ai.ls.length g C m b.ag.ls.length h d a cz cB n rfl (af _ J) (show b.aH.ls.length≤f∧b.aH.ls.length≤9223372036854775807 from by omega) E rfl (af _ K) (show b.ai.ls.length≤g∧b.ai.ls.length≤9223372036854775807 from by omega) (fun x9 h9=>⟨af _ (t x9 h9).1,(t x9 h9).2⟩) rfl (af _ L) (show b.ag.ls.length≤h∧b.ag.ls.length≤9223372036854775807 from by omega) e8 aN) ?_
 rintro _ kH ⟨fB,fC,fD,rfl,cO,aO⟩
 have cZ:=cK _ _ cO
 have fE:=aB aO
 have fF:=cZ.rowC (i:=1) rfl
 refine C6 (bN (IA (res0 rfl) ?_))
 have df:=cZ.px [] [4] []
 obtain⟨rfl,rfl⟩:=ic (hr.symm.trans (show _=(cz,a) from et (iN z) (et (iN B) (et (iN F) (et (ip G) (ah aN))))))
 exact⟨fB,fC,fD,rfl,df,aO⟩
 refine jF (dF G) (sr (Kz (.bool (decide (b.aD=9))) (An rfl ?_)))
 by_cases y:b.aD=9
 refine jT (dT y) ?_
 have dh:=u.pf [4]
 obtain⟨gp,gq,gu,gy,gz,gB,gD,gF,gG,gH,gI,gJ,gK,gL,gM,gN,gP,gQ,gT,gV,gW,gX,gY,gZ,ib,ig,M,N,O,P,Q,R,S,T,fG,di⟩:=iZ dh
 refine pU 22 [22] (bQ.block IC) di ?_
 intro ik ag
 refine qv 0 rfl rfl (qp U 0 1 rfl (qp U 0 2 rfl (ql 3 rfl 19 P3 rfl rfl rfl (qp X 1 4 rfl (ql 5 rfl 18 C4 rfl rfl rfl (qv 6 rfl rfl (qp U 0 7 rfl (qp U 0 8 rfl (ql 9 rfl 19 P3 rfl rfl rfl (qp X 1 10 rfl (ql 11 rfl 18 C4 rfl rfl rfl (qp d 0 12 rfl (qp d 29 13 rfl ?_)))))))))))))
 by_cases ai:b.aJ=1
 refine qt (v:=vP d 30) 14 rfl (fun _ _=>by rw [show b.aJ=1 from by omega]; exact yk) (ql 15 rfl 0 D4 rfl rfl rfl (qp X 10 16 rfl (ql 17 rfl 18 D4 rfl rfl rfl (qt (v:=vU (max a.dH b.aV)) 18 rfl (fun _ _=>Ie (e:=if((b.aV:Nat):Int) > ((a.dH:Nat):Int) then((b.aV:Nat):Int) else((a.dH:Nat):Int)) yk e6) (qp d 0 19 rfl (qp d 29 20 rfl (qt (v:=vP d 30) 21 rfl (fun _ _=>by rw [show b.aJ=1 from by omega]; exact yk) ?_)))))))
 refine qe 22 rfl (Do.store (vs:= [vU (max a.dH b.aV)]) (o:=30) ag rfl rfl N7 rfl rfl rfl rfl ?_)
 intro il dm
 refine⟨.inl e7, ?_⟩
 refine qn (bN (IA (res0 rfl) ?_))
 have dn:=fe M N O P Q R S T dm
 have dw:=dn.px [] [1] [0]
 obtain⟨rfl,rfl⟩:=ic (hr.symm.trans (show _=(I,(aA.mk a.aa a.bP (E2 a.ay.ls) a.bK a.bA a.bz a.bv a.bq a.dP (max a.dH b.aV) a.dI a.dG a.dJ)) from et (iN z) (et (iN B) (et (iN F) (et (iN G) (et (ip y) (ip ai)))))))
 exact⟨r,s,p,rfl,dw,n⟩
 by_cases ay:b.aJ=2
 refine qt (v:=vP d 31) 14 rfl (fun _ _=>by rw [show b.aJ=2 from by omega]; exact yk) (ql 15 rfl 0 D4 rfl rfl rfl (qp X 10 16 rfl (ql 17 rfl 18 D4 rfl rfl rfl (qt (v:=vU (max a.dI b.aV)) 18 rfl (fun _ _=>Ie (e:=if((b.aV:Nat):Int) > ((a.dI:Nat):Int) then((b.aV:Nat):Int) else((a.dI:Nat):Int)) yk e6) (qp d 0 19 rfl (qp d 29 20 rfl (qt (v:=vP d 31) 21 rfl (fun _ _=>by rw [show b.aJ=2 from by omega]; exact yk) ?_)))))))
 refine qe 22 rfl (Do.store (vs:= [vU (max a.dI b.aV)]) (o:=31) ag rfl rfl N7 rfl rfl rfl rfl ?_)
 intro iq dx
 refine⟨.inl e7, ?_⟩
 refine qn (bN (IA (res0 rfl) ?_))
 have dz:=fe M N O P Q R S T dx
 have dA:=dz.px [] [1] [0]
 obtain⟨rfl,rfl⟩:=ic (hr.symm.trans (show _=(I,(aA.mk a.aa a.bP (E2 a.ay.ls) a.bK a.bA a.bz a.bv a.bq a.dP a.dH (max a.dI b.aV) a.dG a.dJ)) from et (iN z) (et (iN B) (et (iN F) (et (iN G) (et (ip y) (et (iN ai) (ip ay))))))))
 exact⟨r,s,p,rfl,dA,n⟩
 by_cases aP:b.aJ=3
 refine qt (v:=vP d 32) 14 rfl (fun _ _=>by rw [show b.aJ=3 from by omega]; exact yk) (ql 15 rfl 0 D4 rfl rfl rfl (qp X 10 16 rfl (ql 17 rfl 18 D4 rfl rfl rfl (qt (v:=vU (max a.dG b.aV)) 18 rfl (fun _ _=>Ie (e:=if((b.aV:Nat):Int) > ((a.dG:Nat):Int) then((b.aV:Nat):Int) else((a.dG:Nat):Int)) yk e6) (qp d 0 19 rfl (qp d 29 20 rfl (qt (v:=vP d 32) 21 rfl (fun _ _=>by rw [show b.aJ=3 from by omega]; exact yk) ?_)))))))
 refine qe 22 rfl (Do.store (vs:= [vU (max a.dG b.aV)]) (o:=32) ag rfl rfl N7 rfl rfl rfl rfl ?_)
 intro iw dB
 refine⟨.inl e7, ?_⟩
 refine qn (bN (IA (res0 rfl) ?_))
 have dC:=fe M N O P Q R S T dB
 have dD:=dC.px [] [1] [0]
 obtain⟨rfl,rfl⟩:=ic (hr.symm.trans (show _=(I,(aA.mk a.aa a.bP (E2 a.ay.ls) a.bK a.bA a.bz a.bv a.bq a.dP a.dH a.dI (max a.dG b.aV) a.dJ)) from et (iN z) (et (iN B) (et (iN F) (et (iN G) (et (ip y) (et (iN ai) (et (iN ay) (ip aP)))))))))
 exact⟨r,s,p,rfl,dD,n⟩
 refine qt (v:=vP d 33) 14 rfl (fun _ _=>by rw [show b.aJ=4 from by omega]; exact yk) (ql 15 rfl 0 D4 rfl rfl rfl (qp X 10 16 rfl (ql 17 rfl 18 D4 rfl rfl rfl (qt (v:=vU (max a.dJ b.aV)) 18 rfl (fun _ _=>Ie (e:=if((b.aV:Nat):Int) > ((a.dJ:Nat):Int) then((b.aV:Nat):Int) else((a.dJ:Nat):Int)) yk e6) (qp d 0 19 rfl (qp d 29 20 rfl (qt (v:=vP d 33) 21 rfl (fun _ _=>by rw [show b.aJ=4 from by omega]; exact yk) ?_)))))))
 refine qe 22 rfl (Do.store (vs:= [vU (max a.dJ b.aV)]) (o:=33) ag rfl rfl N7 rfl rfl rfl rfl ?_)
 intro iy dE
 refine⟨.inl e7, ?_⟩
 refine qn (bN (IA (res0 rfl) ?_))
 have dG:=fe M N O P Q R S T dE
 have dH:=dG.px [] [1] [0]
 obtain⟨rfl,rfl⟩:=ic (hr.symm.trans (show _=(I,(aA.mk a.aa a.bP (E2 a.ay.ls) a.bK a.bA a.bz a.bv a.bq a.dP a.dH a.dI a.dG (max a.dJ b.aV))) from et (iN z) (et (iN B) (et (iN F) (et (iN G) (et (ip y) (et (iN ai) (et (iN ay) (iN aP)))))))))
 exact⟨r,s,p,rfl,dH,n⟩
 refine jF (dF y) (sr (Kz (.bool (decide (b.aD=13))) (An rfl ?_)))
 by_cases V:b.aD=13
 refine jT (dT V) (sr (Mz rfl (La (iH b j f l g m h) u 0 N5 N6 ?_)))
 refine WL.do rfl (Iz Tryz.call60 rfl ?_ (fun _ _ k=>k))
 refine cb Tryz.func60 ?_
 refine sr ?_
 refine dV (iH b j f l g m h) 42 u ?_
 intro iA iB dI
 refine An rfl (Ic ?_)
 have dJ:=dI.pf [5]
 obtain⟨iC,iD,iE,iF,iI,iJ,iK,iL,iM,iO,iP,iQ,iT,iU,iV,iW,iX,iY,ja,jb,jc,jd,je,jg,jh,jk,aT,aU,aV,aW,aX,aZ,bg,bn,fH,dK⟩:=iZ dJ
 refine pU 23 [] (Iu IC) dK ?_
 intro jl dL
 refine qv 0 rfl rfl (qp U 0 1 rfl (qp U 0 2 rfl (ql 3 rfl 20 P3 rfl rfl rfl (qp d 0 4 rfl (qp d 34 5 rfl (ql 6 rfl 0 Tryz.isAgg84 rfl rfl rfl (qk (.bool false) 7 rfl (qv 8 rfl rfl (Ik (rs:= []) 9 rfl rfl rfl rfl e7 (Ik (rs:= []) 10 rfl rfl rfl rfl e7 (Ik (rs:= []) 11 rfl rfl rfl rfl e7 (Ik (rs:= []) 12 rfl rfl rfl rfl e7 (Ik (rs:= []) 13 rfl rfl rfl rfl e7 (Ik (rs:= []) 14 rfl rfl rfl rfl e7 (Ik (rs:= []) 15 rfl rfl rfl rfl e7 (Ik (rs:= []) 16 rfl rfl rfl rfl e7 (Ik (rs:= []) 17 rfl rfl rfl rfl e7 (Ik (rs:= []) 18 rfl rfl rfl rfl e7 (Ik (rs:= []) 19 rfl rfl rfl rfl e7 (Ik (rs:= []) 20 rfl rfl rfl rfl e7 (Ik (rs:= []) 21 rfl rfl rfl rfl e7 (qt (v:= .bool false) 22 rfl (fun _ _=>Ih rfl rfl rfl) (qv 23 rfl rfl (Ik (rs:= []) 24 rfl rfl rfl rfl e7 (Ik (rs:= []) 25 rfl rfl rfl rfl e7 (Ik (rs:= []) 26 rfl rfl rfl rfl e7 (Ik (rs:= []) 27 rfl rfl rfl rfl e7 (Ik (rs:= []) 28 rfl rfl rfl rfl e7 (Ik (rs:= []) 29 rfl rfl rfl rfl e7 (Ik (rs:= []) 30 rfl rfl rfl rfl e7 (Ik (rs:= []) 31 rfl rfl rfl rfl e7 (Ik (rs:= []) 32 rfl rfl rfl rfl e7 (Ik (rs:= []) 33 rfl rfl rfl rfl e7 (Ik (rs:= []) 34 rfl rfl rfl rfl e7 (Ik (rs:= []) 35 rfl rfl rfl rfl e7 (Ik (rs:= []) 36 rfl rfl rfl rfl e7 (qt (v:= .bool false) 37 rfl (fun _ _=>Ih rfl rfl rfl) (qa 38 rfl rfl (qn ?_)))))))))))))))))))))))))))))))))))))))
 refine Ig (rt (rs (nt (jf (IE (bN (IA (res0 rfl) ?_)))))))
 have dM:=fe aT aU aV aW aX aZ bg bn dL
 have dN:=dM.pk [3,4,5,0]
 obtain⟨rfl,rfl⟩:=ic (hr.symm.trans (show _=(I,a) from et (iN z) (et (iN B) (et (iN F) (et (iN G) (et (iN y) (ip V)))))))
 exact⟨r,s,p,rfl,dN,n⟩
 refine jF (dF V) (sr (Kz (.bool (decide (b.aD=14))) (An rfl ?_)))
 by_cases aj:b.aD=14
 refine jT (dT aj) (Ib (Mz rfl (La (iH b j f l g m h) u 0 N5 N6 ?_)))
 refine WL.do rfl (Iz Tryz.call61 rfl ?_ (fun _ _ k=>k))
 refine cb Tryz.func61 ?_
 refine sr ?_
 refine dV [vP U 0] 94 u ?_
 intro jm jo dO
 refine dV (iH b j f l g m h) 42 dO ?_
 intro jq jr az
 refine nt (Ic (sr (Lz (vP U 0) az 1 Tryz.isAgg94 (La (iH b j f l g m h) az 0 N5 N6 ?_))))
 refine WL.do rfl (Iz Tryz.call60 rfl ?_ (fun _ _ k=>k))
 refine cb Tryz.func60 ?_
 refine sr ?_
 refine dV (iH b j f l g m h) 42 az ?_
 intro jv jw dP
 refine An rfl (Ic ?_)
 have dQ:=dP.pf [7]
 obtain⟨jy,jA,jB,jC,jD,jE,jG,jH,jI,jJ,jK,jL,jM,jN,jO,jP,jQ,jR,jS,jU,jV,jW,jX,jY,jZ,j3,bq,bu,bv,bz,bA,bB,bC,bD,fI,dR⟩:=iZ dQ
 refine pU 25 [] (Iu IC) dR ?_
 intro j4 dS
 refine qv 0 rfl rfl (qp U 0 1 rfl (qp U 0 2 rfl (ql 3 rfl 22 P3 rfl rfl rfl (qp d 0 4 rfl (qp d 34 5 rfl (ql 6 rfl 0 Tryz.isAgg84 rfl rfl rfl (qk (.bool false) 7 rfl (qv 8 rfl rfl (Ik (rs:= []) 9 rfl rfl rfl rfl e7 (Ik (rs:= []) 10 rfl rfl rfl rfl e7 (Ik (rs:= []) 11 rfl rfl rfl rfl e7 (Ik (rs:= []) 12 rfl rfl rfl rfl e7 (Ik (rs:= []) 13 rfl rfl rfl rfl e7 (Ik (rs:= []) 14 rfl rfl rfl rfl e7 (Ik (rs:= []) 15 rfl rfl rfl rfl e7 (Ik (rs:= []) 16 rfl rfl rfl rfl e7 (Ik (rs:= []) 17 rfl rfl rfl rfl e7 (Ik (rs:= []) 18 rfl rfl rfl rfl e7 (Ik (rs:= []) 19 rfl rfl rfl rfl e7 (Ik (rs:= []) 20 rfl rfl rfl rfl e7 (Ik (rs:= []) 21 rfl rfl rfl rfl e7 (qt (v:= .bool false) 22 rfl (fun _ _=>Ih rfl rfl rfl) (qv 23 rfl rfl (Ik (rs:= []) 24 rfl rfl rfl rfl e7 (Ik (rs:= []) 25 rfl rfl rfl rfl e7 (Ik (rs:= []) 26 rfl rfl rfl rfl e7 (Ik (rs:= []) 27 rfl rfl rfl rfl e7 (Ik (rs:= []) 28 rfl rfl rfl rfl e7 (Ik (rs:= []) 29 rfl rfl rfl rfl e7 (Ik (rs:= []) 30 rfl rfl rfl rfl e7 (Ik (rs:= []) 31 rfl rfl rfl rfl e7 (Ik (rs:= []) 32 rfl rfl rfl rfl e7 (Ik (rs:= []) 33 rfl rfl rfl rfl e7 (Ik (rs:= []) 34 rfl rfl rfl rfl e7 (Ik (rs:= []) 35 rfl rfl rfl rfl e7 (Ik (rs:= []) 36 rfl rfl rfl rfl e7 (qt (v:= .bool false) 37 rfl (fun _ _=>Ih rfl rfl rfl) (qa 38 rfl rfl (qn ?_)))))))))))))))))))))))))))))))))))))))
 refine Ig (rt (rs (Kz (.bool true) (nt (jt (rt (tR (Fin.res (res0 rfl) (C6 (bN (IA (res0 rfl) ?_)))))))))))
 have dU:=fe bq bu bv bz bA bB bC bD dS
 have dW:=dU.pk [5,6,7,0]
 obtain⟨rfl,rfl⟩:=ic (hr.symm.trans (show _=(I,a) from et (iN z) (et (iN B) (et (iN F) (et (iN G) (et (iN y) (et (iN V) (ip aj))))))))
 exact⟨r,s,p,rfl,dW,n⟩
 refine jF (dF aj) (IE (bN (IA (res0 rfl) ?_)))
 have dX:=u.px [] [0] []
 obtain⟨rfl,rfl⟩:=ic (hr.symm.trans (show _=(I,a) from et (iN z) (et (iN B) (et (iN F) (et (iN G) (et (iN y) (et (iN V) (iN aj))))))))
 exact⟨r,s,p,rfl,dX,n⟩
end Go.Proofs.YtbkagebjhbphaaaGreat
