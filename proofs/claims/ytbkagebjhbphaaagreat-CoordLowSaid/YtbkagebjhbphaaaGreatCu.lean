/-
 coord: a message taken.
-/
import Derived.Test.YtbkagebjhbphaaaGreatCt
namespace Go.Proofs.YtbkagebjhbphaaaGreat
set_option maxRecDepth 100000
open Go.RowKit
set_option linter.unusedVariables false
set_option linter.unusedSectionVars false
set_option linter.unusedSimpArgs false
def je (c:bQ) (b:bP) (a:aC):bQ × aC:=
 if b.aI=1 then bnd (kr c b a) fun d=>(d.1,d.2) else if b.aI=4 then bnd (kY c b a) fun e=>(e.1,e.2) else if b.aI=6 then bnd (lG c b a) fun f=>(f.1,f.2) else if b.aI=7 then bnd (mo c b a) fun g=>(g,a) else if b.aI=9 then if b.aJ=1 then(c,(aC.mk a.aa a.bH (Ll.mk a.aB.ls) a.aR a.aN a.aM a.aO a.aP a.di (max a.cB b.aY) a.cZ a.cK a.cO)) else if b.aJ=2 then(c,(aC.mk a.aa a.bH (Ll.mk a.aB.ls) a.aR a.aN a.aM a.aO a.aP a.di a.cB (max a.cZ b.aY) a.cK a.cO)) else if b.aJ=3 then(c,(aC.mk a.aa a.bH (Ll.mk a.aB.ls) a.aR a.aN a.aM a.aO a.aP a.di a.cB a.cZ (max a.cK b.aY) a.cO)) else(c,(aC.mk a.aa a.bH (Ll.mk a.aB.ls) a.aR a.aN a.aM a.aO a.aP a.di a.cB a.cZ a.cK (max a.cO b.aY))) else if b.aI=13 then(c,a) else if b.aI=14 then(c,a) else(c,a)
set_option maxHeartbeats 4000000 in
theorem q8 (w:World) (D:Nat→Prop) (U:Nat) (I:bQ) (r:Option Addr) (s:Nat) (p:List bA) (b:bP) (j:Option Addr) (ax f:Nat) (l:Option Addr) (ay g:Nat) (C:List af) (m:Option Addr) (az h:Nat) (d:Nat) (a:aC) (r0:bQ) (r1:aC) (H:Own w D w [blk U [.pointer (some ⟨d,0,none⟩), .slice r I.bE.ls.length s] 98,row r I.bE.ls.length s (List.flatMap bA.cells p) 42 21,sepL (List.flatMap bA.own p),iF d a]) (n:List.map bA.abs p=I.bE.ls) (aN:ax=b.aD.ls.length) (J:Ro w D fun w'=>bD w' 6 j b.aD.ls.length (List.flatMap bC.cells b.aD.ls)) (dZ:b.aD.ls.length≤f∧b.aD.ls.length≤9223372036854775807) (E:List.map af.abs C=b.ah.ls) (aO:ay=b.ah.ls.length) (K:Ro w D fun w'=>bD w' 3 l b.ah.ls.length (List.flatMap af.cells C)) (d9:b.ah.ls.length≤g∧b.ah.ls.length≤9223372036854775807) (t:∀ x ∈ C,Ro w D (fun w'=>bD w' 2 x.av.A x.av.ls.length (List.flatMap aL.cells x.av.ls))∧(x.av.ls.length≤x.av.c∧x.av.ls.length≤9223372036854775807)) (aP:az=b.ag.ls.length) (L:Ro w D fun w'=>bD w' 2 m b.ag.ls.length (List.flatMap bv.cells b.ag.ls)) (ed:b.ag.ls.length≤h∧b.ag.ls.length≤9223372036854775807) (jZ:a.aa.ag.ls.length≤1000∧a.aa.aj.ls.length≤1000∧a.aa.aG.ls.length≤1000∧a.aB.ls.length≤1000∧I.bE.ls.length≤100000) (j3:Mk a) (j4:b.aD.ls.length≤24∧b.ag.ls.length≤1000∧b.ah.ls.length≤1000∧jh b.aU) (j5:mK b.ah.ls) (j6:(¬ (b.aI=1)∨11≤b.aJ∧b.aJ≤14)∧(¬ (b.aI=9)∨1≤b.aJ∧b.aJ≤4)) (hr:je I b a=(r0,r1)):
    Calls Tryz.prog 24 #[vP U 0, .agg (gN b.aI b.aJ b.eU b.aQ b.dz b.dL b.aU b.ay b.bf b.cz b.aY b.aH b.dG b.bT b.xN b.dI b.bO.bJ b.bO.bW j ax f l ay g m az h).toArray] w (dW fun v w'=> ∃ (B0ox0:Option Addr) (b0ox0:Nat) (e0ox0:List bA),v= .tuple #[]∧Own w D w' [blk U [vP d 0, .slice B0ox0 r0.bE.ls.length b0ox0] 98,row B0ox0 r0.bE.ls.length b0ox0 (List.flatMap bA.cells e0ox0) 42 21,sepL (List.flatMap bA.own e0ox0),iF d r1]∧(List.map bA.abs e0ox0=r0.bE.ls)):=by
 subst aN aO aP
 have dX:=aA n
 have dY:=aA E
 have ek:=H.rowC (i:=1) rfl
 refine cb Tryz.func24 ?_
 refine sr ?_
 refine dP (gP b j f l g m h) 42 H ?_
 intro W kg u
 refine ns (Kz (vP W 0) (Lz (vI b.aI) u 0 Tryz.isAgg3 (nt (bo (sr (Kz (.bool (decide (b.aI=1))) (An rfl ?_)))))))
 by_cases z:b.aI=1
 refine jT (dT z) (EO (Mz rfl (La (gP b j f l g m h) u 0 Tryz.isAgg42 Tryz.sizeOf42 ?_)))
 have eu:=u.pb [0]
 obtain⟨⟨bz,bB⟩,aB⟩:∃ q:bQ × aC,kr I b a=q:=⟨_,rfl⟩
 obtain⟨ko,bE,X,bF,fH⟩:=FL eu
 refine cl Tryz.call56 (tV _ _ U I r s p b j b.aD.ls.length f l b.ah.ls.length g C m b.ag.ls.length h d a bz bB bE n rfl (X _ J) (show b.aD.ls.length≤f∧b.aD.ls.length≤9223372036854775807 from by omega) E rfl (X _ K) (show b.ah.ls.length≤g∧b.ah.ls.length≤9223372036854775807 from by omega) (fun x9 h9=>⟨X _ (t x9 h9).1,(t x9 h9).2⟩) rfl (X _ L) (show b.ag.ls.length≤h∧b.ag.ls.length≤9223372036854775807 from by omega) (by first | omega | (dsimp only; omega) | (simp only [List.length_nil]; omega) | decide) (by assumption) (by first | assumption | exact Am (by assumption)) (by first | omega | (dsimp only; omega) | (simp only [List.length_nil]; omega) | decide) (by first | omega | (dsimp only; omega) | (simp only [List.length_nil]; omega) | decide) aB) ?_
 rintro _ ku ⟨eB,eD,eF,rfl,bG,aD⟩
 have bH:=bF _ _ bG
 have fI:=aA aD
 have fJ:=bH.rowC (i:=1) rfl
 refine WL.nil (bN (Ff (res0 rfl) ?_))
 have eG:=bH.px [] [4] []
 obtain⟨rfl,rfl⟩:=fT (hr.symm.trans (show _=(bz,bB) from et (ip z) (ai aB)))
 exact⟨eB,eD,eF,rfl,eG,aD⟩
 refine jF (dF z) (sr (Kz (.bool (decide (b.aI=4))) (An rfl ?_)))
 by_cases B:b.aI=4
 refine jT (dT B) (EO (Mz rfl (La (gP b j f l g m h) u 0 Tryz.isAgg42 Tryz.sizeOf42 ?_)))
 have eH:=u.pb [0]
 obtain⟨⟨bI,bJ⟩,aF⟩:∃ q:bQ × aC,kY I b a=q:=⟨_,rfl⟩
 obtain⟨kv,bK,Y,bL,fK⟩:=FL eH
 refine cl Tryz.call57 (vD _ _ U I r s p b j b.aD.ls.length f l b.ah.ls.length g C m b.ag.ls.length h d a bI bJ bK n rfl (Y _ J) (show b.aD.ls.length≤f∧b.aD.ls.length≤9223372036854775807 from by omega) E rfl (Y _ K) (show b.ah.ls.length≤g∧b.ah.ls.length≤9223372036854775807 from by omega) (fun x9 h9=>⟨Y _ (t x9 h9).1,(t x9 h9).2⟩) rfl (Y _ L) (show b.ag.ls.length≤h∧b.ag.ls.length≤9223372036854775807 from by omega) (by first | omega | (dsimp only; omega) | (simp only [List.length_nil]; omega) | decide) (by first | assumption | exact Mk.act (by assumption)) (by first | omega | (dsimp only; omega) | (simp only [List.length_nil]; omega) | decide) (by assumption) aF) ?_
 rintro _ kw ⟨eP,eQ,eT,rfl,bM,aG⟩
 have bO:=bL _ _ bM
 have fM:=aA aG
 have fO:=bO.rowC (i:=1) rfl
 refine WL.nil (bN (Ff (res0 rfl) ?_))
 have eU:=bO.px [] [4] []
 obtain⟨rfl,rfl⟩:=fT (hr.symm.trans (show _=(bI,bJ) from et (iN z) (et (ip B) (ai aF))))
 exact⟨eP,eQ,eT,rfl,eU,aG⟩
 refine jF (dF B) (sr (Kz (.bool (decide (b.aI=6))) (An rfl ?_)))
 by_cases F:b.aI=6
 refine jT (dT F) (EO (Mz rfl (La (gP b j f l g m h) u 0 Tryz.isAgg42 Tryz.sizeOf42 ?_)))
 have eX:=u.pb [0]
 obtain⟨⟨bR,bT⟩,aH⟩:∃ q:bQ × aC,lG I b a=q:=⟨_,rfl⟩
 obtain⟨ky,bU,Z,bV,fP⟩:=FL eX
 refine cl Tryz.call58 (vY _ _ U I r s p b j b.aD.ls.length f l b.ah.ls.length g C m b.ag.ls.length h d a bR bT bU n rfl (Z _ J) (show b.aD.ls.length≤f∧b.aD.ls.length≤9223372036854775807 from by omega) E rfl (Z _ K) (show b.ah.ls.length≤g∧b.ah.ls.length≤9223372036854775807 from by omega) (fun x9 h9=>⟨Z _ (t x9 h9).1,(t x9 h9).2⟩) rfl (Z _ L) (show b.ag.ls.length≤h∧b.ag.ls.length≤9223372036854775807 from by omega) (by first | omega | (dsimp only; omega) | (simp only [List.length_nil]; omega) | decide) (by first | assumption | exact Mk.dec (by assumption)) aH) ?_
 rintro _ kz ⟨eY,eZ,fe,rfl,bW,aI⟩
 have bX:=bV _ _ bW
 have fQ:=aA aI
 have fU:=bX.rowC (i:=1) rfl
 refine WL.nil (bN (Ff (res0 rfl) ?_))
 have fo:=bX.px [] [4] []
 obtain⟨rfl,rfl⟩:=fT (hr.symm.trans (show _=(bR,bT) from et (iN z) (et (iN B) (et (ip F) (ai aH)))))
 exact⟨eY,eZ,fe,rfl,fo,aI⟩
 refine jF (dF F) (sr (Kz (.bool (decide (b.aI=7))) (An rfl ?_)))
 by_cases G:b.aI=7
 refine jT (dT G) (EO (Mz rfl (La (gP b j f l g m h) u 0 Tryz.isAgg42 Tryz.sizeOf42 ?_)))
 have fq:=u.pb [0]
 obtain⟨bY,aJ⟩:∃ q,mo I b a=q:=⟨_,rfl⟩
 obtain⟨kC,bZ,aa,cu,fV⟩:=FL fq
 refine cl Tryz.call59 (vZ _ _ U I r s p b j b.aD.ls.length f l b.ah.ls.length g C m b.ag.ls.length h d a bY bZ n rfl (aa _ J) (show b.aD.ls.length≤f∧b.aD.ls.length≤9223372036854775807 from by omega) E rfl (aa _ K) (show b.ah.ls.length≤g∧b.ah.ls.length≤9223372036854775807 from by omega) (fun x9 h9=>⟨aa _ (t x9 h9).1,(t x9 h9).2⟩) rfl (aa _ L) (show b.ag.ls.length≤h∧b.ag.ls.length≤9223372036854775807 from by omega) (by first | omega | (dsimp only; omega) | (simp only [List.length_nil]; omega) | decide) aJ) ?_
 rintro _ kD ⟨fu,fw,fA,rfl,cz,aK⟩
 have cB:=cu _ _ cz
 have fB:=aA aK
 have fC:=cB.rowC (i:=1) rfl
 refine WL.nil (bN (Ff (res0 rfl) ?_))
 have cK:=cB.px [] [4] []
 obtain⟨rfl,rfl⟩:=fT (hr.symm.trans (show _=(bY,a) from et (iN z) (et (iN B) (et (iN F) (et (ip G) (ai aJ))))))
 exact⟨fu,fw,fA,rfl,cK,aK⟩
 refine jF (dF G) (sr (Kz (.bool (decide (b.aI=9))) (An rfl ?_)))
 by_cases y:b.aI=9
 refine jT (dT y) ?_
 have cO:=u.pf [4]
 obtain⟨fZ,gm,gp,gq,gu,gy,gz,gB,gD,gF,gG,gH,gI,gJ,gK,gL,gM,gQ,gT,gU,gV,gW,gX,gY,gZ,ib,M,N,O,P,Q,R,S,T,fD,cZ⟩:=jK cO
 refine oF 22 [22] (bS.block Fp) cZ ?_
 intro ic ae
 refine qv 0 rfl rfl (qp U 0 1 rfl (qp U 0 2 rfl (ql 3 rfl 19 Tryz.isAgg24 rfl rfl rfl (qp W 1 4 rfl (ql 5 rfl 18 Tryz.isAgg3 rfl rfl rfl (qv 6 rfl rfl (qp U 0 7 rfl (qp U 0 8 rfl (ql 9 rfl 19 Tryz.isAgg24 rfl rfl rfl (qp W 1 10 rfl (ql 11 rfl 18 Tryz.isAgg3 rfl rfl rfl (qp d 0 12 rfl (qp d 29 13 rfl ?_)))))))))))))
 by_cases ag:b.aJ=1
 refine qt (v:=vP d 30) 14 rfl (fun _ _=>by rw [show b.aJ=1 from by omega]; exact yk) (ql 15 rfl 0 Tryz.isAgg28 rfl rfl rfl (qp W 10 16 rfl (ql 17 rfl 18 Tryz.isAgg28 rfl rfl rfl (qt (v:=vU (max a.cB b.aY)) 18 rfl (fun _ _=>EQ (e:=if((b.aY:Nat):Int) > ((a.cB:Nat):Int) then((b.aY:Nat):Int) else((a.cB:Nat):Int)) yk (by omega)) (qp d 0 19 rfl (qp d 29 20 rfl (qt (v:=vP d 30) 21 rfl (fun _ _=>by rw [show b.aJ=1 from by omega]; exact yk) ?_)))))))
 refine qe 22 rfl (Do.store (vs:= [vU (max a.cB b.aY)]) (o:=30) ae rfl rfl Tryz.sizeOf28 rfl rfl rfl rfl ?_)
 intro ig df
 refine⟨.inl (by kernel_rfl), ?_⟩
 refine qn (bN (Ff (res0 rfl) ?_))
 have dh:=eO M N O P Q R S T df
 have di:=dh.px [] [1] [0]
 obtain⟨rfl,rfl⟩:=fT (hr.symm.trans (show _=(I,(aC.mk a.aa a.bH (Ll.mk a.aB.ls) a.aR a.aN a.aM a.aO a.aP a.di (max a.cB b.aY) a.cZ a.cK a.cO)) from et (iN z) (et (iN B) (et (iN F) (et (iN G) (et (ip y) (ip ag)))))))
 exact⟨r,s,p,rfl,di,n⟩
 by_cases au:b.aJ=2
 refine qt (v:=vP d 31) 14 rfl (fun _ _=>by rw [show b.aJ=2 from by omega]; exact yk) (ql 15 rfl 0 Tryz.isAgg28 rfl rfl rfl (qp W 10 16 rfl (ql 17 rfl 18 Tryz.isAgg28 rfl rfl rfl (qt (v:=vU (max a.cZ b.aY)) 18 rfl (fun _ _=>EQ (e:=if((b.aY:Nat):Int) > ((a.cZ:Nat):Int) then((b.aY:Nat):Int) else((a.cZ:Nat):Int)) yk (by omega)) (qp d 0 19 rfl (qp d 29 20 rfl (qt (v:=vP d 31) 21 rfl (fun _ _=>by rw [show b.aJ=2 from by omega]; exact yk) ?_)))))))
 refine qe 22 rfl (Do.store (vs:= [vU (max a.cZ b.aY)]) (o:=31) ae rfl rfl Tryz.sizeOf28 rfl rfl rfl rfl ?_)
 intro ik dm
 refine⟨.inl (by kernel_rfl), ?_⟩
 refine qn (bN (Ff (res0 rfl) ?_))
 have dn:=eO M N O P Q R S T dm
 have dw:=dn.px [] [1] [0]
 obtain⟨rfl,rfl⟩:=fT (hr.symm.trans (show _=(I,(aC.mk a.aa a.bH (Ll.mk a.aB.ls) a.aR a.aN a.aM a.aO a.aP a.di a.cB (max a.cZ b.aY) a.cK a.cO)) from et (iN z) (et (iN B) (et (iN F) (et (iN G) (et (ip y) (et (iN ag) (ip au))))))))
 exact⟨r,s,p,rfl,dw,n⟩
 by_cases aM:b.aJ=3
 refine qt (v:=vP d 32) 14 rfl (fun _ _=>by rw [show b.aJ=3 from by omega]; exact yk) (ql 15 rfl 0 Tryz.isAgg28 rfl rfl rfl (qp W 10 16 rfl (ql 17 rfl 18 Tryz.isAgg28 rfl rfl rfl (qt (v:=vU (max a.cK b.aY)) 18 rfl (fun _ _=>EQ (e:=if((b.aY:Nat):Int) > ((a.cK:Nat):Int) then((b.aY:Nat):Int) else((a.cK:Nat):Int)) yk (by omega)) (qp d 0 19 rfl (qp d 29 20 rfl (qt (v:=vP d 32) 21 rfl (fun _ _=>by rw [show b.aJ=3 from by omega]; exact yk) ?_)))))))
 refine qe 22 rfl (Do.store (vs:= [vU (max a.cK b.aY)]) (o:=32) ae rfl rfl Tryz.sizeOf28 rfl rfl rfl rfl ?_)
 intro il dx
 refine⟨.inl (by kernel_rfl), ?_⟩
 refine qn (bN (Ff (res0 rfl) ?_))
 have dz:=eO M N O P Q R S T dx
 have dA:=dz.px [] [1] [0]
 obtain⟨rfl,rfl⟩:=fT (hr.symm.trans (show _=(I,(aC.mk a.aa a.bH (Ll.mk a.aB.ls) a.aR a.aN a.aM a.aO a.aP a.di a.cB a.cZ (max a.cK b.aY) a.cO)) from et (iN z) (et (iN B) (et (iN F) (et (iN G) (et (ip y) (et (iN ag) (et (iN au) (ip aM)))))))))
 exact⟨r,s,p,rfl,dA,n⟩
 refine qt (v:=vP d 33) 14 rfl (fun _ _=>by rw [show b.aJ=4 from by omega]; exact yk) (ql 15 rfl 0 Tryz.isAgg28 rfl rfl rfl (qp W 10 16 rfl (ql 17 rfl 18 Tryz.isAgg28 rfl rfl rfl (qt (v:=vU (max a.cO b.aY)) 18 rfl (fun _ _=>EQ (e:=if((b.aY:Nat):Int) > ((a.cO:Nat):Int) then((b.aY:Nat):Int) else((a.cO:Nat):Int)) yk (by omega)) (qp d 0 19 rfl (qp d 29 20 rfl (qt (v:=vP d 33) 21 rfl (fun _ _=>by rw [show b.aJ=4 from by omega]; exact yk) ?_)))))))
 refine qe 22 rfl (Do.store (vs:= [vU (max a.cO b.aY)]) (o:=33) ae rfl rfl Tryz.sizeOf28 rfl rfl rfl rfl ?_)
 intro iq dB
 refine⟨.inl (by kernel_rfl), ?_⟩
 refine qn (bN (Ff (res0 rfl) ?_))
 have dC:=eO M N O P Q R S T dB
 have dD:=dC.px [] [1] [0]
 obtain⟨rfl,rfl⟩:=fT (hr.symm.trans (show _=(I,(aC.mk a.aa a.bH (Ll.mk a.aB.ls) a.aR a.aN a.aM a.aO a.aP a.di a.cB a.cZ a.cK (max a.cO b.aY))) from et (iN z) (et (iN B) (et (iN F) (et (iN G) (et (ip y) (et (iN ag) (et (iN au) (iN aM)))))))))
 exact⟨r,s,p,rfl,dD,n⟩
 refine jF (dF y) (sr (Kz (.bool (decide (b.aI=13))) (An rfl ?_)))
 by_cases V:b.aI=13
 refine jT (dT V) (sr (Mz rfl (La (gP b j f l g m h) u 0 Tryz.isAgg42 Tryz.sizeOf42 ?_)))
 refine WL.do rfl (Fe Tryz.call60 rfl ?_ (fun _ _ k=>k))
 refine cb Tryz.func60 ?_
 refine sr ?_
 refine dP (gP b j f l g m h) 42 u ?_
 intro iw iy dE
 refine An rfl (EP ?_)
 have dG:=dE.pf [5]
 obtain⟨iA,iB,iC,iD,iE,iG,iH,iI,iJ,iK,iL,iM,iO,iP,iQ,iR,iT,iU,iV,iW,iX,iY,iZ,ja,jb,jc,aQ,aR,aS,aT,aU,aV,aW,aX,fE,dH⟩:=jK dG
 refine oF 23 [] (E9 Fp) dH ?_
 intro jd dI
 refine qv 0 rfl rfl (qp U 0 1 rfl (qp U 0 2 rfl (ql 3 rfl 20 Tryz.isAgg24 rfl rfl rfl (qp d 0 4 rfl (qp d 34 5 rfl (ql 6 rfl 0 Tryz.isAgg84 rfl rfl rfl (qk (.bool false) 7 rfl (qv 8 rfl rfl (EW (rs:= []) 9 rfl rfl rfl rfl (by kernel_rfl) (EW (rs:= []) 10 rfl rfl rfl rfl (by kernel_rfl) (EW (rs:= []) 11 rfl rfl rfl rfl (by kernel_rfl) (EW (rs:= []) 12 rfl rfl rfl rfl (by kernel_rfl) (EW (rs:= []) 13 rfl rfl rfl rfl (by kernel_rfl) (EW (rs:= []) 14 rfl rfl rfl rfl (by kernel_rfl) (EW (rs:= []) 15 rfl rfl rfl rfl (by kernel_rfl) (EW (rs:= []) 16 rfl rfl rfl rfl (by kernel_rfl) (EW (rs:= []) 17 rfl rfl rfl rfl (by kernel_rfl) (EW (rs:= []) 18 rfl rfl rfl rfl (by kernel_rfl) (EW (rs:= []) 19 rfl rfl rfl rfl (by kernel_rfl) (EW (rs:= []) 20 rfl rfl rfl rfl (by kernel_rfl) (EW (rs:= []) 21 rfl rfl rfl rfl (by kernel_rfl) (qt (v:= .bool false) 22 rfl (fun _ _=>ES rfl rfl rfl) (qv 23 rfl rfl (EW (rs:= []) 24 rfl rfl rfl rfl (by kernel_rfl) (EW (rs:= []) 25 rfl rfl rfl rfl (by kernel_rfl) (EW (rs:= []) 26 rfl rfl rfl rfl (by kernel_rfl) (EW (rs:= []) 27 rfl rfl rfl rfl (by kernel_rfl) (EW (rs:= []) 28 rfl rfl rfl rfl (by kernel_rfl) (EW (rs:= []) 29 rfl rfl rfl rfl (by kernel_rfl) (EW (rs:= []) 30 rfl rfl rfl rfl (by kernel_rfl) (EW (rs:= []) 31 rfl rfl rfl rfl (by kernel_rfl) (EW (rs:= []) 32 rfl rfl rfl rfl (by kernel_rfl) (EW (rs:= []) 33 rfl rfl rfl rfl (by kernel_rfl) (EW (rs:= []) 34 rfl rfl rfl rfl (by kernel_rfl) (EW (rs:= []) 35 rfl rfl rfl rfl (by kernel_rfl) (EW (rs:= []) 36 rfl rfl rfl rfl (by kernel_rfl) (qt (v:= .bool false) 37 rfl (fun _ _=>ES rfl rfl rfl) (qa 38 rfl rfl (qn ?_)))))))))))))))))))))))))))))))))))))))
 refine ER (rt (rs (nt (jf (Fs (bN (Ff (res0 rfl) ?_)))))))
 have dJ:=eO aQ aR aS aT aU aV aW aX dI
 have dK:=dJ.pk [3,4,5,0]
 obtain⟨rfl,rfl⟩:=fT (hr.symm.trans (show _=(I,a) from et (iN z) (et (iN B) (et (iN F) (et (iN G) (et (iN y) (ip V)))))))
 exact⟨r,s,p,rfl,dK,n⟩
 refine jF (dF V) (sr (Kz (.bool (decide (b.aI=14))) (An rfl ?_)))
 by_cases ah:b.aI=14
 refine jT (dT ah) (EO (Mz rfl (La (gP b j f l g m h) u 0 Tryz.isAgg42 Tryz.sizeOf42 ?_)))
 refine WL.do rfl (Fe Tryz.call61 rfl ?_ (fun _ _ k=>k))
 refine cb Tryz.func61 ?_
 refine sr ?_
 refine dP [vP U 0] 94 u ?_
 intro jg ji dL
 refine dP (gP b j f l g m h) 42 dL ?_
 intro jk jl av
 refine nt (EP (sr (Lz (vP U 0) av 1 Tryz.isAgg94 (La (gP b j f l g m h) av 0 Tryz.isAgg42 Tryz.sizeOf42 ?_))))
 refine WL.do rfl (Fe Tryz.call60 rfl ?_ (fun _ _ k=>k))
 refine cb Tryz.func60 ?_
 refine sr ?_
 refine dP (gP b j f l g m h) 42 av ?_
 intro jm jo dM
 refine An rfl (EP ?_)
 have dN:=dM.pf [7]
 obtain⟨jq,jr,jv,jw,jy,jA,jB,jC,jD,jE,jG,jH,jI,jJ,jL,jM,jN,jO,jP,jQ,jR,jS,jU,jV,jW,jX,aY,aZ,bf,bg,bi,bn,bq,bu,fF,dO⟩:=jK dN
 refine oF 25 [] (E9 Fp) dO ?_
 intro jY dQ
 refine qv 0 rfl rfl (qp U 0 1 rfl (qp U 0 2 rfl (ql 3 rfl 22 Tryz.isAgg24 rfl rfl rfl (qp d 0 4 rfl (qp d 34 5 rfl (ql 6 rfl 0 Tryz.isAgg84 rfl rfl rfl (qk (.bool false) 7 rfl (qv 8 rfl rfl (EW (rs:= []) 9 rfl rfl rfl rfl (by kernel_rfl) (EW (rs:= []) 10 rfl rfl rfl rfl (by kernel_rfl) (EW (rs:= []) 11 rfl rfl rfl rfl (by kernel_rfl) (EW (rs:= []) 12 rfl rfl rfl rfl (by kernel_rfl) (EW (rs:= []) 13 rfl rfl rfl rfl (by kernel_rfl) (EW (rs:= []) 14 rfl rfl rfl rfl (by kernel_rfl) (EW (rs:= []) 15 rfl rfl rfl rfl (by kernel_rfl) (EW (rs:= []) 16 rfl rfl rfl rfl (by kernel_rfl) (EW (rs:= []) 17 rfl rfl rfl rfl (by kernel_rfl) (EW (rs:= []) 18 rfl rfl rfl rfl (by kernel_rfl) (EW (rs:= []) 19 rfl rfl rfl rfl (by kernel_rfl) (EW (rs:= []) 20 rfl rfl rfl rfl (by kernel_rfl) (EW (rs:= []) 21 rfl rfl rfl rfl (by kernel_rfl) (qt (v:= .bool false) 22 rfl (fun _ _=>ES rfl rfl rfl) (qv 23 rfl rfl (EW (rs:= []) 24 rfl rfl rfl rfl (by kernel_rfl) (EW (rs:= []) 25 rfl rfl rfl rfl (by kernel_rfl) (EW (rs:= []) 26 rfl rfl rfl rfl (by kernel_rfl) (EW (rs:= []) 27 rfl rfl rfl rfl (by kernel_rfl) (EW (rs:= []) 28 rfl rfl rfl rfl (by kernel_rfl) (EW (rs:= []) 29 rfl rfl rfl rfl (by kernel_rfl) (EW (rs:= []) 30 rfl rfl rfl rfl (by kernel_rfl) (EW (rs:= []) 31 rfl rfl rfl rfl (by kernel_rfl) (EW (rs:= []) 32 rfl rfl rfl rfl (by kernel_rfl) (EW (rs:= []) 33 rfl rfl rfl rfl (by kernel_rfl) (EW (rs:= []) 34 rfl rfl rfl rfl (by kernel_rfl) (EW (rs:= []) 35 rfl rfl rfl rfl (by kernel_rfl) (EW (rs:= []) 36 rfl rfl rfl rfl (by kernel_rfl) (qt (v:= .bool false) 37 rfl (fun _ _=>ES rfl rfl rfl) (qa 38 rfl rfl (qn ?_)))))))))))))))))))))))))))))))))))))))
 refine ER (rt (rs (Kz (.bool true) (nt (jt (rt (tR (Fin.res (res0 rfl) (WL.nil (bN (Ff (res0 rfl) ?_)))))))))))
 have dR:=eO aY aZ bf bg bi bn bq bu dQ
 have dS:=dR.pk [5,6,7,0]
 obtain⟨rfl,rfl⟩:=fT (hr.symm.trans (show _=(I,a) from et (iN z) (et (iN B) (et (iN F) (et (iN G) (et (iN y) (et (iN V) (ip ah))))))))
 exact⟨r,s,p,rfl,dS,n⟩
 refine jF (dF ah) (Fs (bN (Ff (res0 rfl) ?_)))
 have dU:=u.px [] [0] []
 obtain⟨rfl,rfl⟩:=fT (hr.symm.trans (show _=(I,a) from et (iN z) (et (iN B) (et (iN F) (et (iN G) (et (iN y) (et (iN V) (iN ah))))))))
 exact⟨r,s,p,rfl,dU,n⟩
end Go.Proofs.YtbkagebjhbphaaaGreat
