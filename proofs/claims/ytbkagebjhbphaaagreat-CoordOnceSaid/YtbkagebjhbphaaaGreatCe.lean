/-
 coord: a transaction begins.
-/
import Derived.Test.YtbkagebjhbphaaaGreatCc
namespace Go.Proofs.YtbkagebjhbphaaaGreat
open Int renaming toNat→D0
open IntKind renaming i64→C5,u64→D1
open List renaming flatMap→q3,flatMap_append→r4,length→r8,length_append→o1,length_cons→s0,length_drop→o0,length_nil→F2,length_replicate→H2,length_set→H1,length_take→m9,map→s5,map_replicate→L6,mem_append_right→v2,mem_flatMap→Q3,mem_of_getElem?→D3,not_mem_nil→y6,replicate→r6
open Ll renaming mk→E2
open Sv renaming mk→H0
open _root_.Go.Proofs.Tryz renaming call106→Q8,isAgg24→P3,isAgg28→D4,isAgg39→Q7,isAgg79→Q1
set_option maxRecDepth 100000
open Go.RowKit
set_option linter.unusedVariables false
set_option linter.unusedSectionVars false
set_option linter.unusedSimpArgs false
def iO (k:Int) (p2:bL) (a:aA) (e:Nat) (d:List gF):List gF→Nat→List bL→(List bL)
  | [],b,c=>c
  | f::g,b,c=>bnd (List.getD (r6 d.length false) b default) fun h=>if h=true then iO k p2 a e d g (b+1) c else bnd (il (aA.mk a.aa (D0 (D1.wrap (((a.bP:Nat):Int)+1))) (E2 (a.ay.ls++ [(dK.mk e k p2.aP a.aa.aL (E2 p2.aH.ls) (E2 d) (E2 (r6 d.length false)) (E2 (r6 d.length (E2 []:Ll aQ))) 0)])) a.bK a.bA a.bz a.bv a.bq a.dP a.dH a.dI a.dG a.dJ)) fun i=>bnd (dw (bI.mk (E2 c)) (bL.mk 3 0 f.eG 0 0 0 0 0 e i 0 a.aa.aL 0 0 0 false (bC.mk ([]) ([])) (E2 f.aH.ls) (E2 ([])) (E2 ([])))) fun j=>iO k p2 a e d g (b+1) j.aX.ls
def dQ (i:bI) (h:Int) (p2:bL) (a:aA):bI × aA:=
 bnd (fT a) fun g=>bnd (il a) fun j=>bnd (lF a.aa.ag.ls p2.aH.ls) fun f=>if((a.ay.ls.length:Nat):Int) ≥ 6 then bnd (dC i h p2.aP 2 ([]) (aA.mk a.aa (D0 (D1.wrap (((a.bP:Nat):Int)+1))) (E2 a.ay.ls) a.bK a.bA a.bz a.bv a.bq a.dP a.dH a.dI a.dG a.dJ)) fun e=>(e.1,aA.mk (cZ.mk e.2.aa.au e.2.aa.av e.2.aa.aV e.2.aa.aL (E2 a.aa.ag.ls) (E2 a.aa.aj.ls) (E2 a.aa.aF.ls)) e.2.bP (E2 a.ay.ls) e.2.bK e.2.bA e.2.bz e.2.bv e.2.bq e.2.dP e.2.dH e.2.dI e.2.dG e.2.dJ) else if((a.ay.ls.length+a.aa.aj.ls.length:Nat):Int) ≥ 8 then bnd (dC i h p2.aP 2 ([]) (aA.mk a.aa (D0 (D1.wrap (((a.bP:Nat):Int)+1))) (E2 a.ay.ls) a.bK a.bA a.bz a.bv a.bq a.dP a.dH a.dI a.dG a.dJ)) fun b=>(b.1,aA.mk (cZ.mk b.2.aa.au b.2.aa.av b.2.aa.aV b.2.aa.aL (E2 a.aa.ag.ls) (E2 a.aa.aj.ls) (E2 a.aa.aF.ls)) b.2.bP (E2 a.ay.ls) b.2.bK b.2.bA b.2.bz b.2.bv b.2.bq b.2.dP b.2.dH b.2.dI b.2.dG b.2.dJ) else if((D0 (D1.wrap (((g:Nat):Int) - ((j:Nat):Int))):Nat):Int) ≥ 64 then bnd (dC i h p2.aP 2 ([]) (aA.mk a.aa (D0 (D1.wrap (((a.bP:Nat):Int)+1))) (E2 a.ay.ls) a.bK a.bA a.bz a.bv a.bq a.dP a.dH a.dI a.dG a.dJ)) fun c=>(c.1,aA.mk (cZ.mk c.2.aa.au c.2.aa.av c.2.aa.aV c.2.aa.aL (E2 a.aa.ag.ls) (E2 a.aa.aj.ls) (E2 a.aa.aF.ls)) c.2.bP (E2 a.ay.ls) c.2.bK c.2.bA c.2.bz c.2.bv c.2.bq c.2.dP c.2.dH c.2.dI c.2.dG c.2.dJ) else if f.2=0 then bnd (iO h p2 a g f.1 f.1 0 i.aX.ls) fun sLrbbbffftL=>(bI.mk (E2 sLrbbbffftL),aA.mk a.aa (D0 (D1.wrap (((a.bP:Nat):Int)+1))) (E2 (a.ay.ls++ [(dK.mk g h p2.aP a.aa.aL (E2 p2.aH.ls) (E2 f.1) (E2 (r6 f.1.length false)) (E2 (r6 f.1.length (E2 []:Ll aQ))) 0)])) a.bK a.bA a.bz a.bv a.bq a.dP a.dH a.dI a.dG a.dJ) else bnd (dC i h p2.aP 2 ([]) (aA.mk a.aa (D0 (D1.wrap (((a.bP:Nat):Int)+1))) (E2 a.ay.ls) a.bK a.bA a.bz a.bv a.bq a.dP a.dH a.dI a.dG a.dJ)) fun d=>(d.1,aA.mk (cZ.mk d.2.aa.au d.2.aa.av d.2.aa.aV d.2.aa.aL (E2 a.aa.ag.ls) (E2 a.aa.aj.ls) (E2 a.aa.aF.ls)) d.2.bP (E2 a.ay.ls) d.2.bK d.2.bA d.2.bz d.2.bv d.2.bq d.2.dP d.2.dH d.2.dI d.2.dG d.2.dJ)
set_option maxHeartbeats 4000000 in
theorem jP (w D g0) (p0:bI) (bK bM bD p1) (p2:bL) (dx iT dz eG iU eH eO eP iV eQ d) (a:aA) (l n p h M B C af I F G N O ag P Q ai S T aj U V ak W X au) (r0:bI) (r1:aA) (H:Own w D w [blk g0 [.pointer (some ⟨d,0,none⟩), .slice bK p0.aX.ls.length bM] 98,row bK p0.aX.ls.length bM (q3 bf.cells bD) 42 21,sepL (q3 bf.own bD),mK d a l a.aa.ag.ls.length n p h B C I F N O P Q S T U V W X,row l a.aa.ag.ls.length n (q3 aY.cells a.aa.ag.ls) 89 2,row p a.aa.aj.ls.length h (q3 aC.cells M) 60 5,sepL (q3 aC.own M),row B a.aa.aF.ls.length C (q3 aU.cells af) 56 4,sepL (q3 aU.own af),row I a.ay.ls.length F (q3 bB.cells G) 107 9,sepL (q3 bB.own G),row N a.bK.af.ls.length O (q3 ae.cells ag) 149 3,sepL (q3 ae.own ag),row P a.bA.af.ls.length Q (q3 ae.cells ai) 149 3,sepL (q3 ae.own ai),row S a.bz.af.ls.length T (q3 ae.cells aj) 149 3,sepL (q3 ae.own aj),row U a.bv.af.ls.length V (q3 ae.cells ak) 149 3,sepL (q3 ae.own ak),row W a.bq.af.ls.length X (q3 ae.cells au) 149 3,sepL (q3 ae.own au)]) (bA:s5 bf.abs bD=p0.aX.ls) (jk:iT=p2.aH.ls.length) (eT:Ro w D fun w'=>bE w' 6 dx p2.aH.ls.length (q3 bi.cells p2.aH.ls)) (pY:p2.aH.ls.length≤dz∧p2.aH.ls.length≤9223372036854775807) (jl:s5 ae.abs eO=p2.ai.ls) (jm:iU=p2.ai.ls.length) (p8:Ro w D fun w'=>bE w' 3 eG p2.ai.ls.length (q3 ae.cells eO)) (p9:p2.ai.ls.length≤eH∧p2.ai.ls.length≤9223372036854775807) (qb:∀ x ∈ eO,Ro w D (fun w'=>bE w' 2 x.ak.A x.ak.ls.length (q3 aI.cells x.ak.ls))∧(x.ak.ls.length≤x.ak.c∧x.ak.ls.length≤9223372036854775807)) (jo:iV=p2.ag.ls.length) (qc:Ro w D fun w'=>bE w' 2 eP p2.ag.ls.length (q3 aY.cells p2.ag.ls)) (qf:p2.ag.ls.length≤eQ∧p2.ag.ls.length≤9223372036854775807) (av:s5 aC.abs M=a.aa.aj.ls) (aM:s5 aU.abs af=a.aa.aF.ls) (Y:s5 bB.abs G=a.ay.ls) (aN:s5 ae.abs ag=a.bK.af.ls) (aP:s5 ae.abs ai=a.bA.af.ls) (aR:s5 ae.abs aj=a.bz.af.ls) (aS:s5 ae.abs ak=a.bv.af.ls) (aT:s5 ae.abs au=a.bq.af.ls) (uT:a.aa.ag.ls.length≤1000∧a.aa.aj.ls.length≤1000∧a.aa.aF.ls.length≤1000∧a.ay.ls.length≤1000∧p0.aX.ls.length≤100000) (uU:1≤p1∧p1≤4) (uV:p2.aH.ls.length≤24∧p2.ag.ls.length≤1000∧p2.ai.ls.length≤1000∧ky p2.aP) (hr:dQ p0 p1 p2 a=(r0,r1)):
    Calls Tryz.prog 90 #[vP g0 0,vI p1, .agg (gU p2.aD p2.aJ p2.fI p2.aK p2.dz p2.eH p2.aP p2.av p2.aN p2.dY p2.aV p2.aL p2.dL p2.cu p2.xN p2.cz p2.bU.bF p2.bU.bT dx iT dz eG iU eH eP iV eQ).toArray] w (d9 fun v w'=> ∃ eU eX dE eY fe fo fq dG fu fA dH fC fE dI fG fH dJ fI fJ dL fK fM dO fO fP dP fQ fV dR,v= .tuple #[]∧Own w D w' [blk g0 [vP d 0, .slice eU r0.aX.ls.length eX] 98,row eU r0.aX.ls.length eX (q3 bf.cells dE) 42 21,sepL (q3 bf.own dE),mK d r1 eY r1.aa.ag.ls.length fe fo fq fu fA fC fE fG fH fI fJ fK fM fO fP fQ fV,row eY r1.aa.ag.ls.length fe (q3 aY.cells r1.aa.ag.ls) 89 2,row fo r1.aa.aj.ls.length fq (q3 aC.cells dG) 60 5,sepL (q3 aC.own dG),row fu r1.aa.aF.ls.length fA (q3 aU.cells dH) 56 4,sepL (q3 aU.own dH),row fC r1.ay.ls.length fE (q3 bB.cells dI) 107 9,sepL (q3 bB.own dI),row fG r1.bK.af.ls.length fH (q3 ae.cells dJ) 149 3,sepL (q3 ae.own dJ),row fI r1.bA.af.ls.length fJ (q3 ae.cells dL) 149 3,sepL (q3 ae.own dL),row fK r1.bz.af.ls.length fM (q3 ae.cells dO) 149 3,sepL (q3 ae.own dO),row fO r1.bv.af.ls.length fP (q3 ae.cells dP) 149 3,sepL (q3 ae.own dP),row fQ r1.bq.af.ls.length fV (q3 ae.cells dR) 149 3,sepL (q3 ae.own dR)]∧(s5 bf.abs dE=r0.aX.ls)∧(s5 aC.abs dG=r1.aa.aj.ls)∧(s5 aU.abs dH=r1.aa.aF.ls)∧(s5 bB.abs dI=r1.ay.ls)∧(s5 ae.abs dJ=r1.bK.af.ls)∧(s5 ae.abs dL=r1.bA.af.ls)∧(s5 ae.abs dO=r1.bz.af.ls)∧(s5 ae.abs dP=r1.bv.af.ls)∧(s5 ae.abs dR=r1.bq.af.ls)):=by
 subst jk jm jo
 have pW:=aB bA
 have pX:=aB jl
 have jZ:=aB av
 have j3:=aB aM
 have j4:=aB Y
 have j5:=aB aN
 have j6:=aB aP
 have kg:=aB aR
 have ko:=aB aS
 have ku:=aB aT
 have qi:=H.rowC (i:=1) rfl
 have kv:=H.rowC (i:=4) rfl
 have kw:=H.rowC (i:=5) rfl
 have kz:=H.rowC (i:=7) rfl
 have kC:=H.rowC (i:=9) rfl
 have kD:=H.rowC (i:=11) rfl
 have kE:=H.rowC (i:=13) rfl
 have kF:=H.rowC (i:=15) rfl
 have kG:=H.rowC (i:=17) rfl
 have kH:=H.rowC (i:=19) rfl
 refine cb Tryz.func90 ?_
 refine sr ?_
 refine dV (iH p2 dx dz eG eH eP eQ) 42 H ?_
 intro dU uW qj
 refine nt (Ic ?_)
 refine pU 22 [] (Iu IC) qj ?_
 intro uY qm
 refine qv 0 rfl rfl (qp g0 0 1 rfl (qp g0 0 2 rfl (ql 3 rfl 1 P3 rfl rfl rfl (qv 5 rfl rfl (qp g0 0 6 rfl (qp g0 0 7 rfl (ql 8 rfl 1 P3 rfl rfl rfl ?_)))))))
 have qo:=qm.pf [4]
 obtain⟨g,bY⟩:∃ q,fT a=q:=⟨_,rfl⟩
 obtain⟨uZ,kI,tT,kJ,tV⟩:=II qo
 refine qd 4 rfl (Iz Tryz.call126 rfl (qP _ _ d a l n p h B C I F N O P Q S T U V W X g kI bY) ?_)
 rintro _ u6 ⟨rfl,kK,iW⟩
 have qw:=kJ _ _ kK
 replace iW:g≤18446744073709551615:=iW
 have kL:=qw.pf [1,2,3,4]
 refine⟨.inr ⟨_,kL⟩, ?_⟩
 have bH:=kL.pf [4]
 have tX:=bH.rowC (i:=6) rfl
 have tY:=bH.rowC (i:=10) rfl
 obtain⟨dW,cu⟩:∃ q,il a=q:=⟨_,rfl⟩
 obtain⟨u7,kM,tZ,kN,bq⟩:=II bH
 refine qd 9 rfl (Iz Tryz.call108 rfl (o9 _ _ d a l n p h M B C I F G N O P Q S T U V W X dW kM av (bq _ 5 _ rfl aO) (show a.aa.aj.ls.length≤h∧a.aa.aj.ls.length≤9223372036854775807 from by omega) (fun x9 Z=>⟨bq _ 6 _ rfl (ax (Q3.2 ⟨x9,Z,b1⟩) aO),aZ (φ:=fun _=>_) bH (i:=7) rfl (ax (Q3.2 ⟨x9,Z,b1⟩) aW)⟩) Y (bq _ 9 _ rfl aO) (show a.ay.ls.length≤F∧a.ay.ls.length≤9223372036854775807 from by omega) (fun x9 Z=>⟨bq _ 10 _ rfl (ax (Q3.2 ⟨x9,Z,b1⟩) aO),aZ (φ:=fun _=>_) bH (i:=11) rfl (ax (Q3.2 ⟨x9,Z,b1⟩) aW),bq _ 10 _ rfl (ax (Q3.2 ⟨x9,Z, .tail _ b1⟩) aO),aZ (φ:=fun _=>_) bH (i:=11) rfl (ax (Q3.2 ⟨x9,Z, .tail _ b1⟩) aW),(fun y1 k1=>⟨bq _ 10 _ rfl (ax (Q3.2 ⟨x9,Z, .tail _ b4⟩) (ax (Q3.2 ⟨y1,k1,b1⟩) aO)),aZ (φ:=fun _=>_) bH (i:=11) rfl (ax (Q3.2 ⟨x9,Z, .tail _ b4⟩) (ax (Q3.2 ⟨y1,k1,b1⟩) aW)),bq _ 10 _ rfl (ax (Q3.2 ⟨x9,Z, .tail _ b4⟩) (ax (Q3.2 ⟨y1,k1, .tail _ b1⟩) aO)),aZ (φ:=fun _=>_) bH (i:=11) rfl (ax (Q3.2 ⟨x9,Z, .tail _ b4⟩) (ax (Q3.2 ⟨y1,k1, .tail _ b1⟩) aW))⟩),bq _ 10 _ rfl (ax (Q3.2 ⟨x9,Z, .tail _ b2⟩) aO),aZ (φ:=fun _=>_) bH (i:=11) rfl (ax (Q3.2 ⟨x9,Z, .tail _ b2⟩) aW),bq _ 10 _ rfl (ax (Q3.2 ⟨x9,Z, .tail _ b3⟩) aO),aZ (φ:=fun _=>_) bH (i:=11) rfl (ax (Q3.2 ⟨x9,Z, .tail _ b3⟩) aW),(fun y1 k1=>⟨bq _ 10 _ rfl (ax (Q3.2 ⟨x9,Z, .tail _ b5⟩) (ax (Q3.2 ⟨y1,k1,b1⟩) aO)),aZ (φ:=fun _=>_) bH (i:=11) rfl (ax (Q3.2 ⟨x9,Z, .tail _ b5⟩) (ax (Q3.2 ⟨y1,k1,b1⟩) aW)),(fun y2 k2=>⟨bq _ 10 _ rfl (ax (Q3.2 ⟨x9,Z, .tail _ b5⟩) (ax (Q3.2 ⟨y1,k1, .tail _ b1⟩) (ax (Q3.2 ⟨y2,k2,b1⟩) aO))),aZ (φ:=fun _=>_) bH (i:=11) rfl (ax (Q3.2 ⟨x9,Z, .tail _ b5⟩) (ax (Q3.2 ⟨y1,k1, .tail _ b1⟩) (ax (Q3.2 ⟨y2,k2,b1⟩) aW)))⟩)⟩)⟩) e8 cu) ?_)
 rintro _ ve ⟨rfl,kQ⟩
 have qx:=kN _ _ kQ
 have iQ:=qx.pf [1,2,3,4]
 refine⟨.inr ⟨_,iQ⟩, ?_⟩
 refine qa 10 rfl rfl (qa 11 rfl rfl (qn (Ig (sr (Mz rfl (Kz (vP g0 0) (Kz (vP g0 0) (Lz (vP d 0) iQ 1 P3 (Kz (vP d 0) (Kz (vP d 7) (Lz (vU a.bP) iQ 4 D4 (fw (.int .u64 ((D0 (D1.wrap (((a.bP:Nat):Int)+1)):Nat):Int)) (Ie (e:=D1.wrap (((a.bP:Nat):Int)+1)) yk (fD _)) (Kz (vP d 0) (Kz (vP d 7) ?_))))))))))))))
 have qy:=iQ.pf [4]
 refine dS [.int .u64 ((D0 (D1.wrap (((a.bP:Nat):Int)+1)):Nat):Int)] 7 qy Tryz.sizeOf28 ?_
 intro vg qz
 refine nt (Ic ?_)
 refine pU 22 [] (Iu IC) qz ?_
 intro vk qA
 refine qv 0 rfl rfl (qp g0 0 1 rfl (qp g0 0 2 rfl (ql 3 rfl 2 P3 rfl rfl rfl (qp d 0 4 rfl (qp d 0 5 rfl (qp d 4 6 rfl (ql 7 rfl 0 Tryz.isAgg29 rfl rfl rfl (qp dU 18 8 rfl (ql 9 rfl 1 Q7 rfl rfl rfl ?_)))))))))
 obtain⟨⟨b,dX⟩,bF⟩:∃ q:(List gF) × Int,lF a.aa.ag.ls p2.aH.ls=q:=⟨_,rfl⟩
 obtain⟨vo,kR,kS,kT,kU⟩:=Ii qA
 refine qd 10 rfl (Iz Tryz.call127 rfl (A9 _ _ l a.aa.ag.ls.length n a.aa.ag.ls dx p2.aH.ls.length dz p2.aH.ls b dX kR (kU _ 5 _ rfl aO) rfl e6 (kS _ eT) rfl e6 bF) ?_)
 rintro _ vv ⟨aa,aH,bg,rfl,kV,bv⟩
 have kW:=kT _ _ kV
 have uf:=aB bv
 have ug:=kW.rowC (i:=0) rfl
 have kX:∀ x ∈ b,x.aH.ls.length≤24024:=Cc bF e6 e6
 have uh:b.length≤5:=Ca bF
 have kY:=kW.pb [0,1]
 refine⟨.inr ⟨_,kY⟩, ?_⟩
 refine qv 11 rfl rfl (qk (.slice aa b.length aH) 12 rfl (qk (vI dX) 13 rfl (qa 14 rfl rfl (qa 15 rfl rfl (qn (Ig (Ic ?_)))))))
 refine pU 24 [] (Iu IC) kY ?_
 intro vw di
 refine qv 0 rfl rfl (qp g0 0 1 rfl (qp g0 0 2 rfl (ql 3 rfl 2 P3 rfl rfl rfl (qp d 0 4 rfl (qp d 8 5 rfl (ql 6 rfl 0 Q1 rfl rfl rfl (qk (vJ a.ay.ls.length) 7 rfl (qk (.bool (decide (((a.ay.ls.length:Nat):Int) ≥ 6))) 8 rfl (qv 9 rfl rfl ?_)))))))))
 by_cases j:((a.ay.ls.length:Nat):Int) ≥ 6
 refine Ik (rs:= []) 10 rfl rfl rfl (dT j) e7 (Ik (rs:= []) 11 rfl rfl rfl (dT j) e7 (Ik (rs:= []) 12 rfl rfl rfl (dT j) e7 (Ik (rs:= []) 13 rfl rfl rfl (dT j) e7 (Ik (rs:= []) 14 rfl rfl rfl (dT j) e7 (Ik (rs:= []) 15 rfl rfl rfl (dT j) e7 (Ik (rs:= []) 16 rfl rfl rfl (dT j) e7 (Ik (rs:= []) 17 rfl rfl rfl (dT j) e7 (Ik (rs:= []) 18 rfl rfl rfl (dT j) e7 (Ik (rs:= []) 19 rfl rfl rfl (dT j) e7 (Ik (rs:= []) 20 rfl rfl rfl (dT j) e7 (Ik (rs:= []) 21 rfl rfl rfl (dT j) e7 (Ik (rs:= []) 22 rfl rfl rfl (dT j) e7 (Ik (rs:= []) 23 rfl rfl rfl (dT j) e7 (Ik (rs:= []) 24 rfl rfl rfl (dT j) e7 (Ik (rs:= []) 25 rfl rfl rfl (dT j) e7 (Ik (rs:= []) 26 rfl rfl rfl (dT j) e7 (Ik (rs:= []) 27 rfl rfl rfl (dT j) e7 (Ik (rs:= []) 28 rfl rfl rfl (dT j) e7 (qt (v:= .bool true) 29 rfl (fun _ _=>Iw rfl (dT j) rfl) (qv 30 rfl rfl (Ik (rs:= []) 31 rfl rfl rfl rfl e7 (Ik (rs:= []) 32 rfl rfl rfl rfl e7 (Ik (rs:= []) 33 rfl rfl rfl rfl e7 (Ik (rs:= []) 34 rfl rfl rfl rfl e7 (qt (v:= .bool true) 35 rfl (fun _ _=>Iw rfl rfl rfl) (qa 36 rfl rfl (qn (Ig (Ic (sr (Mz rfl (Mz rfl (Sz rfl (Sz rfl (fw (.bool true) (Iw rfl rfl rfl) (nt (jt ?_)))))))))))))))))))))))))))))))))))))
 refine sr (Mz rfl (Mz rfl (Kz (vP dU 6) (Lz (vU p2.aP) di 1 D4 ?_))))
 have qB:=di.px [2,3,4] [] [1,5,6,7,8,9,10,11,22,23]
 obtain⟨⟨jq,bu⟩,iX⟩:∃ q:bI × aA,dC p0 p1 p2.aP 2 ([]) (aA.mk a.aa (D0 (D1.wrap (((a.bP:Nat):Int)+1))) (E2 a.ay.ls) a.bK a.bA a.bz a.bv a.bq a.dP a.dH a.dI a.dG a.dJ)=q:=⟨_,rfl⟩
 obtain⟨vz,kZ,ui,lc,uj⟩:=Ja qB
 refine cl Q8 (kr _ _ g0 p0 bK bM bD p1 p2.aP 2 none 0 0 [] ([]) d (aA.mk a.aa (D0 (D1.wrap (((a.bP:Nat):Int)+1))) (E2 a.ay.ls) a.bK a.bA a.bz a.bv a.bq a.dP a.dH a.dI a.dG a.dJ) l n p h B C I F N O ag P Q ai S T aj U V ak W X au jq bu kZ bA rfl (fun _ _=>bE.nil _ _ _) (fun _ Z=>absurd Z y6) rfl i8 g6 aN aP aR aS aT e8 g3 g3 i2 iX) ?_
 rintro _ vB ⟨qC,qD,qE,lg,lh,ll,lm,lq,lu,lv,lw,lC,lD,lG,lH,lI,lJ,lK,rfl,lL,iY,fZ,gq,gu,gy,gz,gB⟩
 have dY:=lc _ _ lL
 have qF:=aB iY
 have qG:=aB fZ
 have qH:=aB gq
 have qI:=aB gu
 have qJ:=aB gy
 have qK:=aB gz
 have qL:=dY.rowC (i:=1) rfl
 have qM:=dY.rowC (i:=4) rfl
 have qN:=dY.rowC (i:=6) rfl
 have qO:=dY.rowC (i:=8) rfl
 have qQ:=dY.rowC (i:=10) rfl
 have qR:=dY.rowC (i:=12) rfl
 replace gB:jq.aX.ls.length=p0.aX.ls.length+1:=gB
 refine nt (rt (tR (Fin.res (res0 rfl) ?_)))
 have lM:=dY.px [] [14,22,23] [4,5,6,7,8,9,10,11,12,13]
 obtain⟨rfl,rfl⟩:=ic (hr.symm.trans (show _=(jq,aA.mk (cZ.mk bu.aa.au bu.aa.av bu.aa.aV bu.aa.aL (E2 a.aa.ag.ls) (E2 a.aa.aj.ls) (E2 a.aa.aF.ls)) bu.bP (E2 a.ay.ls) bu.bK bu.bA bu.bz bu.bv bu.bq bu.dP bu.dH bu.dI bu.dG bu.dJ) from et (ah bY) (et (ah cu) (et (ah bF) (et (ip j) (ah iX))))))
 exact⟨qC,qD,qE,l,n,p,h,M,B,C,af,I,F,G,lg,lh,ll,lm,lq,lu,lv,lw,lC,lD,lG,lH,lI,lJ,lK,rfl,lM,iY,av,aM,Y,fZ,gq,gu,gy,gz⟩
 refine Ip (v:=vP g0 0) (rs:= []) 10 rfl rfl rfl (dF j) e7 (fun _ _=>Iq rfl) (Ip (v:=vP g0 0) (rs:= []) 11 rfl rfl rfl (dF j) e7 (fun _ _=>yk) (Ip (v:=vP g0 0) (rs:= []) 12 rfl rfl rfl (dF j) e7 (fun _ _=>yk) (Ip (v:=vP d 0) (rs:= []) 13 rfl rfl rfl (dF j) e7 (fun _ ⟨_,H9⟩=>Io rfl (bZ.one P3 (jR.of (H9.cls (i:=2) rfl) rfl))) (Ip (v:=vP d 0) (rs:= []) 14 rfl rfl rfl (dF j) e7 (fun _ _=>yk) (Ip (v:=vP d 8) (rs:= []) 15 rfl rfl rfl (dF j) e7 (fun _ _=>yk) (Ip (v:= .slice I a.ay.ls.length F) (rs:= []) 16 rfl rfl rfl (dF j) e7 (fun _ ⟨_,H9⟩=>Io rfl (bZ.one Q1 (jR.of (H9.cls (i:=0) rfl) rfl))) (Ip (v:=vJ a.ay.ls.length) (rs:= []) 17 rfl rfl rfl (dF j) e7 (fun _ _=>yk) (Ip (v:=vP g0 0) (rs:= []) 18 rfl rfl rfl (dF j) e7 (fun _ _=>Iq rfl) (Ip (v:=vP g0 0) (rs:= []) 19 rfl rfl rfl (dF j) e7 (fun _ _=>yk) (Ip (v:=vP g0 0) (rs:= []) 20 rfl rfl rfl (dF j) e7 (fun _ _=>yk) (Ip (v:=vP d 0) (rs:= []) 21 rfl rfl rfl (dF j) e7 (fun _ ⟨_,H9⟩=>Io rfl (bZ.one P3 (jR.of (H9.cls (i:=2) rfl) rfl))) (Ip (v:=vP d 0) (rs:= []) 22 rfl rfl rfl (dF j) e7 (fun _ _=>yk) (Ip (v:=vP d 0) (rs:= []) 23 rfl rfl rfl (dF j) e7 (fun _ _=>yk) (Ip (v:=vP d 5) (rs:= []) 24 rfl rfl rfl (dF j) e7 (fun _ _=>yk) (Ip (v:= .slice p a.aa.aj.ls.length h) (rs:= []) 25 rfl rfl rfl (dF j) e7 (fun _ ⟨_,H9⟩=>Io rfl (bZ.one Tryz.isAgg30 (jR.of (H9.cls (i:=0) rfl) rfl))) (Ip (v:=vJ a.aa.aj.ls.length) (rs:= []) 26 rfl rfl rfl (dF j) e7 (fun _ _=>yk) (Ip (v:=vJ (a.ay.ls.length+a.aa.aj.ls.length)) (rs:= []) 27 rfl rfl rfl (dF j) e7 (fun _ _=>Ie (e:=C5.wrap (((a.ay.ls.length:Nat):Int)+((a.aa.aj.ls.length:Nat):Int))) yk f0) (Ip (v:= .bool (decide (((a.ay.ls.length+a.aa.aj.ls.length:Nat):Int) ≥ 8))) (rs:= []) 28 rfl rfl rfl (dF j) e7 (fun _ _=>yk) (qt (v:= .bool (decide (((a.ay.ls.length+a.aa.aj.ls.length:Nat):Int) ≥ 8))) 29 rfl (fun _ _=>Ih rfl (dF j) rfl) (qv 30 rfl rfl ?_))))))))))))))))))))
 by_cases aK:((a.ay.ls.length+a.aa.aj.ls.length:Nat):Int) ≥ 8
 refine Ik (rs:= []) 31 rfl rfl rfl (dT aK) e7 (Ik (rs:= []) 32 rfl rfl rfl (dT aK) e7 (Ik (rs:= []) 33 rfl rfl rfl (dT aK) e7 (Ik (rs:= []) 34 rfl rfl rfl (dT aK) e7 (qt (v:= .bool true) 35 rfl (fun _ _=>Iw rfl (dT aK) rfl) (qa 36 rfl rfl (qn (Ig (Ic (sr (Mz rfl (Mz rfl (Sz rfl (Sz rfl (fw (.bool true) (Iw rfl rfl rfl) (nt (jt (sr (Mz rfl (Mz rfl (Kz (vP dU 6) (Lz (vU p2.aP) di 1 D4 ?_)))))))))))))))))))))
 have lN:=di.px [2,3,4] [] [1,5,6,7,8,9,10,11,22,23]
 obtain⟨⟨gD,az⟩,gG⟩:∃ q:bI × aA,dC p0 p1 p2.aP 2 ([]) (aA.mk a.aa (D0 (D1.wrap (((a.bP:Nat):Int)+1))) (E2 a.ay.ls) a.bK a.bA a.bz a.bv a.bq a.dP a.dH a.dI a.dG a.dJ)=q:=⟨_,rfl⟩
 obtain⟨uk,jr,qU,jw,qV⟩:=Ja lN
 refine cl Q8 (kr _ _ g0 p0 bK bM bD p1 p2.aP 2 none 0 0 [] ([]) d (aA.mk a.aa (D0 (D1.wrap (((a.bP:Nat):Int)+1))) (E2 a.ay.ls) a.bK a.bA a.bz a.bv a.bq a.dP a.dH a.dI a.dG a.dJ) l n p h B C I F N O ag P Q ai S T aj U V ak W X au gD az jr bA rfl (fun _ _=>bE.nil _ _ _) (fun _ Z=>absurd Z y6) rfl i8 g6 aN aP aR aS aT e8 g3 g3 i2 gG) ?_
 rintro _ ul ⟨lQ,lS,lT,lU,lV,lW,lX,lY,lZ,l5,l6,l7,l8,l9,ma,mf,mg,mh,rfl,jy,gH,gI,gJ,gK,gL,gM,gN⟩
 have bP:=jw _ _ jy
 have qW:=aB gH
 have qX:=aB gI
 have qY:=aB gJ
 have qZ:=aB gK
 have q8:=aB gL
 have q9:=aB gM
 have rf:=bP.rowC (i:=1) rfl
 have rq:=bP.rowC (i:=4) rfl
 have ru:=bP.rowC (i:=6) rfl
 have ry:=bP.rowC (i:=8) rfl
 have rz:=bP.rowC (i:=10) rfl
 have rA:=bP.rowC (i:=12) rfl
 replace gN:gD.aX.ls.length=p0.aX.ls.length+1:=gN
 refine nt (rt (tR (Fin.res (res0 rfl) ?_)))
 have mi:=bP.px [] [14,22,23] [4,5,6,7,8,9,10,11,12,13]
 obtain⟨rfl,rfl⟩:=ic (hr.symm.trans (show _=(gD,aA.mk (cZ.mk az.aa.au az.aa.av az.aa.aV az.aa.aL (E2 a.aa.ag.ls) (E2 a.aa.aj.ls) (E2 a.aa.aF.ls)) az.bP (E2 a.ay.ls) az.bK az.bA az.bz az.bv az.bq az.dP az.dH az.dI az.dG az.dJ) from et (ah bY) (et (ah cu) (et (ah bF) (et (iN j) (et (ip aK) (ah gG)))))))
 exact⟨lQ,lS,lT,l,n,p,h,M,B,C,af,I,F,G,lU,lV,lW,lX,lY,lZ,l5,l6,l7,l8,l9,ma,mf,mg,mh,rfl,mi,gH,av,aM,Y,gI,gJ,gK,gL,gM⟩
 refine Ip (v:=vU g) (rs:= []) 31 rfl rfl rfl (dF aK) e7 (fun _ _=>Iq rfl) (Ip (v:=vU dW) (rs:= []) 32 rfl rfl rfl (dF aK) e7 (fun _ _=>Iq rfl) (Ip (v:= .int .u64 ((D0 (D1.wrap (((g:Nat):Int) - ((dW:Nat):Int))):Nat):Int)) (rs:= []) 33 rfl rfl rfl (dF aK) e7 (fun _ _=>Ie (e:=D1.wrap (((g:Nat):Int) - ((dW:Nat):Int))) yk (fD _)) (Ip (v:= .bool (decide (((D0 (D1.wrap (((g:Nat):Int) - ((dW:Nat):Int))):Nat):Int) ≥ 64))) (rs:= []) 34 rfl rfl rfl (dF aK) e7 (fun _ _=>yk) (qt (v:= .bool (decide (((D0 (D1.wrap (((g:Nat):Int) - ((dW:Nat):Int))):Nat):Int) ≥ 64))) 35 rfl (fun _ _=>Ih rfl (dF aK) rfl) (qa 36 rfl rfl (qn (Ig (Ic (sr (Mz rfl (Mz rfl ?_)))))))))))
 by_cases bz:((D0 (D1.wrap (((g:Nat):Int) - ((dW:Nat):Int))):Nat):Int) ≥ 64
 refine Sz (dT bz) (Sz (dT bz) (fw (.bool true) (Iw rfl (dT bz) rfl) (nt (jt (sr (Mz rfl (Mz rfl (Kz (vP dU 6) (Lz (vU p2.aP) di 1 D4 ?_)))))))))
 have mo:=di.px [2,3,4] [] [1,5,6,7,8,9,10,11,22,23]
 obtain⟨⟨gP,aD⟩,gQ⟩:∃ q:bI × aA,dC p0 p1 p2.aP 2 ([]) (aA.mk a.aa (D0 (D1.wrap (((a.bP:Nat):Int)+1))) (E2 a.ay.ls) a.bK a.bA a.bz a.bv a.bq a.dP a.dH a.dI a.dG a.dJ)=q:=⟨_,rfl⟩
 obtain⟨uo,jA,rC,jB,rD⟩:=Ja mo
 refine cl Q8 (kr _ _ g0 p0 bK bM bD p1 p2.aP 2 none 0 0 [] ([]) d (aA.mk a.aa (D0 (D1.wrap (((a.bP:Nat):Int)+1))) (E2 a.ay.ls) a.bK a.bA a.bz a.bv a.bq a.dP a.dH a.dI a.dG a.dJ) l n p h B C I F N O ag P Q ai S T aj U V ak W X au gP aD jA bA rfl (fun _ _=>bE.nil _ _ _) (fun _ Z=>absurd Z y6) rfl i8 g6 aN aP aR aS aT e8 g3 g3 i2 gQ) ?_
 rintro _ uq ⟨mq,mr,mD,mF,mG,mH,mI,mJ,mM,mO,mP,mQ,mR,mU,mV,mW,mX,mY,rfl,jC,gT,gV,gW,gX,gY,gZ,ib⟩
 have bR:=jB _ _ jC
 have rE:=aB gT
 have rF:=aB gV
 have rG:=aB gW
 have rH:=aB gX
 have rM:=aB gY
 have rO:=aB gZ
 have rP:=bR.rowC (i:=1) rfl
 have rQ:=bR.rowC (i:=4) rfl
 have rR:=bR.rowC (i:=6) rfl
 have rT:=bR.rowC (i:=8) rfl
 have rV:=bR.rowC (i:=10) rfl
 have rW:=bR.rowC (i:=12) rfl
 replace ib:gP.aX.ls.length=p0.aX.ls.length+1:=ib
 refine nt (rt (tR (Fin.res (res0 rfl) ?_)))
 have mZ:=bR.px [] [14,22,23] [4,5,6,7,8,9,10,11,12,13]
 obtain⟨rfl,rfl⟩:=ic (hr.symm.trans (show _=(gP,aA.mk (cZ.mk aD.aa.au aD.aa.av aD.aa.aV aD.aa.aL (E2 a.aa.ag.ls) (E2 a.aa.aj.ls) (E2 a.aa.aF.ls)) aD.bP (E2 a.ay.ls) aD.bK aD.bA aD.bz aD.bv aD.bq aD.dP aD.dH aD.dI aD.dG aD.dJ) from et (ah bY) (et (ah cu) (et (ah bF) (et (iN j) (et (iN aK) (et (ip bz) (ah gQ))))))))
 exact⟨mq,mr,mD,l,n,p,h,M,B,C,af,I,F,G,mF,mG,mH,mI,mJ,mM,mO,mP,mQ,mR,mU,mV,mW,mX,mY,rfl,mZ,gT,av,aM,Y,gV,gW,gX,gY,gZ⟩
 refine gw (vI dX) (dF bz) (Iq rfl) (gw (.bool (decide (¬ (dX=0)))) (dF bz) (IG (e:= !(decide (dX=0))) yk decide_not.symm) (fw (.bool (decide (¬ (dX=0)))) (Ih rfl (dF bz) rfl) (nt ?_)))
 by_cases eB:dX=0
 refine jF (dF (Lh eB)) (sk (sr (Mz rfl (Kz (vJ b.length) (An rfl (Ic ?_))))))
 refine pU 24 [] (Iu IC) di ?_
 intro ut ng
 refine qv 0 rfl rfl (qv 1 rfl rfl (qp dU 6 2 rfl (ql 3 rfl 1 D4 rfl rfl rfl (qv 4 rfl rfl (qp g0 0 5 rfl (qp g0 0 6 rfl (ql 7 rfl 2 P3 rfl rfl rfl (qp d 0 8 rfl (qp d 0 9 rfl (qp d 3 10 rfl (ql 11 rfl 0 D4 rfl rfl rfl (qp dU 18 12 rfl (ql 13 rfl 1 Q7 rfl rfl rfl (qv 15 rfl rfl (qv 16 rfl rfl (qv 18 rfl rfl ?_))))))))))))))))
 have rX:r8 (r6 b.length false)=b.length:=H2
 have rY:r8 (r6 b.length (H0 none 0 []:bO))=b.length:=H2
 have rZ:r8 (r6 b.length (E2 []:Ll aQ))=b.length:=H2
 refine Gx ⟨14,_,_,_,_,_,Option Addr × Nat,fun g9=> .slice g9.1 p2.aH.ls.length g9.2,fun _=>True,fun g9=> [row g9.1 p2.aH.ls.length g9.2 (q3 bi.cells p2.aH.ls) 72 6]⟩ ⟨17,_,_,_,_,_,Option Addr,fun g9=> .slice g9 b.length b.length,fun _=>True,fun g9=> [row g9 b.length b.length (q3 eL (r6 b.length false)) 4 1]⟩ ⟨19,_,_,_,_,_,Option Addr,fun g9=> .slice g9 b.length b.length,fun _=>True,fun g9=> [sepL (q3 bO.own (r6 b.length (H0 none 0 []:bO))),row g9 b.length b.length (q3 (IX (β:=ae)) (r6 b.length (H0 none 0 []:bO))) 40 1]⟩ ⟨21,_,_,_,_,_,Nat,fun g9=>vP g9 0,fun _=>True,fun g9=> [blk g9 (rJ 0 0 0 0 none 0 0 none 0 0 none 0 0 none 0 0 0) 107]⟩ 20 24 ng ⟨⟨rfl,rfl,rfl, ?_⟩,⟨rfl,rfl,rfl, ?_⟩,⟨rfl,rfl,rfl, ?_⟩,⟨rfl,rfl,rfl, ?_⟩,trivial⟩ rfl ?_
 intro uu L' ni
 refine(IY (cs:=(rJ 0 0 0 0 none 0 0 none 0 0 none 0 0 none 0 0 0)) (t:=107) ni rfl rfl (fun _=>by kernel_rfl) ?_)
 intro aL uw nk
 exact⟨aL,rfl,trivial,nk⟩
 intro uy L' nu
 obtain⟨uz,jD,jE,jG,r9⟩:=Ii nu
 refine(Iz Tryz.call109 rfl (oC _ _ dx p2.aH.ls.length dz p2.aH.ls p2.aH.ls jD (jE _ eT) rfl e6 rfl) ?_)
 rintro _ uA ⟨J,K,rfl,jH⟩
 have ny:=jG _ _ jH
 exact⟨(J,K),rfl,trivial,ny⟩
 intro uB L' nz
 refine(Jl (x0:=false) (z:= .bool false) (k:=b.length) (size:=1) (bytes:=1) pq f4 rfl Tryz.underlying104 e7 nz rfl rfl e6 (by unfold maxLen; omega) ?_)
 intro u uC nA
 exact⟨u,rfl,trivial,nA⟩
 intro uD L' nC
 refine(Jl (x0:=(H0 none 0 []:bO)) (z:= .slice none 0 0) (k:=b.length) (size:=1) (bytes:=24) rU f4 rfl Tryz.underlying105 e7 nC rfl rfl e6 (by unfold maxLen; omega) ?_)
 intro L uE nD
 have nE:=nD.free (R:=sepL (q3 bO.own (r6 b.length (H0 none 0 []:bO)))) (uX (DW (eZ 149 3) (zu fun _ Z=>absurd Z y6)))
 exact⟨L,rfl,trivial,nE⟩
 rintro ⟨J,K⟩ _ u _ L _
 refine⟨.agg (rJ g p1 p2.aP a.aa.aL J p2.aH.ls.length K aa b.length aH u b.length b.length L b.length b.length 0).toArray,fun _=>yk, ?_⟩
 rintro aL _
 intro nG nH
 have eD:Own w D nG (blk aL (rJ 0 0 0 0 none 0 0 none 0 0 none 0 0 none 0 0 0) 107::sepL (q3 bO.own (r6 b.length (H0 none 0 []:bO)))::row L b.length b.length (q3 (IX (β:=ae)) (r6 b.length (H0 none 0 []:bO))) 40 1::row u b.length b.length (q3 eL (r6 b.length false)) 4 1::row J p2.aH.ls.length K (q3 bi.cells p2.aH.ls) 72 6::_):=nH.flat.pf []
 have si:=eD.rowC (i:=2) rfl
 have sj:=eD.rowC (i:=3) rfl
 have su:=eD.rowC (i:=4) rfl
 have nI:=eD.pb [0,1,2,3,4]
 have nJ:=nI.pf [24]
 refine qe 22 rfl (Do.store (vs:=(rJ g p1 p2.aP a.aa.aL J p2.aH.ls.length K aa b.length aH u b.length b.length L b.length b.length 0)) (o:=0) nJ rfl rfl Tryz.sizeOf107 rfl rfl rfl rfl ?_)
 intro uF nK
 have iZ:=nK.pb [0,25,26,27,28]
 refine⟨.inr ⟨_,iZ⟩, ?_⟩
 refine qn (Ig (Ic ?_))
 have nL:=iZ.px [] [1] []
 have dZ:b.length=r8 (r6 b.length (E2 []:Ll aQ)):=by first | omega | (simp only [H1]; done) | (simp only [H1,o1,s0,F2,m9,o0,H2]; omega)
 have nM:=nL.pf [23]
 have nN:=Jh 7 dZ nM
 have nO:=nN.pf [25]
 have nP:=I4 dZ nO
 have nQ:=nP.pb [1,25,0,26,27]
 have ed:b.length=r8 (r6 b.length false):=by first | omega | (simp only [H1]; done) | (simp only [H1,o1,s0,F2,m9,o0,H2]; omega)
 have nR:=nQ.pf [23]
 have nS:=Jh 6 ed nR
 have nT:=nS.pf [26]
 have nU:=I4 ed nT
 have nV:=nU.pb [1,25,26,0,27]
 have nW:=nV.pf [0,1,23]
 refine Es [16] (Iu IC) nW ?_
 intro uG nX
 refine qv 0 rfl rfl (qp g0 0 1 rfl (qp g0 0 2 rfl (ql 3 rfl 1 P3 rfl rfl rfl (qv 4 rfl rfl (qp g0 0 5 rfl (qp g0 0 6 rfl (ql 7 rfl 1 P3 rfl rfl rfl (qp d 0 8 rfl (qp d 8 9 rfl (ql 10 rfl 0 Q1 rfl rfl rfl (qt (v:= .agg (rJ g p1 p2.aP a.aa.aL J p2.aH.ls.length K aa b.length aH u (r8 (r6 b.length false)) b.length L (r8 (r6 b.length (E2 []:Ll aQ))) b.length 0).toArray) 11 rfl (fun _ ⟨_,H9⟩=>Io rfl (Iy (cs:=(rJ g p1 p2.aP a.aa.aL J p2.aH.ls.length K aa b.length aH u (r8 (r6 b.length false)) b.length L (r8 (r6 b.length (E2 []:Ll aQ))) b.length 0)) Tryz.isAgg107 Tryz.sizeOf107 ((H9.cls (i:=2) rfl).lit (k:=0) (m:=9) rfl))) ?_)))))))))))
 refine qd 12 rfl (Jp (cs:=(rJ g p1 p2.aP a.aa.aL J p2.aH.ls.length K aa b.length aH u (r8 (r6 b.length false)) b.length L (r8 (r6 b.length (E2 []:Ll aQ))) b.length 0)) (t:=107) (sz:=9) (m:=1) nX rfl rfl (fun _=>by kernel_rfl) rfl f4 ?_)
 intro ja uH ig
 replace ig:=IL (y:=row ja 1 1 (q3 bB.cells ([(bB.mk g p1 p2.aP a.aa.aL (H0 J K p2.aH.ls) (H0 aa aH bg) (H0 u b.length (r6 b.length false)) (H0 L b.length (r6 b.length (H0 none 0 []:bO))) 0)])) 107 9) (EC (fun z9 z8=>row ja 1 1 [vU g,vI p1,vU p2.aP,vU a.aa.aL, .slice J p2.aH.ls.length K, .slice aa z9 aH, .slice u (r8 (r6 b.length false)) b.length, .slice L z8 b.length,vI 0] 107 9) (aB bv).symm (aB (L6 (f:=bO.abs))).symm) ig
 have jb:=ig.pf [1,2,3]
 refine⟨.inr ⟨_,jb⟩, ?_⟩
 have jc:=jb.pf [11,12,28,23,27,26,24,25]
 refine qd 13 rfl (IM (k:=a.ay.ls.length) (m:=1) (qh) jc rfl rfl (jv Tryz.underlying79 (jc.rds (i:=11) rfl) (fU bB.one ([(bB.mk g p1 p2.aP a.aa.aL (H0 J K p2.aH.ls) (H0 aa aH bg) (H0 u b.length (r6 b.length false)) (H0 L b.length (r6 b.length (H0 none 0 []:bO))) 0)]))) rfl e6 (s:=r8 (a.ay.ls++ [(dK.mk g p1 p2.aP a.aa.aL (E2 p2.aH.ls) (E2 b) (E2 (r6 b.length false)) (E2 (r6 b.length (E2 []:Ll aQ))) 0)])) f7 (r4).symm ?_)
 intro dB cz nY nZ
 have og:=nZ.pf [3]
 have oh:=I4 (aB bv).symm og
 have ol:=oh.pf [5]
 have om:=I4 (n':=r8 (r6 b.length (H0 none 0 []:bO))) (aB (L6 (f:=bO.abs))).symm ol
 have oo:=om.pf [3,4,1,5,0,6,7]
 have oq:Own w D nY (sepL (q3 bB.own (G++ [(bB.mk g p1 p2.aP a.aa.aL (H0 J K p2.aH.ls) (H0 aa aH bg) (H0 u b.length (r6 b.length false)) (H0 L b.length (r6 b.length (H0 none 0 []:bO))) 0)]))::_):=oo.sepAdd (L2:= [row J p2.aH.ls.length K (q3 bi.cells p2.aH.ls) 72 6,row aa bg.length aH (q3 bG.cells bg) 172 3,row u (r8 (r6 b.length false)) b.length (q3 eL (r6 b.length false)) 4 1,row L (r8 (r6 b.length (H0 none 0 []:bO))) b.length (q3 (IX (β:=ae)) (r6 b.length (H0 none 0 []:bO))) 40 1,sepL (q3 bG.own bg),sepL (q3 bO.own (r6 b.length (H0 none 0 []:bO)))]) (r4 (f:=bB.own) (xs:=G) (ys:= [(bB.mk g p1 p2.aP a.aa.aL (H0 J K p2.aH.ls) (H0 aa aH bg) (H0 u b.length (r6 b.length false)) (H0 L b.length (r6 b.length (H0 none 0 []:bO))) 0)])).symm
 have sw:r8 (a.ay.ls++ [(dK.mk g p1 p2.aP a.aa.aL (E2 p2.aH.ls) (E2 b) (E2 (r6 b.length false)) (E2 (r6 b.length (E2 []:Ll aQ))) 0)])=a.ay.ls.length+1:=by simp only [o1,s0,F2]
 have sD:=aB (pF (es:= [(bB.mk g p1 p2.aP a.aa.aL (H0 J K p2.aH.ls) (H0 aa aH bg) (H0 u b.length (r6 b.length false)) (H0 L b.length (r6 b.length (H0 none 0 []:bO))) 0)]) (ms:= [(dK.mk g p1 p2.aP a.aa.aL (E2 p2.aH.ls) (E2 b) (E2 (r6 b.length false)) (E2 (r6 b.length (E2 []:Ll aQ))) 0)]) Y (EC (fun z9 z8=> [dK.mk g p1 p2.aP a.aa.aL (E2 p2.aH.ls) (E2 z9) (E2 (r6 b.length false)) (E2 z8) 0]) bv (L6 (f:=bO.abs))))
 have jd:=oq.pf [2,3,4]
 refine⟨.inr ⟨_,jd⟩, ?_⟩
 refine qp d 0 14 rfl (qp d 8 15 rfl ?_)
 refine qe 16 rfl (Do.store (vs:= [.slice dB (r8 (a.ay.ls++ [(dK.mk g p1 p2.aP a.aa.aL (E2 p2.aH.ls) (E2 b) (E2 (r6 b.length false)) (E2 (r6 b.length (E2 []:Ll aQ))) 0)])) cz]) (o:=8) jd rfl rfl Tryz.sizeOf79 rfl rfl rfl rfl ?_)
 intro uI ou
 refine⟨.inl e7, ?_⟩
 refine qn (Ig ?_)
 have je:=ou.px [] [5] []
 refine Ib (Mz rfl ?_)
 refine WL.do rfl (Iz Tryz.call64 rfl ?_ (fun _ _ k=>k))
 refine cb Tryz.func64 ?_
 refine sr (Mz rfl (Kz (vP aL 0) (Kz (vP aL 5) (Lz (.slice aa b.length aH) je 2 Tryz.isAgg103 (Kz (vJ b.length) (Mn rfl (bo ?_)))))))
 have ow:=je.pb [5,6]
 obtain⟨oz,dm⟩:=Au fun (r:Nat) cB (cK:Nat) bS aF w'=>Own w D w' [blk d [vI a.aa.au,vU a.aa.av,vU a.aa.aV,vU a.aa.aL, .slice l a.aa.ag.ls.length n, .slice p a.aa.aj.ls.length h, .slice B a.aa.aF.ls.length C, .int .u64 ((D0 (D1.wrap (((a.bP:Nat):Int)+1)):Nat):Int), .slice dB (r8 (a.ay.ls++ [(dK.mk g p1 p2.aP a.aa.aL (E2 p2.aH.ls) (E2 b) (E2 (r6 b.length false)) (E2 (r6 b.length (E2 []:Ll aQ))) 0)])) cz, .bool a.bK.cO,vU a.bK.aS,vI a.bK.dA, .slice N a.bK.af.ls.length O, .bool a.bA.cO,vU a.bA.aS,vI a.bA.dA, .slice P a.bA.af.ls.length Q, .bool a.bz.cO,vU a.bz.aS,vI a.bz.dA, .slice S a.bz.af.ls.length T, .bool a.bv.cO,vU a.bv.aS,vI a.bv.dA, .slice U a.bv.af.ls.length V, .bool a.bq.cO,vU a.bq.aS,vI a.bq.dA, .slice W a.bq.af.ls.length X,vU a.dP,vU a.dH,vU a.dI,vU a.dG,vU a.dJ, .pointer none] 86,blk g0 [vP d 0, .slice cB aF.length cK] 98,blk aL (rJ g p1 p2.aP a.aa.aL J p2.aH.ls.length K aa b.length aH u (r8 (r6 b.length false)) b.length L (r8 (r6 b.length (E2 []:Ll aQ))) b.length 0) 107,sepL (q3 bB.own (G++ [(bB.mk g p1 p2.aP a.aa.aL (H0 J K p2.aH.ls) (H0 aa aH bg) (H0 u b.length (r6 b.length false)) (H0 L b.length (r6 b.length (H0 none 0 []:bO))) 0)])),row dB (r8 (a.ay.ls++ [(dK.mk g p1 p2.aP a.aa.aL (E2 p2.aH.ls) (E2 b) (E2 (r6 b.length false)) (E2 (r6 b.length (E2 []:Ll aQ))) 0)])) cz (q3 bB.cells (G++ [(bB.mk g p1 p2.aP a.aa.aL (H0 J K p2.aH.ls) (H0 aa aH bg) (H0 u b.length (r6 b.length false)) (H0 L b.length (r6 b.length (H0 none 0 []:bO))) 0)])) 107 9,row l a.aa.ag.ls.length n (q3 aY.cells a.aa.ag.ls) 89 2,row p a.aa.aj.ls.length h (q3 aC.cells M) 60 5,sepL (q3 aC.own M),row B a.aa.aF.ls.length C (q3 aU.cells af) 56 4,sepL (q3 aU.own af),row N a.bK.af.ls.length O (q3 ae.cells ag) 149 3,sepL (q3 ae.own ag),row P a.bA.af.ls.length Q (q3 ae.cells ai) 149 3,sepL (q3 ae.own ai),row S a.bz.af.ls.length T (q3 ae.cells aj) 149 3,sepL (q3 ae.own aj),row U a.bv.af.ls.length V (q3 ae.cells ak) 149 3,sepL (q3 ae.own ak),row W a.bq.af.ls.length X (q3 ae.cells au) 149 3,sepL (q3 ae.own au),row cB aF.length cK (q3 bf.cells bS) 42 21,sepL (q3 bf.own bS)]∧s5 bf.abs bS=aF∧r≤b.length∧aF.length≤p0.aX.ls.length+r∧aF.length≤100000+r∧iO p1 p2 a g b b 0 p0.aX.ls=iO p1 p2 a g b (List.drop r b) r aF
 refine Wp.loop (fun i:Nat × (Option Addr) × Nat × (List bf) × (List bL)=> [(11,vJ i.1),(10,vJ b.length),(9, .slice aa b.length aH),(0,vP g0 0),(1,vP aL 0)]) oz (fun i=>b.length - i.1) (0,bK,bM,bD,p0.aX.ls) ⟨rfl,rfl,rfl,rfl,rfl,trivial⟩ (dm.2 ⟨ow,by exact bA,e6,e6,e6,rfl⟩) ?_
 rintro ⟨r,cB,cK,bS,aF⟩ uJ jK
 obtain⟨bT,dn,sF,sG,sH,ek⟩:=dm.1 jK
 have sI:=aB dn
 refine sr (Kz (.bool (decide (((r:Nat):Int) < ((b.length:Nat):Int)))) (nt (Ic ?_)))
 by_cases jf:((r:Nat):Int) < ((b.length:Nat):Int)
 obtain⟨E,bU⟩:=dN (ls:=bg) (i:=r) bG.len f4 (show bE _ 3 aa b.length (q3 bG.cells bg) from (aZ bT (i:=3) rfl (ax (Q3.2 ⟨_,v2 _ b1, .tail _ b1⟩) (fun w9 Z a9 b9=>qg (aB bv) (aO w9 Z a9 b9))))) e9
 have ik:=fF bv bU
 have sJ:E.aH.ls.length≤E.aH.c∧E.aH.ls.length≤9223372036854775807:=aZ bT (i:=3) rfl (φ:=fun _=>_) (ax (Q3.2 ⟨_,v2 _ b1, .tail _ b4⟩) (ax (Q3.2 ⟨E,D3 bU,b1⟩) aW))
 have sK:E.aJ.ls.length≤E.aJ.c∧E.aJ.ls.length≤9223372036854775807:=aZ bT (i:=3) rfl (φ:=fun _=>_) (ax (Q3.2 ⟨_,v2 _ b1, .tail _ b4⟩) (ax (Q3.2 ⟨E,D3 bU, .tail _ b1⟩) aW))
 have sM:E.aH.ls.length≤24024:=kX _ (D3 ik)
 have iq:=drop_at ik
 refine jT (dT jf) (sk (Ic (bo (sr (Mz rfl (fw (.pointer (some ⟨ab aa,ao aa+r *3,none⟩)) (Ij (um) rfl rfl ((show bE _ 3 aa b.length (q3 bG.cells bg) from (aZ bT (i:=3) rfl (ax (Q3.2 ⟨_,v2 _ b1, .tail _ b1⟩) (fun w9 Z a9 b9=>qg (aB bv) (aO w9 Z a9 b9))))).addr (i:=r) e6) e6) (fw (.agg (bG.cells E).toArray) (Io rfl (Iy (cs:=(bG.cells E)) Tryz.isAgg172 Tryz.sizeOf172 ((show bE _ 3 aa b.length (q3 bG.cells bg) from (aZ bT (i:=3) rfl (ax (Q3.2 ⟨_,v2 _ b1, .tail _ b1⟩) (fun w9 Z a9 b9=>qg (aB bv) (aO w9 Z a9 b9))))).elem bG.len bU f4))) ?_)))))))
 refine dV [vI 0, .slice none 0 0, .slice none 0 0] 172 bT ?_
 intro jg uK oH
 refine Az rfl ?_
 refine dS (bG.cells E) 0 oH Tryz.sizeOf172 ?_
 intro uL cO
 refine ns (Mz rfl (Kz (vP aL 0) (Kz (vP aL 6) (Lz (.slice u (r8 (r6 b.length false)) b.length) cO 3 Tryz.isAgg104 (Mz rfl ?_)))))
 obtain⟨iw,eu⟩:=dN (ls:=(r6 b.length false)) (i:=r) pq f4 (show bE _ 1 u (r8 (r6 b.length false)) (q3 eL (r6 b.length false)) from (aZ cO (i:=4) rfl (ax (Q3.2 ⟨_,v2 _ b1, .tail _ b2⟩) aO))) e9
 refine fw (.pointer (some ⟨ab u,ao u+r *1,none⟩)) (Ij (yc) rfl rfl ((show bE _ 1 u (r8 (r6 b.length false)) (q3 eL (r6 b.length false)) from (aZ cO (i:=4) rfl (ax (Q3.2 ⟨_,v2 _ b1, .tail _ b2⟩) aO))).addr (i:=r) e6) e6) (fw (.bool iw) (Io rfl (bZ.one Tryz.isAgg4 (((show bE _ 1 u (r8 (r6 b.length false)) (q3 eL (r6 b.length false)) from (aZ cO (i:=4) rfl (ax (Q3.2 ⟨_,v2 _ b1, .tail _ b2⟩) aO))).elem pq eu f4).at_ (k:=0) rfl))) (Kz (.bool (!iw)) (nt ?_)))
 rcases Li (iw) with dD | dD
 refine jF (cn dD) (IE (bN (Ig (Ib (fw (vJ (r+1)) (Ie (e:=C5.wrap (((r:Nat):Int)+1)) yk f0) (Mz rfl (WL.nil ?_)))))))
 have oI:=cO.px [] [0] []
 exact Ir (r+1,cB,cK,bS,aF) ⟨rfl,rfl,rfl,rfl,rfl,trivial⟩ (dm.2 ⟨oI,by exact dn,e6,e6,e6,et (ek) (et (congrArg (fun q=>iO p1 p2 a g b q r aF) iq) (et (ah (bJ eu)) (ip dD)))⟩) (by show b.length - (r+1) < b.length - r; omega)
 refine jT (cn dD) ?_
 refine pU 23 [19] (bQ.block (Iu (Iu (bQ.block IC)))) cO ?_
 intro uM oJ
 refine qv 0 rfl rfl (qp jg 0 1 rfl (ql 2 rfl 0 Tryz.isAgg3 rfl rfl rfl (qv 3 rfl rfl (qp aL 0 4 rfl (qp aL 0 5 rfl (ql 6 rfl 3 D4 rfl rfl rfl (qv 7 rfl rfl (qp g0 0 8 rfl (qp g0 0 9 rfl (ql 10 rfl 2 P3 rfl rfl rfl (qv 12 rfl rfl (qp aL 0 13 rfl (qp aL 3 14 rfl (ql 15 rfl 3 D4 rfl rfl rfl (qp jg 1 16 rfl (ql 17 rfl 0 Q7 rfl rfl rfl ?_))))))))))))))))
 have aX:=oJ.pf [1]
 have sN:=aX.rowC (i:=7) rfl
 have sO:=aX.rowC (i:=5) rfl
 obtain⟨eF,iy⟩:∃ q,il (aA.mk a.aa (D0 (D1.wrap (((a.bP:Nat):Int)+1))) (E2 (a.ay.ls++ [(dK.mk g p1 p2.aP a.aa.aL (E2 p2.aH.ls) (E2 b) (E2 (r6 b.length false)) (E2 (r6 b.length (E2 []:Ll aQ))) 0)])) a.bK a.bA a.bz a.bv a.bq a.dP a.dH a.dI a.dG a.dJ)=q:=⟨_,rfl⟩
 obtain⟨uN,jL,sP,jM,aJ⟩:=II aX
 refine qd 11 rfl (Iz Tryz.call108 rfl (o9 _ _ d (aA.mk a.aa (D0 (D1.wrap (((a.bP:Nat):Int)+1))) (E2 (a.ay.ls++ [(dK.mk g p1 p2.aP a.aa.aL (E2 p2.aH.ls) (E2 b) (E2 (r6 b.length false)) (E2 (r6 b.length (E2 []:Ll aQ))) 0)])) a.bK a.bA a.bz a.bv a.bq a.dP a.dH a.dI a.dG a.dJ) l n p h M B C dB cz (G++ [(bB.mk g p1 p2.aP a.aa.aL (H0 J K p2.aH.ls) (H0 aa aH bg) (H0 u b.length (r6 b.length false)) (H0 L b.length (r6 b.length (H0 none 0 []:bO))) 0)]) N O P Q S T U V W X eF jL av (aJ _ 6 _ rfl aO) (show a.aa.aj.ls.length≤h∧a.aa.aj.ls.length≤9223372036854775807 from by omega) (fun x9 Z=>⟨aJ _ 7 _ rfl (ax (Q3.2 ⟨x9,Z,b1⟩) aO),aZ (φ:=fun _=>_) aX (i:=8) rfl (ax (Q3.2 ⟨x9,Z,b1⟩) aW)⟩) (pF (es:= [(bB.mk g p1 p2.aP a.aa.aL (H0 J K p2.aH.ls) (H0 aa aH bg) (H0 u b.length (r6 b.length false)) (H0 L b.length (r6 b.length (H0 none 0 []:bO))) 0)]) (ms:= [(dK.mk g p1 p2.aP a.aa.aL (E2 p2.aH.ls) (E2 b) (E2 (r6 b.length false)) (E2 (r6 b.length (E2 []:Ll aQ))) 0)]) Y (EC (fun z9 z8=> [dK.mk g p1 p2.aP a.aa.aL (E2 p2.aH.ls) (E2 z9) (E2 (r6 b.length false)) (E2 z8) 0]) bv (L6 (f:=bO.abs)))) (aJ _ 4 _ rfl aO) (show r8 (a.ay.ls++ [(dK.mk g p1 p2.aP a.aa.aL (E2 p2.aH.ls) (E2 b) (E2 (r6 b.length false)) (E2 (r6 b.length (E2 []:Ll aQ))) 0)])≤cz∧r8 (a.ay.ls++ [(dK.mk g p1 p2.aP a.aa.aL (E2 p2.aH.ls) (E2 b) (E2 (r6 b.length false)) (E2 (r6 b.length (E2 []:Ll aQ))) 0)])≤9223372036854775807 from by omega) (fun x9 Z=>⟨aJ _ 3 _ rfl (ax (Q3.2 ⟨x9,Z,b1⟩) aO),aZ (φ:=fun _=>_) aX (i:=4) rfl (ax (Q3.2 ⟨x9,Z,b1⟩) aW),aJ _ 3 _ rfl (ax (Q3.2 ⟨x9,Z, .tail _ b1⟩) aO),aZ (φ:=fun _=>_) aX (i:=4) rfl (ax (Q3.2 ⟨x9,Z, .tail _ b1⟩) aW),(fun y1 k1=>⟨aJ _ 3 _ rfl (ax (Q3.2 ⟨x9,Z, .tail _ b4⟩) (ax (Q3.2 ⟨y1,k1,b1⟩) aO)),aZ (φ:=fun _=>_) aX (i:=4) rfl (ax (Q3.2 ⟨x9,Z, .tail _ b4⟩) (ax (Q3.2 ⟨y1,k1,b1⟩) aW)),aJ _ 3 _ rfl (ax (Q3.2 ⟨x9,Z, .tail _ b4⟩) (ax (Q3.2 ⟨y1,k1, .tail _ b1⟩) aO)),aZ (φ:=fun _=>_) aX (i:=4) rfl (ax (Q3.2 ⟨x9,Z, .tail _ b4⟩) (ax (Q3.2 ⟨y1,k1, .tail _ b1⟩) aW))⟩),aJ _ 3 _ rfl (ax (Q3.2 ⟨x9,Z, .tail _ b2⟩) aO),aZ (φ:=fun _=>_) aX (i:=4) rfl (ax (Q3.2 ⟨x9,Z, .tail _ b2⟩) aW),aJ _ 3 _ rfl (ax (Q3.2 ⟨x9,Z, .tail _ b3⟩) aO),aZ (φ:=fun _=>_) aX (i:=4) rfl (ax (Q3.2 ⟨x9,Z, .tail _ b3⟩) aW),(fun y1 k1=>⟨aJ _ 3 _ rfl (ax (Q3.2 ⟨x9,Z, .tail _ b5⟩) (ax (Q3.2 ⟨y1,k1,b1⟩) aO)),aZ (φ:=fun _=>_) aX (i:=4) rfl (ax (Q3.2 ⟨x9,Z, .tail _ b5⟩) (ax (Q3.2 ⟨y1,k1,b1⟩) aW)),(fun y2 k2=>⟨aJ _ 3 _ rfl (ax (Q3.2 ⟨x9,Z, .tail _ b5⟩) (ax (Q3.2 ⟨y1,k1, .tail _ b1⟩) (ax (Q3.2 ⟨y2,k2,b1⟩) aO))),aZ (φ:=fun _=>_) aX (i:=4) rfl (ax (Q3.2 ⟨x9,Z, .tail _ b5⟩) (ax (Q3.2 ⟨y1,k1, .tail _ b1⟩) (ax (Q3.2 ⟨y2,k2,b1⟩) aW)))⟩)⟩)⟩) e8 iy) ?_)
 rintro _ uO ⟨rfl,jN⟩
 have oK:=jM _ _ jN
 have jh:=oK.pf [1]
 refine⟨.inr ⟨_,jh⟩, ?_⟩
 refine qk (.agg (gU 3 0 E.eG 0 0 0 0 0 g eF 0 a.aa.aL 0 0 0 false ([]) ([]) E.aH.A E.aH.ls.length E.aH.c none 0 0 none 0 0).toArray) 18 rfl ?_
 have oL:=jh.pf [2,21,22]
 obtain⟨iA,iB⟩:∃ q,dw (bI.mk (E2 aF)) (bL.mk 3 0 E.eG 0 0 0 0 0 g eF 0 a.aa.aL 0 0 0 false (bC.mk ([]) ([])) (E2 E.aH.ls) (E2 ([])) (E2 ([])))=q:=⟨_,rfl⟩
 obtain⟨uP,jO,sQ,jQ,jS⟩:=IU oL
 refine qd 19 rfl (Iz Tryz.call65 rfl (gp _ _ g0 (bI.mk (E2 aF)) cB cK bS d (bL.mk 3 0 E.eG 0 0 0 0 0 g eF 0 a.aa.aL 0 0 0 false (bC.mk ([]) ([])) (E2 E.aH.ls) (E2 ([])) (E2 ([]))) E.aH.A E.aH.ls.length E.aH.c none 0 0 [] none 0 0 iA jO dn rfl (jS _ 3 _ rfl (ax (Q3.2 ⟨_,v2 _ b1, .tail _ b4⟩) (ax (Q3.2 ⟨E,D3 bU,b1⟩) aO))) (show E.aH.ls.length≤E.aH.c∧E.aH.ls.length≤9223372036854775807 from by omega) rfl rfl (fun _ _=>bE.nil _ _ _) f2 (fun _ Z=>absurd Z y6) rfl (fun _ _=>bE.nil _ _ _) f2 e8 (by first | assumption | exact dM f5 | exact fun x hx=>absurd hx y6 | exact dM (Mk.mU f5).1 | exact dM (Mk.lT f5).1 | exact dM (Mk.nu f5).1 | exact dM (Mk.ny f5).1 | exact dM (Mk.nz f5).1) iB) ?_)
 rintro _ uQ ⟨oM,oN,oO,rfl,jU,iC,iD⟩
 have ji:=jQ _ _ jU
 have sS:=aB iC
 have sU:=ji.rowC (i:=1) rfl
 replace iD:iA.aX.ls.length=aF.length+1:=iD
 refine⟨.inl e7, ?_⟩
 refine qn (bN (Ig (Ib (fw (vJ (r+1)) (Ie (e:=C5.wrap (((r:Nat):Int)+1)) yk f0) (Mz rfl (WL.nil ?_))))))
 have oP:=ji.px [4] [3] [1,2]
 exact Ir (r+1,oM,oN,oO,iA.aX.ls) ⟨rfl,rfl,rfl,rfl,rfl,trivial⟩ (dm.2 ⟨oP,by exact iC,e6,e6,e6,et (ek) (et (congrArg (fun q=>iO p1 p2 a g b q r aF) iq) (et (ah (bJ eu)) (et (gm dD) (et (ah iy) (ah iB)))))⟩) (by show b.length - (r+1) < b.length - r; omega)
 refine jF (dF jf) (Wp.exit (Il ?_))
 have jV:iO p1 p2 a g b b 0 p0.aX.ls=aF:=et (ek) (et (congrArg (fun q=>iO p1 p2 a g b q r aF) (fB (ls:=b) (i:=r) e6)) rfl)
 refine Il (IB (IA (res0 rfl) (WL.nil (IA (res0 rfl) ?_))))
 have oQ:=bT.px [1,20,21,0,5,6,7,8,9,4] [2] []
 obtain⟨rfl,rfl⟩:=ic (hr.symm.trans (show _=(bI.mk (E2 aF),aA.mk a.aa (D0 (D1.wrap (((a.bP:Nat):Int)+1))) (E2 (a.ay.ls++ [(dK.mk g p1 p2.aP a.aa.aL (E2 p2.aH.ls) (E2 b) (E2 (r6 b.length false)) (E2 (r6 b.length (E2 []:Ll aQ))) 0)])) a.bK a.bA a.bz a.bv a.bq a.dP a.dH a.dI a.dG a.dJ) from et (ah bY) (et (ah cu) (et (ah bF) (et (iN j) (et (iN aK) (et (iN bz) (et (ip eB) (ah jV)))))))))
 exact⟨cB,cK,bS,l,n,p,h,M,B,C,af,dB,cz,(G++ [(bB.mk g p1 p2.aP a.aa.aL (H0 J K p2.aH.ls) (H0 aa aH bg) (H0 u b.length (r6 b.length false)) (H0 L b.length (r6 b.length (H0 none 0 []:bO))) 0)]),N,O,ag,P,Q,ai,S,T,aj,U,V,ak,W,X,au,(by(first | rw [← dZ] | skip); (first | rw [← ed] | skip); first | done | rfl),oQ,dn,av,aM,(pF (es:= [(bB.mk g p1 p2.aP a.aa.aL (H0 J K p2.aH.ls) (H0 aa aH bg) (H0 u b.length (r6 b.length false)) (H0 L b.length (r6 b.length (H0 none 0 []:bO))) 0)]) (ms:= [(dK.mk g p1 p2.aP a.aa.aL (E2 p2.aH.ls) (E2 b) (E2 (r6 b.length false)) (E2 (r6 b.length (E2 []:Ll aQ))) 0)]) Y (EC (fun z9 z8=> [dK.mk g p1 p2.aP a.aa.aL (E2 p2.aH.ls) (E2 z9) (E2 (r6 b.length false)) (E2 z8) 0]) bv (L6 (f:=bO.abs)))),aN,aP,aR,aS,aT⟩
 refine jT (dT eB) (sr (Mz rfl (Mz rfl (Kz (vP dU 6) (Lz (vU p2.aP) di 1 D4 ?_)))))
 have oU:=di.px [2,3,4] [] [1,5,6,7,8,9,10,11,22,23]
 obtain⟨⟨iE,aG⟩,iF⟩:∃ q:bI × aA,dC p0 p1 p2.aP 2 ([]) (aA.mk a.aa (D0 (D1.wrap (((a.bP:Nat):Int)+1))) (E2 a.ay.ls) a.bK a.bA a.bz a.bv a.bq a.dP a.dH a.dI a.dG a.dJ)=q:=⟨_,rfl⟩
 obtain⟨uR,jW,sV,jX,sW⟩:=Ja oU
 refine cl Q8 (kr _ _ g0 p0 bK bM bD p1 p2.aP 2 none 0 0 [] ([]) d (aA.mk a.aa (D0 (D1.wrap (((a.bP:Nat):Int)+1))) (E2 a.ay.ls) a.bK a.bA a.bz a.bv a.bq a.dP a.dH a.dI a.dG a.dJ) l n p h B C I F N O ag P Q ai S T aj U V ak W X au iE aG jW bA rfl (fun _ _=>bE.nil _ _ _) (fun _ Z=>absurd Z y6) rfl i8 g6 aN aP aR aS aT e8 g3 g3 i2 iF) ?_
 rintro _ uS ⟨oV,oW,oZ,o5,o6,o7,o8,pg,pu,pz,pE,pG,pI,pJ,pK,pM,pO,pQ,rfl,jY,iG,iI,iJ,iK,iL,iM,iP⟩
 have bV:=jX _ _ jY
 have sZ:=aB iG
 have tq:=aB iI
 have tu:=aB iJ
 have tC:=aB iK
 have tF:=aB iL
 have tH:=aB iM
 have tJ:=bV.rowC (i:=1) rfl
 have tK:=bV.rowC (i:=4) rfl
 have tL:=bV.rowC (i:=6) rfl
 have tN:=bV.rowC (i:=8) rfl
 have tO:=bV.rowC (i:=10) rfl
 have tQ:=bV.rowC (i:=12) rfl
 replace iP:iE.aX.ls.length=p0.aX.ls.length+1:=iP
 refine nt (rt (tR (Fin.res (res0 rfl) ?_)))
 have pR:=bV.px [] [14,22,23] [4,5,6,7,8,9,10,11,12,13]
 obtain⟨rfl,rfl⟩:=ic (hr.symm.trans (show _=(iE,aA.mk (cZ.mk aG.aa.au aG.aa.av aG.aa.aV aG.aa.aL (E2 a.aa.ag.ls) (E2 a.aa.aj.ls) (E2 a.aa.aF.ls)) aG.bP (E2 a.ay.ls) aG.bK aG.bA aG.bz aG.bv aG.bq aG.dP aG.dH aG.dI aG.dG aG.dJ) from et (ah bY) (et (ah cu) (et (ah bF) (et (iN j) (et (iN aK) (et (iN bz) (et (iN eB) (ah iF)))))))))
 exact⟨oV,oW,oZ,l,n,p,h,M,B,C,af,I,F,G,o5,o6,o7,o8,pg,pu,pz,pE,pG,pI,pJ,pK,pM,pO,pQ,rfl,pR,iG,av,aM,Y,iI,iJ,iK,iL,iM⟩
end Go.Proofs.YtbkagebjhbphaaaGreat
