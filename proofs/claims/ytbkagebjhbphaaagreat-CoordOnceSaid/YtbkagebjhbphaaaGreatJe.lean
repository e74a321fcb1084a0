/- The layers told, part 5. Conditions: none beyond each law's own. -/
import Derived.Test.YtbkagebjhbphaaaGreatJd
namespace Go.Proofs.YtbkagebjhbphaaaGreat
set_option maxHeartbeats 4000000
set_option maxRecDepth 100000
set_option linter.unusedVariables false
set_option linter.unusedSimpArgs false
set_option linter.unusedSectionVars false
open Int renaming toNat->D0
open IntKind renaming i64->C5,u64->D1
open List renaming flatMap->q3,flatMap_append->r4,length->r8,length_append->o1,length_cons->s0,length_drop->o0,length_nil->F2,length_replicate->H2,length_set->H1,length_take->m9,map->s5,map_replicate->L6,mem_append_right->v2,mem_flatMap->Q3,mem_of_getElem?->D3,not_mem_nil->y6,replicate->r6
open Ll renaming mk->E2
open Sv renaming mk->H0
open _root_.Go.Proofs.Tryz renaming call106->Q8,isAgg24->P3,isAgg28->D4,isAgg39->Q7,isAgg79->Q1
section
open Go.RowKit
def iO (k:Int) (p2:bL) (a:aA) (e:Nat) (d:List gF):List gF->Nat->List bL->(List bL)
  | [],b,c=>c
  | f::g,b,c=>bnd (List.getD (r6 d.length false) b default) λ h=>if h=true then iO k p2 a e d g (b+1) c else bnd (il (aA.mk a.aa (D0 (D1.wrap ((a.bP:Int)+1))) (E2 (a.ay.ls++ [(dK.mk e k p2.aP a.aa.aL (E2 p2.aH.ls) (E2 d) (E2 (r6 d.length false)) (E2 (r6 d.length (E2 []:Ll aQ))) 0)])) a.bK a.bA a.bz a.bv a.bq a.dP a.dH a.dI a.dG a.dJ)) λ i=>bnd (dw (bI.mk (E2 c)) (bL.mk 3 0 f.eG 0 0 0 0 0 e i 0 a.aa.aL 0 0 0 false (bC.mk [] []) (E2 f.aH.ls) (E2 []) (E2 []))) λ j=>iO k p2 a e d g (b+1) j.aX.ls
def dQ (i:bI) (h:Int) (p2:bL) (a:aA):bI × aA:=
 bnd (fT a) λ g=>bnd (il a) λ j=>bnd (lF a.aa.ag.ls p2.aH.ls) λ f=>if(a.ay.ls.length:Int) >= 6 then bnd (dC i h p2.aP 2 [] (aA.mk a.aa (D0 (D1.wrap ((a.bP:Int)+1))) (E2 a.ay.ls) a.bK a.bA a.bz a.bv a.bq a.dP a.dH a.dI a.dG a.dJ)) λ e=>(e.1,aA.mk (cZ.mk e.2.aa.au e.2.aa.av e.2.aa.aV e.2.aa.aL (E2 a.aa.ag.ls) (E2 a.aa.aj.ls) (E2 a.aa.aF.ls)) e.2.bP (E2 a.ay.ls) e.2.bK e.2.bA e.2.bz e.2.bv e.2.bq e.2.dP e.2.dH e.2.dI e.2.dG e.2.dJ) else if((a.ay.ls.length+a.aa.aj.ls.length:Nat):Int) >= 8 then bnd (dC i h p2.aP 2 [] (aA.mk a.aa (D0 (D1.wrap ((a.bP:Int)+1))) (E2 a.ay.ls) a.bK a.bA a.bz a.bv a.bq a.dP a.dH a.dI a.dG a.dJ)) λ b=>(b.1,aA.mk (cZ.mk b.2.aa.au b.2.aa.av b.2.aa.aV b.2.aa.aL (E2 a.aa.ag.ls) (E2 a.aa.aj.ls) (E2 a.aa.aF.ls)) b.2.bP (E2 a.ay.ls) b.2.bK b.2.bA b.2.bz b.2.bv b.2.bq b.2.dP b.2.dH b.2.dI b.2.dG b.2.dJ) else if((D0 (D1.wrap ((g:Int) - (j:Int))):Nat):Int) >= 64 then bnd (dC i h p2.aP 2 [] (aA.mk a.aa (D0 (D1.wrap ((a.bP:Int)+1))) (E2 a.ay.ls) a.bK a.bA a.bz a.bv a.bq a.dP a.dH a.dI a.dG a.dJ)) λ c=>(c.1,aA.mk (cZ.mk c.2.aa.au c.2.aa.av c.2.aa.aV c.2.aa.aL (E2 a.aa.ag.ls) (E2 a.aa.aj.ls) (E2 a.aa.aF.ls)) c.2.bP (E2 a.ay.ls) c.2.bK c.2.bA c.2.bz c.2.bv c.2.bq c.2.dP c.2.dH c.2.dI c.2.dG c.2.dJ) else if f.2=0 then bnd (iO h p2 a g f.1 f.1 0 i.aX.ls) λ sLrbbbffftL=>(bI.mk (E2 sLrbbbffftL),aA.mk a.aa (D0 (D1.wrap ((a.bP:Int)+1))) (E2 (a.ay.ls++ [(dK.mk g h p2.aP a.aa.aL (E2 p2.aH.ls) (E2 f.1) (E2 (r6 f.1.length false)) (E2 (r6 f.1.length (E2 []:Ll aQ))) 0)])) a.bK a.bA a.bz a.bv a.bq a.dP a.dH a.dI a.dG a.dJ) else bnd (dC i h p2.aP 2 [] (aA.mk a.aa (D0 (D1.wrap ((a.bP:Int)+1))) (E2 a.ay.ls) a.bK a.bA a.bz a.bv a.bq a.dP a.dH a.dI a.dG a.dJ)) λ d=>(d.1,aA.mk (cZ.mk d.2.aa.au d.2.aa.av d.2.aa.aV d.2.aa.aL (E2 a.aa.ag.ls) (E2 a.aa.aj.ls) (E2 a.aa.aF.ls)) d.2.bP (E2 a.ay.ls) d.2.bK d.2.bA d.2.bz d.2.bv d.2.bq d.2.dP d.2.dH d.2.dI d.2.dG d.2.dJ)
theorem jP (w D g0) (p0:bI) (bK bM bD p1) (p2:bL) (dx iT dz eG iU eH eO eP iV eQ d) (a:aA) (l n p h M B C af I F G N O ag P Q ai S T aj U V ak W X au) (r0:bI) (r1:aA) (H:Own w D w [blk g0 [.pointer (some ⟨d,0,none⟩), .slice bK p0.aX.ls.length bM] 98,row bK p0.aX.ls.length bM (q3 bf.cells bD) 42 21,sepL (q3 bf.own bD),mK d a l a.aa.ag.ls.length n p h B C I F N O P Q S T U V W X,row l a.aa.ag.ls.length n (q3 aY.cells a.aa.ag.ls) 89 2,row p a.aa.aj.ls.length h (q3 aC.cells M) 60 5,sepL (q3 aC.own M),row B a.aa.aF.ls.length C (q3 aU.cells af) 56 4,sepL (q3 aU.own af),row I a.ay.ls.length F (q3 bB.cells G) 107 9,sepL (q3 bB.own G),row N a.bK.af.ls.length O (q3 ae.cells ag) 149 3,sepL (q3 ae.own ag),row P a.bA.af.ls.length Q (q3 ae.cells ai) 149 3,sepL (q3 ae.own ai),row S a.bz.af.ls.length T (q3 ae.cells aj) 149 3,sepL (q3 ae.own aj),row U a.bv.af.ls.length V (q3 ae.cells ak) 149 3,sepL (q3 ae.own ak),row W a.bq.af.ls.length X (q3 ae.cells au) 149 3,sepL (q3 ae.own au)]) (bA:s5 bf.abs bD=p0.aX.ls) (jk:iT=p2.aH.ls.length) (eT:Ro w D λ w'=>bE w' 6 dx p2.aH.ls.length (q3 bi.cells p2.aH.ls)) (pY:p2.aH.ls.length<=dz/\p2.aH.ls.length<=9223372036854775807) (jl:s5 ae.abs eO=p2.ai.ls) (jm:iU=p2.ai.ls.length) (p8:Ro w D λ w'=>bE w' 3 eG p2.ai.ls.length (q3 ae.cells eO)) (p9:p2.ai.ls.length<=eH/\p2.ai.ls.length<=9223372036854775807) (qb:∀ x ∈ eO,Ro w D (λ w'=>bE w' 2 x.ak.A x.ak.ls.length (q3 aI.cells x.ak.ls))/\(x.ak.ls.length<=x.ak.c/\x.ak.ls.length<=9223372036854775807)) (jo:iV=p2.ag.ls.length) (qc:Ro w D λ w'=>bE w' 2 eP p2.ag.ls.length (q3 aY.cells p2.ag.ls)) (qf:p2.ag.ls.length<=eQ/\p2.ag.ls.length<=9223372036854775807) (av:s5 aC.abs M=a.aa.aj.ls) (aM:s5 aU.abs af=a.aa.aF.ls) (Y:s5 bB.abs G=a.ay.ls) (aN:s5 ae.abs ag=a.bK.af.ls) (aP:s5 ae.abs ai=a.bA.af.ls) (aR:s5 ae.abs aj=a.bz.af.ls) (aS:s5 ae.abs ak=a.bv.af.ls) (aT:s5 ae.abs au=a.bq.af.ls) (uT:a.aa.ag.ls.length<=1000/\a.aa.aj.ls.length<=1000/\a.aa.aF.ls.length<=1000/\a.ay.ls.length<=1000/\p0.aX.ls.length<=100000) (uU:1<=p1/\p1<=4) (uV:p2.aH.ls.length<=24/\p2.ag.ls.length<=1000/\p2.ai.ls.length<=1000/\ky p2.aP) (hr:dQ p0 p1 p2 a=(r0,r1)):
    Calls Tryz.prog 90 #[vP g0 0,vI p1, .agg (gU p2.aD p2.aJ p2.fI p2.aK p2.dz p2.eH p2.aP p2.av p2.aN p2.dY p2.aV p2.aL p2.dL p2.cu p2.xN p2.cz p2.bU.bF p2.bU.bT dx iT dz eG iU eH eP iV eQ).toArray] w (d9 λ v w'=> ∃ eU eX dE eY fe fo fq dG fu fA dH fC fE dI fG fH dJ fI fJ dL fK fM dO fO fP dP fQ fV dR,v= .tuple #[]/\Own w D w' [blk g0 [vP d 0, .slice eU r0.aX.ls.length eX] 98,row eU r0.aX.ls.length eX (q3 bf.cells dE) 42 21,sepL (q3 bf.own dE),mK d r1 eY r1.aa.ag.ls.length fe fo fq fu fA fC fE fG fH fI fJ fK fM fO fP fQ fV,row eY r1.aa.ag.ls.length fe (q3 aY.cells r1.aa.ag.ls) 89 2,row fo r1.aa.aj.ls.length fq (q3 aC.cells dG) 60 5,sepL (q3 aC.own dG),row fu r1.aa.aF.ls.length fA (q3 aU.cells dH) 56 4,sepL (q3 aU.own dH),row fC r1.ay.ls.length fE (q3 bB.cells dI) 107 9,sepL (q3 bB.own dI),row fG r1.bK.af.ls.length fH (q3 ae.cells dJ) 149 3,sepL (q3 ae.own dJ),row fI r1.bA.af.ls.length fJ (q3 ae.cells dL) 149 3,sepL (q3 ae.own dL),row fK r1.bz.af.ls.length fM (q3 ae.cells dO) 149 3,sepL (q3 ae.own dO),row fO r1.bv.af.ls.length fP (q3 ae.cells dP) 149 3,sepL (q3 ae.own dP),row fQ r1.bq.af.ls.length fV (q3 ae.cells dR) 149 3,sepL (q3 ae.own dR)]/\(s5 bf.abs dE=r0.aX.ls)/\(s5 aC.abs dG=r1.aa.aj.ls)/\(s5 aU.abs dH=r1.aa.aF.ls)/\(s5 bB.abs dI=r1.ay.ls)/\(s5 ae.abs dJ=r1.bK.af.ls)/\(s5 ae.abs dL=r1.bA.af.ls)/\(s5 ae.abs dO=r1.bz.af.ls)/\(s5 ae.abs dP=r1.bv.af.ls)/\(s5 ae.abs dR=r1.bq.af.ls)):=by
 unfold dQ at hr
 subst jk jm jo
 have pW:=aB bA
 have pX:=aB jl
 have jZ:=aB av
 have j3:=aB aM
 have j4:=aB Y
 have j5:=aB aN
 have j6:=aB aP
 have kg:=aB aR
 have ko:=aB aS
 have ku:=aB aT
 have qi:=zr 1 H
 have kv:=zr 4 H
 have kw:=zr 5 H
 have kz:=zr 7 H
 have kC:=zr 9 H
 have kD:=zr 11 H
 have kE:=zr 13 H
 have kF:=zr 15 H
 have kG:=zr 17 H
 have kH:=zr 19 H
 refine cb Tryz.func90 ?_
 refine sr ?_
 refine dV (iH p2 dx dz eG eH eP eQ) 42 H ?_
 intro dU uW qj
 refine nt (Ic ?_)
 refine pU 22 [] (Iu IC) qj ?_
 intro uY qm
 refine qv 0 rfl rfl (qp g0 0 1 rfl (qp g0 0 2 rfl (ql 3 rfl 1 P3 rfl rfl rfl (qv 5 rfl rfl (qp g0 0 6 rfl (qp g0 0 7 rfl (ql 8 rfl 1 P3 rfl rfl rfl ?_)))))))
 have qo:=qm.pf [4]
 obtain⟨g,bY⟩:∃ q,fT a=q:=⟨_,rfl⟩
 obtain⟨uZ,kI,tT,kJ,tV⟩:=II qo
 refine qd 4 rfl (Iz Tryz.call126 rfl (qP _ _ d a l n p h B C I F N O P Q S T U V W X g kI bY) ?_)
 rintro _ u6 ⟨rfl,kK,iW⟩
 have qw:=kJ _ _ kK
 replace iW:g<=18446744073709551615:=iW
 have kL:=qw.pf [1,2,3,4]
 refine⟨.inr ⟨_,kL⟩, ?_⟩
 have bH:=kL.pf [4]
 have tX:=zr 6 bH
 have tY:=zr 10 bH
 obtain⟨dW,cu⟩:∃ q,il a=q:=⟨_,rfl⟩
 obtain⟨u7,kM,tZ,kN,bq⟩:=II bH
 refine qd 9 rfl (Iz Tryz.call108 rfl (o9 _ _ d a l n p h M B C I F G N O P Q S T U V W X dW kM av (bq _ 5 _ rfl aO) e6 (λ x9 Z=>⟨bq _ 6 _ rfl (ax (Q3.2 ⟨x9,Z,b1⟩) aO),aZ (φ:=λ _=>_) bH (i:=7) rfl (ax (Q3.2 ⟨x9,Z,b1⟩) aW)⟩) Y (bq _ 9 _ rfl aO) e6 (λ x9 Z=>⟨bq _ 10 _ rfl (ax (Q3.2 ⟨x9,Z,b1⟩) aO),aZ (φ:=λ _=>_) bH (i:=11) rfl (ax (Q3.2 ⟨x9,Z,b1⟩) aW),bq _ 10 _ rfl (ax (Q3.2 ⟨x9,Z, .tail _ b1⟩) aO),aZ (φ:=λ _=>_) bH (i:=11) rfl (ax (Q3.2 ⟨x9,Z, .tail _ b1⟩) aW),(λ y1 k1=>⟨bq _ 10 _ rfl (ax (Q3.2 ⟨x9,Z, .tail _ b4⟩) (ax (Q3.2 ⟨y1,k1,b1⟩) aO)),aZ (φ:=λ _=>_) bH (i:=11) rfl (ax (Q3.2 ⟨x9,Z, .tail _ b4⟩) (ax (Q3.2 ⟨y1,k1,b1⟩) aW)),bq _ 10 _ rfl (ax (Q3.2 ⟨x9,Z, .tail _ b4⟩) (ax (Q3.2 ⟨y1,k1, .tail _ b1⟩) aO)),aZ (φ:=λ _=>_) bH (i:=11) rfl (ax (Q3.2 ⟨x9,Z, .tail _ b4⟩) (ax (Q3.2 ⟨y1,k1, .tail _ b1⟩) aW))⟩),bq _ 10 _ rfl (ax (Q3.2 ⟨x9,Z, .tail _ b2⟩) aO),aZ (φ:=λ _=>_) bH (i:=11) rfl (ax (Q3.2 ⟨x9,Z, .tail _ b2⟩) aW),bq _ 10 _ rfl (ax (Q3.2 ⟨x9,Z, .tail _ b3⟩) aO),aZ (φ:=λ _=>_) bH (i:=11) rfl (ax (Q3.2 ⟨x9,Z, .tail _ b3⟩) aW),(λ y1 k1=>⟨bq _ 10 _ rfl (ax (Q3.2 ⟨x9,Z, .tail _ b5⟩) (ax (Q3.2 ⟨y1,k1,b1⟩) aO)),aZ (φ:=λ _=>_) bH (i:=11) rfl (ax (Q3.2 ⟨x9,Z, .tail _ b5⟩) (ax (Q3.2 ⟨y1,k1,b1⟩) aW)),(λ y2 k2=>⟨bq _ 10 _ rfl (ax (Q3.2 ⟨x9,Z, .tail _ b5⟩) (ax (Q3.2 ⟨y1,k1, .tail _ b1⟩) (ax (Q3.2 ⟨y2,k2,b1⟩) aO))),aZ (φ:=λ _=>_) bH (i:=11) rfl (ax (Q3.2 ⟨x9,Z, .tail _ b5⟩) (ax (Q3.2 ⟨y1,k1, .tail _ b1⟩) (ax (Q3.2 ⟨y2,k2,b1⟩) aW)))⟩)⟩)⟩) e8 cu) ?_)
 rintro _ ve ⟨rfl,kQ⟩
 have qx:=kN _ _ kQ
 have iQ:=qx.pf [1,2,3,4]
 refine⟨.inr ⟨_,iQ⟩, ?_⟩
 refine qa 10 rfl rfl (qa 11 rfl rfl (qn (Ig (sr (Mz rfl (Kz (vP g0 0) (Kz (vP g0 0) (Lz (vP d 0) iQ 1 P3 (Kz (vP d 0) (Kz (vP d 7) (Lz (vU a.bP) iQ 4 D4 (fw (.int .u64 ((D0 (D1.wrap ((a.bP:Int)+1)):Nat):Int)) (Ie (e:=D1.wrap ((a.bP:Int)+1)) yk (fD _)) (Kz (vP d 0) (Kz (vP d 7) ?_))))))))))))))
 have qy:=iQ.pf [4]
 refine dS [.int .u64 ((D0 (D1.wrap ((a.bP:Int)+1)):Nat):Int)] 7 qy Tryz.sizeOf28 ?_
 intro vg qz
 refine nt (Ic ?_)
 refine pU 22 [] (Iu IC) qz ?_
 intro vk qA
 refine qv 0 rfl rfl (qp g0 0 1 rfl (qp g0 0 2 rfl (ql 3 rfl 2 P3 rfl rfl rfl (qp d 0 4 rfl (qp d 0 5 rfl (qp d 4 6 rfl (ql 7 rfl 0 Tryz.isAgg29 rfl rfl rfl (qp dU 18 8 rfl (ql 9 rfl 1 Q7 rfl rfl rfl ?_)))))))))
 obtain⟨⟨b,dX⟩,bF⟩:∃ q:(List gF) × Int,lF a.aa.ag.ls p2.aH.ls=q:=⟨_,rfl⟩
 obtain⟨vo,kR,kS,kT,kU⟩:=Ii qA
 refine qd 10 rfl (Iz Tryz.call127 rfl (A9 _ _ l a.aa.ag.ls.length n a.aa.ag.ls dx p2.aH.ls.length dz p2.aH.ls b dX kR (kU _ 5 _ rfl aO) rfl e6 (kS _ eT) rfl e6 bF) ?_)
 rintro _ vv ⟨aa,aH,bg,rfl,kV,bv⟩
 have kW:=kT _ _ kV
 have uf:=aB bv
 have ug:=zr 0 kW
 have kX:∀ x ∈ b,x.aH.ls.length<=24024:=Cc bF e6 e6
 have uh:b.length<=5:=Ca bF
 have kY:=kW.pb [0,1]
 refine⟨.inr ⟨_,kY⟩, ?_⟩
 refine qv 11 rfl rfl (qk (.slice aa b.length aH) 12 rfl (qk (vI dX) 13 rfl (qa 14 rfl rfl (qa 15 rfl rfl (qn (Ig (Ic ?_)))))))
 refine pU 24 [] (Iu IC) kY ?_
 intro vw di
 refine qv 0 rfl rfl (qp g0 0 1 rfl (qp g0 0 2 rfl (ql 3 rfl 2 P3 rfl rfl rfl (qp d 0 4 rfl (qp d 8 5 rfl (ql 6 rfl 0 Q1 rfl rfl rfl (qk (vJ a.ay.ls.length) 7 rfl (qk (.bool (decide ((a.ay.ls.length:Int) >= 6))) 8 rfl (qv 9 rfl rfl ?_)))))))))
 by_cases j:(a.ay.ls.length:Int) >= 6
 refine Ik (rs:= []) 10 rfl rfl rfl (dT j) e7 (Ik (rs:= []) 11 rfl rfl rfl (dT j) e7 (Ik (rs:= []) 12 rfl rfl rfl (dT j) e7 (Ik (rs:= []) 13 rfl rfl rfl (dT j) e7 (Ik (rs:= []) 14 rfl rfl rfl (dT j) e7 (Ik (rs:= []) 15 rfl rfl rfl (dT j) e7 (Ik (rs:= []) 16 rfl rfl rfl (dT j) e7 (Ik (rs:= []) 17 rfl rfl rfl (dT j) e7 (Ik (rs:= []) 18 rfl rfl rfl (dT j) e7 (Ik (rs:= []) 19 rfl rfl rfl (dT j) e7 (Ik (rs:= []) 20 rfl rfl rfl (dT j) e7 (Ik (rs:= []) 21 rfl rfl rfl (dT j) e7 (Ik (rs:= []) 22 rfl rfl rfl (dT j) e7 (Ik (rs:= []) 23 rfl rfl rfl (dT j) e7 (Ik (rs:= []) 24 rfl rfl rfl (dT j) e7 (Ik (rs:= []) 25 rfl rfl rfl (dT j) e7 (Ik (rs:= []) 26 rfl rfl rfl (dT j) e7 (Ik (rs:= []) 27 rfl rfl rfl (dT j) e7 (Ik (rs:= []) 28 rfl rfl rfl (dT j) e7 (qt (v:= .bool true) 29 rfl (λ _ _=>Iw rfl (dT j) rfl) (qv 30 rfl rfl (Ik (rs:= []) 31 rfl rfl rfl rfl e7 (Ik (rs:= []) 32 rfl rfl rfl rfl e7 (Ik (rs:= []) 33 rfl rfl rfl rfl e7 (Ik (rs:= []) 34 rfl rfl rfl rfl e7 (qt (v:= .bool true) 35 rfl (λ _ _=>Iw rfl rfl rfl) (qa 36 rfl rfl (qn (Ig (Ic (sr (Mz rfl (Mz rfl (Sz rfl (Sz rfl (fw (.bool true) (Iw rfl rfl rfl) (nt (jt ?_)))))))))))))))))))))))))))))))))))))
 refine sr (Mz rfl (Mz rfl (Kz (vP dU 6) (Lz (vU p2.aP) di 1 D4 ?_))))
 have qB:=di.px [2,3,4] [] [1,5,6,7,8,9,10,11,22,23]
 obtain⟨⟨jq,bu⟩,iX⟩:∃ q:bI × aA,dC p0 p1 p2.aP 2 [] (aA.mk a.aa (D0 (D1.wrap ((a.bP:Int)+1))) (E2 a.ay.ls) a.bK a.bA a.bz a.bv a.bq a.dP a.dH a.dI a.dG a.dJ)=q:=⟨_,rfl⟩
 obtain⟨vz,kZ,ui,lc,uj⟩:=Ja qB
 refine cl Q8 (kr _ _ g0 p0 bK bM bD p1 p2.aP 2 none 0 0 [] [] d (aA.mk a.aa (D0 (D1.wrap ((a.bP:Int)+1))) (E2 a.ay.ls) a.bK a.bA a.bz a.bv a.bq a.dP a.dH a.dI a.dG a.dJ) l n p h B C I F N O ag P Q ai S T aj U V ak W X au jq bu kZ bA rfl (λ _ _=>bE.nil _ _ _) (λ _ Z=>absurd Z y6) rfl i8 g6 aN aP aR aS aT e8 g3 g3 i2 iX) ?_
 rintro _ vB ⟨qC,qD,qE,lg,lh,ll,lm,lq,lu,lv,lw,lC,lD,lG,lH,lI,lJ,lK,rfl,lL,iY,fZ,gq,gu,gy,gz,gB⟩
 have dY:=lc _ _ lL
 have qF:=aB iY
 have qG:=aB fZ
 have qH:=aB gq
 have qI:=aB gu
 have qJ:=aB gy
 have qK:=aB gz
 have qL:=zr 1 dY
 have qM:=zr 4 dY
 have qN:=zr 6 dY
 have qO:=zr 8 dY
 have qQ:=zr 10 dY
 have qR:=zr 12 dY
 replace gB:jq.aX.ls.length=p0.aX.ls.length+1:=gB
 refine nt (rt (tR (Fin.res (res0 rfl) ?_)))
 have lM:=dY.px [] [14,22,23] [4,5,6,7,8,9,10,11,12,13]
 obtain⟨rfl,rfl⟩:=ic (zj hr zq5)
 exact⟨qC,qD,qE,l,n,p,h,M,B,C,af,I,F,G,lg,lh,ll,lm,lq,lu,lv,lw,lC,lD,lG,lH,lI,lJ,lK,rfl,lM,iY,av,aM,Y,fZ,gq,gu,gy,gz⟩
 refine Ip (v:=vP g0 0) (rs:= []) 10 rfl rfl rfl (dF j) e7 (λ _ _=>Iq rfl) (Ip (v:=vP g0 0) (rs:= []) 11 rfl rfl rfl (dF j) e7 (λ _ _=>yk) (Ip (v:=vP g0 0) (rs:= []) 12 rfl rfl rfl (dF j) e7 (λ _ _=>yk) (Ip (v:=vP d 0) (rs:= []) 13 rfl rfl rfl (dF j) e7 (λ _ ⟨_,H9⟩=>Io rfl (bZ.one P3 (jR.of (H9.cls (i:=2) rfl) rfl))) (Ip (v:=vP d 0) (rs:= []) 14 rfl rfl rfl (dF j) e7 (λ _ _=>yk) (Ip (v:=vP d 8) (rs:= []) 15 rfl rfl rfl (dF j) e7 (λ _ _=>yk) (Ip (v:= .slice I a.ay.ls.length F) (rs:= []) 16 rfl rfl rfl (dF j) e7 (λ _ ⟨_,H9⟩=>Io rfl (bZ.one Q1 (jR.of (H9.cls (i:=0) rfl) rfl))) (Ip (v:=vJ a.ay.ls.length) (rs:= []) 17 rfl rfl rfl (dF j) e7 (λ _ _=>yk) (Ip (v:=vP g0 0) (rs:= []) 18 rfl rfl rfl (dF j) e7 (λ _ _=>Iq rfl) (Ip (v:=vP g0 0) (rs:= []) 19 rfl rfl rfl (dF j) e7 (λ _ _=>yk) (Ip (v:=vP g0 0) (rs:= []) 20 rfl rfl rfl (dF j) e7 (λ _ _=>yk) (Ip (v:=vP d 0) (rs:= []) 21 rfl rfl rfl (dF j) e7 (λ _ ⟨_,H9⟩=>Io rfl (bZ.one P3 (jR.of (H9.cls (i:=2) rfl) rfl))) (Ip (v:=vP d 0) (rs:= []) 22 rfl rfl rfl (dF j) e7 (λ _ _=>yk) (Ip (v:=vP d 0) (rs:= []) 23 rfl rfl rfl (dF j) e7 (λ _ _=>yk) (Ip (v:=vP d 5) (rs:= []) 24 rfl rfl rfl (dF j) e7 (λ _ _=>yk) (Ip (v:= .slice p a.aa.aj.ls.length h) (rs:= []) 25 rfl rfl rfl (dF j) e7 (λ _ ⟨_,H9⟩=>Io rfl (bZ.one Tryz.isAgg30 (jR.of (H9.cls (i:=0) rfl) rfl))) (Ip (v:=vJ a.aa.aj.ls.length) (rs:= []) 26 rfl rfl rfl (dF j) e7 (λ _ _=>yk) (Ip (v:=vJ (a.ay.ls.length+a.aa.aj.ls.length)) (rs:= []) 27 rfl rfl rfl (dF j) e7 (λ _ _=>Ie (e:=C5.wrap ((a.ay.ls.length:Int)+(a.aa.aj.ls.length:Int))) yk f0) (Ip (v:= .bool (decide (((a.ay.ls.length+a.aa.aj.ls.length:Nat):Int) >= 8))) (rs:= []) 28 rfl rfl rfl (dF j) e7 (λ _ _=>yk) (qt (v:= .bool (decide (((a.ay.ls.length+a.aa.aj.ls.length:Nat):Int) >= 8))) 29 rfl (λ _ _=>Ih rfl (dF j) rfl) (qv 30 rfl rfl ?_))))))))))))))))))))
 by_cases aK:((a.ay.ls.length+a.aa.aj.ls.length:Nat):Int) >= 8
 refine Ik (rs:= []) 31 rfl rfl rfl (dT aK) e7 (Ik (rs:= []) 32 rfl rfl rfl (dT aK) e7 (Ik (rs:= []) 33 rfl rfl rfl (dT aK) e7 (Ik (rs:= []) 34 rfl rfl rfl (dT aK) e7 (qt (v:= .bool true) 35 rfl (λ _ _=>Iw rfl (dT aK) rfl) (qa 36 rfl rfl (qn (Ig (Ic (sr (Mz rfl (Mz rfl (Sz rfl (Sz rfl (fw (.bool true) (Iw rfl rfl rfl) (nt (jt (sr (Mz rfl (Mz rfl (Kz (vP dU 6) (Lz (vU p2.aP) di 1 D4 ?_)))))))))))))))))))))
 have lN:=di.px [2,3,4] [] [1,5,6,7,8,9,10,11,22,23]
 obtain⟨⟨gD,az⟩,gG⟩:∃ q:bI × aA,dC p0 p1 p2.aP 2 [] (aA.mk a.aa (D0 (D1.wrap ((a.bP:Int)+1))) (E2 a.ay.ls) a.bK a.bA a.bz a.bv a.bq a.dP a.dH a.dI a.dG a.dJ)=q:=⟨_,rfl⟩
 obtain⟨uk,jr,qU,jw,qV⟩:=Ja lN
 refine cl Q8 (kr _ _ g0 p0 bK bM bD p1 p2.aP 2 none 0 0 [] [] d (aA.mk a.aa (D0 (D1.wrap ((a.bP:Int)+1))) (E2 a.ay.ls) a.bK a.bA a.bz a.bv a.bq a.dP a.dH a.dI a.dG a.dJ) l n p h B C I F N O ag P Q ai S T aj U V ak W X au gD az jr bA rfl (λ _ _=>bE.nil _ _ _) (λ _ Z=>absurd Z y6) rfl i8 g6 aN aP aR aS aT e8 g3 g3 i2 gG) ?_
 rintro _ ul ⟨lQ,lS,lT,lU,lV,lW,lX,lY,lZ,l5,l6,l7,l8,l9,ma,mf,mg,mh,rfl,jy,gH,gI,gJ,gK,gL,gM,gN⟩
 have bP:=jw _ _ jy
 have qW:=aB gH
 have qX:=aB gI
 have qY:=aB gJ
 have qZ:=aB gK
 have q8:=aB gL
 have q9:=aB gM
 have rf:=zr 1 bP
 have rq:=zr 4 bP
 have ru:=zr 6 bP
 have ry:=zr 8 bP
 have rz:=zr 10 bP
 have rA:=zr 12 bP
 replace gN:gD.aX.ls.length=p0.aX.ls.length+1:=gN
 refine nt (rt (tR (Fin.res (res0 rfl) ?_)))
 have mi:=bP.px [] [14,22,23] [4,5,6,7,8,9,10,11,12,13]
 obtain⟨rfl,rfl⟩:=ic (zj hr zq6)
 exact⟨lQ,lS,lT,l,n,p,h,M,B,C,af,I,F,G,lU,lV,lW,lX,lY,lZ,l5,l6,l7,l8,l9,ma,mf,mg,mh,rfl,mi,gH,av,aM,Y,gI,gJ,gK,gL,gM⟩
 refine Ip (v:=vU g) (rs:= []) 31 rfl rfl rfl (dF aK) e7 (λ _ _=>Iq rfl) (Ip (v:=vU dW) (rs:= []) 32 rfl rfl rfl (dF aK) e7 (λ _ _=>Iq rfl) (Ip (v:= .int .u64 ((D0 (D1.wrap ((g:Int) - (dW:Int))):Nat):Int)) (rs:= []) 33 rfl rfl rfl (dF aK) e7 (λ _ _=>Ie (e:=D1.wrap ((g:Int) - (dW:Int))) yk (fD _)) (Ip (v:= .bool (decide (((D0 (D1.wrap ((g:Int) - (dW:Int))):Nat):Int) >= 64))) (rs:= []) 34 rfl rfl rfl (dF aK) e7 (λ _ _=>yk) (qt (v:= .bool (decide (((D0 (D1.wrap ((g:Int) - (dW:Int))):Nat):Int) >= 64))) 35 rfl (λ _ _=>Ih rfl (dF aK) rfl) (qa 36 rfl rfl (qn (Ig (Ic (sr (Mz rfl (Mz rfl ?_)))))))))))
 by_cases bz:((D0 (D1.wrap ((g:Int) - (dW:Int))):Nat):Int) >= 64
 refine Sz (dT bz) (Sz (dT bz) (fw (.bool true) (Iw rfl (dT bz) rfl) (nt (jt (sr (Mz rfl (Mz rfl (Kz (vP dU 6) (Lz (vU p2.aP) di 1 D4 ?_)))))))))
 have mo:=di.px [2,3,4] [] [1,5,6,7,8,9,10,11,22,23]
 obtain⟨⟨gP,aD⟩,gQ⟩:∃ q:bI × aA,dC p0 p1 p2.aP 2 [] (aA.mk a.aa (D0 (D1.wrap ((a.bP:Int)+1))) (E2 a.ay.ls) a.bK a.bA a.bz a.bv a.bq a.dP a.dH a.dI a.dG a.dJ)=q:=⟨_,rfl⟩
 obtain⟨uo,jA,rC,jB,rD⟩:=Ja mo
 refine cl Q8 (kr _ _ g0 p0 bK bM bD p1 p2.aP 2 none 0 0 [] [] d (aA.mk a.aa (D0 (D1.wrap ((a.bP:Int)+1))) (E2 a.ay.ls) a.bK a.bA a.bz a.bv a.bq a.dP a.dH a.dI a.dG a.dJ) l n p h B C I F N O ag P Q ai S T aj U V ak W X au gP aD jA bA rfl (λ _ _=>bE.nil _ _ _) (λ _ Z=>absurd Z y6) rfl i8 g6 aN aP aR aS aT e8 g3 g3 i2 gQ) ?_
 rintro _ uq ⟨mq,mr,mD,mF,mG,mH,mI,mJ,mM,mO,mP,mQ,mR,mU,mV,mW,mX,mY,rfl,jC,gT,gV,gW,gX,gY,gZ,ib⟩
 have bR:=jB _ _ jC
 have rE:=aB gT
 have rF:=aB gV
 have rG:=aB gW
 have rH:=aB gX
 have rM:=aB gY
 have rO:=aB gZ
 have rP:=zr 1 bR
 have rQ:=zr 4 bR
 have rR:=zr 6 bR
 have rT:=zr 8 bR
 have rV:=zr 10 bR
 have rW:=zr 12 bR
 replace ib:gP.aX.ls.length=p0.aX.ls.length+1:=ib
 refine nt (rt (tR (Fin.res (res0 rfl) ?_)))
 have mZ:=bR.px [] [14,22,23] [4,5,6,7,8,9,10,11,12,13]
 obtain⟨rfl,rfl⟩:=ic (zj hr zq7)
 exact⟨mq,mr,mD,l,n,p,h,M,B,C,af,I,F,G,mF,mG,mH,mI,mJ,mM,mO,mP,mQ,mR,mU,mV,mW,mX,mY,rfl,mZ,gT,av,aM,Y,gV,gW,gX,gY,gZ⟩
 refine gw (vI dX) (dF bz) (Iq rfl) (gw (.bool (decide (¬ (dX=0)))) (dF bz) (IG (e:= !(decide (dX=0))) yk decide_not.symm) (fw (.bool (decide (¬ (dX=0)))) (Ih rfl (dF bz) rfl) (nt ?_)))
 by_cases eB:dX=0
 refine jF (dF (Lh eB)) (sk (sr (Mz rfl (Kz (vJ b.length) (An rfl (Ic ?_))))))
 refine pU 24 [] (Iu IC) di ?_
 intro ut ng
 refine qv 0 rfl rfl (qv 1 rfl rfl (qp dU 6 2 rfl (ql 3 rfl 1 D4 rfl rfl rfl (qv 4 rfl rfl (qp g0 0 5 rfl (qp g0 0 6 rfl (ql 7 rfl 2 P3 rfl rfl rfl (qp d 0 8 rfl (qp d 0 9 rfl (qp d 3 10 rfl (ql 11 rfl 0 D4 rfl rfl rfl (qp dU 18 12 rfl (ql 13 rfl 1 Q7 rfl rfl rfl (qv 15 rfl rfl (qv 16 rfl rfl (qv 18 rfl rfl ?_))))))))))))))))
 have rX:r8 (r6 b.length false)=b.length:=H2
 have rY:r8 (r6 b.length (H0 none 0 []:bO))=b.length:=H2
 have rZ:r8 (r6 b.length (E2 []:Ll aQ))=b.length:=H2
 refine Gx ⟨14,_,_,_,_,_,Option Addr × Nat,λ g9=> .slice g9.1 p2.aH.ls.length g9.2,λ _=>True,λ g9=> [row g9.1 p2.aH.ls.length g9.2 (q3 bi.cells p2.aH.ls) 72 6]⟩ ⟨17,_,_,_,_,_,Option Addr,λ g9=> .slice g9 b.length b.length,λ _=>True,λ g9=> [row g9 b.length b.length (q3 eL (r6 b.length false)) 4 1]⟩ ⟨19,_,_,_,_,_,Option Addr,λ g9=> .slice g9 b.length b.length,λ _=>True,λ g9=> [sepL (q3 bO.own (r6 b.length (H0 none 0 []:bO))),row g9 b.length b.length (q3 (IX (β:=ae)) (r6 b.length (H0 none 0 []:bO))) 40 1]⟩ ⟨21,_,_,_,_,_,Nat,λ g9=>vP g9 0,λ _=>True,λ g9=> [blk g9 (rJ 0 0 0 0 none 0 0 none 0 0 none 0 0 none 0 0 0) 107]⟩ 20 24 ng ⟨⟨rfl,rfl,rfl, ?_⟩,⟨rfl,rfl,rfl, ?_⟩,⟨rfl,rfl,rfl, ?_⟩,⟨rfl,rfl,rfl, ?_⟩,trivial⟩ rfl ?_
 intro uu L' ni
 refine(IY (cs:=(rJ 0 0 0 0 none 0 0 none 0 0 none 0 0 none 0 0 0)) (t:=107) ni rfl rfl (λ _=>by kernel_rfl) ?_)
 intro aL uw nk
 exact⟨aL,rfl,trivial,nk⟩
 intro uy L' nu
 obtain⟨uz,jD,jE,jG,r9⟩:=Ii nu
 refine(Iz Tryz.call109 rfl (oC _ _ dx p2.aH.ls.length dz p2.aH.ls p2.aH.ls jD (jE _ eT) rfl e6 rfl) ?_)
 rintro _ uA ⟨J,K,rfl,jH⟩
 have ny:=jG _ _ jH
 exact⟨(J,K),rfl,trivial,ny⟩
 intro uB L' nz
 refine(Jl (x0:=false) (z:= .bool false) (k:=b.length) (size:=1) (bytes:=1) pq f4 rfl Tryz.underlying104 e7 nz rfl rfl e6 (by unfold maxLen; omega) ?_)
 intro u uC nA
 exact⟨u,rfl,trivial,nA⟩
 intro uD L' nC
 refine(Jl (x0:=(H0 none 0 []:bO)) (z:= .slice none 0 0) (k:=b.length) (size:=1) (bytes:=24) rU f4 rfl Tryz.underlying105 e7 nC rfl rfl e6 (by unfold maxLen; omega) ?_)
 intro L uE nD
 have nE:=nD.free (R:=sepL (q3 bO.own (r6 b.length (H0 none 0 []:bO)))) (uX (DW (eZ 149 3) (zu λ _ Z=>absurd Z y6)))
 exact⟨L,rfl,trivial,nE⟩
 rintro ⟨J,K⟩ _ u _ L _
 refine⟨.agg (rJ g p1 p2.aP a.aa.aL J p2.aH.ls.length K aa b.length aH u b.length b.length L b.length b.length 0).toArray,λ _=>yk, ?_⟩
 rintro aL _
 intro nG nH
 have eD:Own w D nG (blk aL (rJ 0 0 0 0 none 0 0 none 0 0 none 0 0 none 0 0 0) 107::sepL (q3 bO.own (r6 b.length (H0 none 0 []:bO)))::row L b.length b.length (q3 (IX (β:=ae)) (r6 b.length (H0 none 0 []:bO))) 40 1::row u b.length b.length (q3 eL (r6 b.length false)) 4 1::row J p2.aH.ls.length K (q3 bi.cells p2.aH.ls) 72 6::_):=nH.flat.pf []
 have si:=zr 2 eD
 have sj:=zr 3 eD
 have su:=zr 4 eD
 have nI:=eD.pb [0,1,2,3,4]
 have nJ:=nI.pf [24]
 refine qe 22 rfl (Do.store (vs:=(rJ g p1 p2.aP a.aa.aL J p2.aH.ls.length K aa b.length aH u b.length b.length L b.length b.length 0)) (o:=0) nJ rfl rfl Tryz.sizeOf107 rfl rfl rfl rfl ?_)
 intro uF nK
 have iZ:=nK.pb [0,25,26,27,28]
 refine⟨.inr ⟨_,iZ⟩, ?_⟩
 refine qn (Ig (Ic ?_))
 have nL:=iZ.px [] [1] []
 have dZ:b.length=r8 (r6 b.length (E2 []:Ll aQ)):=by first | omega | (simp only [H1]; done) | (simp only [H1,o1,s0,F2,m9,o0,H2]; omega)
 have nM:=nL.pf [23]
 have nN:=Jh 7 dZ nM
 have nO:=nN.pf [25]
 have nP:=I4 dZ nO
 have nQ:=nP.pb [1,25,0,26,27]
 have ed:b.length=r8 (r6 b.length false):=by first | omega | (simp only [H1]; done) | (simp only [H1,o1,s0,F2,m9,o0,H2]; omega)
 have nR:=nQ.pf [23]
 have nS:=Jh 6 ed nR
 have nT:=nS.pf [26]
 have nU:=I4 ed nT
 have nV:=nU.pb [1,25,26,0,27]
 have nW:=nV.pf [0,1,23]
 refine Es [16] (Iu IC) nW ?_
 intro uG nX
 refine qv 0 rfl rfl (qp g0 0 1 rfl (qp g0 0 2 rfl (ql 3 rfl 1 P3 rfl rfl rfl (qv 4 rfl rfl (qp g0 0 5 rfl (qp g0 0 6 rfl (ql 7 rfl 1 P3 rfl rfl rfl (qp d 0 8 rfl (qp d 8 9 rfl (ql 10 rfl 0 Q1 rfl rfl rfl (qt (v:= .agg (rJ g p1 p2.aP a.aa.aL J p2.aH.ls.length K aa b.length aH u (r8 (r6 b.length false)) b.length L (r8 (r6 b.length (E2 []:Ll aQ))) b.length 0).toArray) 11 rfl (λ _ ⟨_,H9⟩=>Io rfl (Iy (cs:=(rJ g p1 p2.aP a.aa.aL J p2.aH.ls.length K aa b.length aH u (r8 (r6 b.length false)) b.length L (r8 (r6 b.length (E2 []:Ll aQ))) b.length 0)) Tryz.isAgg107 Tryz.sizeOf107 ((H9.cls (i:=2) rfl).lit (k:=0) (m:=9) rfl))) ?_)))))))))))
 refine qd 12 rfl (Jp (cs:=(rJ g p1 p2.aP a.aa.aL J p2.aH.ls.length K aa b.length aH u (r8 (r6 b.length false)) b.length L (r8 (r6 b.length (E2 []:Ll aQ))) b.length 0)) (t:=107) (sz:=9) (m:=1) nX rfl rfl (λ _=>by kernel_rfl) rfl f4 ?_)
 intro ja uH ig
 replace ig:=IL (y:=row ja 1 1 (q3 bB.cells ([(bB.mk g p1 p2.aP a.aa.aL (H0 J K p2.aH.ls) (H0 aa aH bg) (H0 u b.length (r6 b.length false)) (H0 L b.length (r6 b.length (H0 none 0 []:bO))) 0)])) 107 9) (EC (λ z9 z8=>row ja 1 1 [vU g,vI p1,vU p2.aP,vU a.aa.aL, .slice J p2.aH.ls.length K, .slice aa z9 aH, .slice u (r8 (r6 b.length false)) b.length, .slice L z8 b.length,vI 0] 107 9) (aB bv).symm (aB (L6 (f:=bO.abs))).symm) ig
 have jb:=ig.pf [1,2,3]
 refine⟨.inr ⟨_,jb⟩, ?_⟩
 have jc:=jb.pf [11,12,28,23,27,26,24,25]
 refine qd 13 rfl (IM (k:=a.ay.ls.length) (m:=1) (qh) jc rfl rfl (jv Tryz.underlying79 (jc.rds (i:=11) rfl) (fU bB.one ([(bB.mk g p1 p2.aP a.aa.aL (H0 J K p2.aH.ls) (H0 aa aH bg) (H0 u b.length (r6 b.length false)) (H0 L b.length (r6 b.length (H0 none 0 []:bO))) 0)]))) rfl e6 (s:=r8 (a.ay.ls++ [(dK.mk g p1 p2.aP a.aa.aL (E2 p2.aH.ls) (E2 b) (E2 (r6 b.length false)) (E2 (r6 b.length (E2 []:Ll aQ))) 0)])) f7 (r4).symm ?_)
 intro dB cz nY nZ
 have og:=nZ.pf [3]
 have oh:=I4 (aB bv).symm og
 have ol:=oh.pf [5]
 have om:=I4 (n':=r8 (r6 b.length (H0 none 0 []:bO))) (aB (L6 (f:=bO.abs))).symm ol
 have oo:=om.pf [3,4,1,5,0,6,7]
 have oq:Own w D nY (sepL (q3 bB.own (G++ [(bB.mk g p1 p2.aP a.aa.aL (H0 J K p2.aH.ls) (H0 aa aH bg) (H0 u b.length (r6 b.length false)) (H0 L b.length (r6 b.length (H0 none 0 []:bO))) 0)]))::_):=oo.sepAdd (L2:= [row J p2.aH.ls.length K (q3 bi.cells p2.aH.ls) 72 6,row aa bg.length aH (q3 bG.cells bg) 172 3,row u (r8 (r6 b.length false)) b.length (q3 eL (r6 b.length false)) 4 1,row L (r8 (r6 b.length (H0 none 0 []:bO))) b.length (q3 (IX (β:=ae)) (r6 b.length (H0 none 0 []:bO))) 40 1,sepL (q3 bG.own bg),sepL (q3 bO.own (r6 b.length (H0 none 0 []:bO)))]) (r4 (f:=bB.own) (xs:=G) (ys:= [(bB.mk g p1 p2.aP a.aa.aL (H0 J K p2.aH.ls) (H0 aa aH bg) (H0 u b.length (r6 b.length false)) (H0 L b.length (r6 b.length (H0 none 0 []:bO))) 0)])).symm
 have sw:r8 (a.ay.ls++ [(dK.mk g p1 p2.aP a.aa.aL (E2 p2.aH.ls) (E2 b) (E2 (r6 b.length false)) (E2 (r6 b.length (E2 []:Ll aQ))) 0)])=a.ay.ls.length+1:=by simp only [o1,s0,F2]
 have sD:=aB (pF (es:= [(bB.mk g p1 p2.aP a.aa.aL (H0 J K p2.aH.ls) (H0 aa aH bg) (H0 u b.length (r6 b.length false)) (H0 L b.length (r6 b.length (H0 none 0 []:bO))) 0)]) (ms:= [(dK.mk g p1 p2.aP a.aa.aL (E2 p2.aH.ls) (E2 b) (E2 (r6 b.length false)) (E2 (r6 b.length (E2 []:Ll aQ))) 0)]) Y (EC (λ z9 z8=> [dK.mk g p1 p2.aP a.aa.aL (E2 p2.aH.ls) (E2 z9) (E2 (r6 b.length false)) (E2 z8) 0]) bv (L6 (f:=bO.abs))))
 have jd:=oq.pf [2,3,4]
 refine⟨.inr ⟨_,jd⟩, ?_⟩
 refine qp d 0 14 rfl (qp d 8 15 rfl ?_)
 refine qe 16 rfl (Do.store (vs:= [.slice dB (r8 (a.ay.ls++ [(dK.mk g p1 p2.aP a.aa.aL (E2 p2.aH.ls) (E2 b) (E2 (r6 b.length false)) (E2 (r6 b.length (E2 []:Ll aQ))) 0)])) cz]) (o:=8) jd rfl rfl Tryz.sizeOf79 rfl rfl rfl rfl ?_)
 intro uI ou
 refine⟨.inl e7, ?_⟩
 refine qn (Ig ?_)
 have je:=ou.px [] [5] []
 refine Ib (Mz rfl ?_)
 refine WL.do rfl (Iz Tryz.call64 rfl ?_ (λ _ _ k=>k))
 refine cb Tryz.func64 ?_
 refine sr (Mz rfl (Kz (vP aL 0) (Kz (vP aL 5) (Lz (.slice aa b.length aH) je 2 Tryz.isAgg103 (Kz (vJ b.length) (Mn rfl (bo ?_)))))))
 have ow:=je.pb [5,6]
 obtain⟨oz,dm⟩:=Au λ (r:Nat) cB (cK:Nat) bS aF w'=>Own w D w' [blk d [vI a.aa.au,vU a.aa.av,vU a.aa.aV,vU a.aa.aL, .slice l a.aa.ag.ls.length n, .slice p a.aa.aj.ls.length h, .slice B a.aa.aF.ls.length C, .int .u64 ((D0 (D1.wrap ((a.bP:Int)+1)):Nat):Int), .slice dB (r8 (a.ay.ls++ [(dK.mk g p1 p2.aP a.aa.aL (E2 p2.aH.ls) (E2 b) (E2 (r6 b.length false)) (E2 (r6 b.length (E2 []:Ll aQ))) 0)])) cz, .bool a.bK.cO,vU a.bK.aS,vI a.bK.dA, .slice N a.bK.af.ls.length O, .bool a.bA.cO,vU a.bA.aS,vI a.bA.dA, .slice P a.bA.af.ls.length Q, .bool a.bz.cO,vU a.bz.aS,vI a.bz.dA, .slice S a.bz.af.ls.length T, .bool a.bv.cO,vU a.bv.aS,vI a.bv.dA, .slice U a.bv.af.ls.length V, .bool a.bq.cO,vU a.bq.aS,vI a.bq.dA, .slice W a.bq.af.ls.length X,vU a.dP,vU a.dH,vU a.dI,vU a.dG,vU a.dJ, .pointer none] 86,blk g0 [vP d 0, .slice cB aF.length cK] 98,blk aL (rJ g p1 p2.aP a.aa.aL J p2.aH.ls.length K aa b.length aH u (r8 (r6 b.length false)) b.length L (r8 (r6 b.length (E2 []:Ll aQ))) b.length 0) 107,sepL (q3 bB.own (G++ [(bB.mk g p1 p2.aP a.aa.aL (H0 J K p2.aH.ls) (H0 aa aH bg) (H0 u b.length (r6 b.length false)) (H0 L b.length (r6 b.length (H0 none 0 []:bO))) 0)])),row dB (r8 (a.ay.ls++ [(dK.mk g p1 p2.aP a.aa.aL (E2 p2.aH.ls) (E2 b) (E2 (r6 b.length false)) (E2 (r6 b.length (E2 []:Ll aQ))) 0)])) cz (q3 bB.cells (G++ [(bB.mk g p1 p2.aP a.aa.aL (H0 J K p2.aH.ls) (H0 aa aH bg) (H0 u b.length (r6 b.length false)) (H0 L b.length (r6 b.length (H0 none 0 []:bO))) 0)])) 107 9,row l a.aa.ag.ls.length n (q3 aY.cells a.aa.ag.ls) 89 2,row p a.aa.aj.ls.length h (q3 aC.cells M) 60 5,sepL (q3 aC.own M),row B a.aa.aF.ls.length C (q3 aU.cells af) 56 4,sepL (q3 aU.own af),row N a.bK.af.ls.length O (q3 ae.cells ag) 149 3,sepL (q3 ae.own ag),row P a.bA.af.ls.length Q (q3 ae.cells ai) 149 3,sepL (q3 ae.own ai),row S a.bz.af.ls.length T (q3 ae.cells aj) 149 3,sepL (q3 ae.own aj),row U a.bv.af.ls.length V (q3 ae.cells ak) 149 3,sepL (q3 ae.own ak),row W a.bq.af.ls.length X (q3 ae.cells au) 149 3,sepL (q3 ae.own au),row cB aF.length cK (q3 bf.cells bS) 42 21,sepL (q3 bf.own bS)]/\s5 bf.abs bS=aF/\r<=b.length/\aF.length<=p0.aX.ls.length+r/\aF.length<=100000+r/\iO p1 p2 a g b b 0 p0.aX.ls=iO p1 p2 a g b (List.drop r b) r aF
 refine Wp.loop (λ i:Nat × (Option Addr) × Nat × (List bf) × (List bL)=> [(11,vJ i.1),(10,vJ b.length),(9, .slice aa b.length aH),(0,vP g0 0),(1,vP aL 0)]) oz (λ i=>b.length - i.1) (0,bK,bM,bD,p0.aX.ls) ⟨rfl,rfl,rfl,rfl,rfl,trivial⟩ (dm.2 ⟨ow,by exact bA,e6,e6,e6,rfl⟩) ?_
 rintro ⟨r,cB,cK,bS,aF⟩ uJ jK
 obtain⟨bT,dn,sF,sG,sH,ek⟩:=dm.1 jK
 have sI:=aB dn
 refine sr (Kz (.bool (decide ((r:Int) < (b.length:Int)))) (nt (Ic ?_)))
 by_cases jf:(r:Int) < (b.length:Int)
 obtain⟨E,bU⟩:=dN (ls:=bg) (i:=r) bG.len f4 (show bE _ 3 aa b.length (q3 bG.cells bg) from (aZ bT (i:=3) rfl (ax (Q3.2 ⟨_,v2 _ b1, .tail _ b1⟩) (λ w9 Z a9 b9=>qg (aB bv) (aO w9 Z a9 b9))))) e9
 have ik:=fF bv bU
 have sJ:E.aH.ls.length<=E.aH.c/\E.aH.ls.length<=9223372036854775807:=aZ bT (i:=3) rfl (φ:=λ _=>_) (ax (Q3.2 ⟨_,v2 _ b1, .tail _ b4⟩) (ax (Q3.2 ⟨E,D3 bU,b1⟩) aW))
 have sK:E.aJ.ls.length<=E.aJ.c/\E.aJ.ls.length<=9223372036854775807:=aZ bT (i:=3) rfl (φ:=λ _=>_) (ax (Q3.2 ⟨_,v2 _ b1, .tail _ b4⟩) (ax (Q3.2 ⟨E,D3 bU, .tail _ b1⟩) aW))
 have sM:E.aH.ls.length<=24024:=kX _ (D3 ik)
 have iq:=drop_at ik
 refine jT (dT jf) (sk (Ic (bo (sr (Mz rfl (fw (.pointer (some ⟨ab aa,ao aa+r *3,none⟩)) (Ij (um) rfl rfl ((show bE _ 3 aa b.length (q3 bG.cells bg) from (aZ bT (i:=3) rfl (ax (Q3.2 ⟨_,v2 _ b1, .tail _ b1⟩) (λ w9 Z a9 b9=>qg (aB bv) (aO w9 Z a9 b9))))).addr (i:=r) e6) e6) (fw (.agg (bG.cells E).toArray) (Io rfl (Iy (cs:=(bG.cells E)) Tryz.isAgg172 Tryz.sizeOf172 ((show bE _ 3 aa b.length (q3 bG.cells bg) from (aZ bT (i:=3) rfl (ax (Q3.2 ⟨_,v2 _ b1, .tail _ b1⟩) (λ w9 Z a9 b9=>qg (aB bv) (aO w9 Z a9 b9))))).elem bG.len bU f4))) ?_)))))))
 refine dV [vI 0, .slice none 0 0, .slice none 0 0] 172 bT ?_
 intro jg uK oH
 refine Az rfl ?_
 refine dS (bG.cells E) 0 oH Tryz.sizeOf172 ?_
 intro uL cO
 refine ns (Mz rfl (Kz (vP aL 0) (Kz (vP aL 6) (Lz (.slice u (r8 (r6 b.length false)) b.length) cO 3 Tryz.isAgg104 (Mz rfl ?_)))))
 obtain⟨iw,eu⟩:=dN (ls:=(r6 b.length false)) (i:=r) pq f4 (show bE _ 1 u (r8 (r6 b.length false)) (q3 eL (r6 b.length false)) from (aZ cO (i:=4) rfl (ax (Q3.2 ⟨_,v2 _ b1, .tail _ b2⟩) aO))) e9
 refine fw (.pointer (some ⟨ab u,ao u+r *1,none⟩)) (Ij (yc) rfl rfl ((show bE _ 1 u (r8 (r6 b.length false)) (q3 eL (r6 b.length false)) from (aZ cO (i:=4) rfl (ax (Q3.2 ⟨_,v2 _ b1, .tail _ b2⟩) aO))).addr (i:=r) e6) e6) (fw (.bool iw) (Io rfl (bZ.one Tryz.isAgg4 (((show bE _ 1 u (r8 (r6 b.length false)) (q3 eL (r6 b.length false)) from (aZ cO (i:=4) rfl (ax (Q3.2 ⟨_,v2 _ b1, .tail _ b2⟩) aO))).elem pq eu f4).at_ (k:=0) rfl))) (Kz (.bool (!iw)) (nt ?_)))
 rcases Li (iw) with dD | dD
 refine jF (cn dD) (IE (bN (Ig (Ib (fw (vJ (r+1)) (Ie (e:=C5.wrap ((r:Int)+1)) yk f0) (Mz rfl (WL.nil ?_)))))))
 have oI:=cO.px [] [0] []
 exact Ir (r+1,cB,cK,bS,aF) ⟨rfl,rfl,rfl,rfl,rfl,trivial⟩ (dm.2 ⟨oI,by exact dn,e6,e6,e6,et (ek) (et (congrArg (λ q=>iO p1 p2 a g b q r aF) iq) (et (ah (bJ eu)) (ip dD)))⟩) (by show b.length - (r+1) < b.length - r; omega)
 refine jT (cn dD) ?_
 refine pU 23 [19] (bQ.block (Iu (Iu (bQ.block IC)))) cO ?_
 intro uM oJ
 refine qv 0 rfl rfl (qp jg 0 1 rfl (ql 2 rfl 0 Tryz.isAgg3 rfl rfl rfl (qv 3 rfl rfl (qp aL 0 4 rfl (qp aL 0 5 rfl (ql 6 rfl 3 D4 rfl rfl rfl (qv 7 rfl rfl (qp g0 0 8 rfl (qp g0 0 9 rfl (ql 10 rfl 2 P3 rfl rfl rfl (qv 12 rfl rfl (qp aL 0 13 rfl (qp aL 3 14 rfl (ql 15 rfl 3 D4 rfl rfl rfl (qp jg 1 16 rfl (ql 17 rfl 0 Q7 rfl rfl rfl ?_))))))))))))))))
 have aX:=oJ.pf [1]
 have sN:=zr 7 aX
 have sO:=zr 5 aX
 obtain⟨eF,iy⟩:∃ q,il (aA.mk a.aa (D0 (D1.wrap ((a.bP:Int)+1))) (E2 (a.ay.ls++ [(dK.mk g p1 p2.aP a.aa.aL (E2 p2.aH.ls) (E2 b) (E2 (r6 b.length false)) (E2 (r6 b.length (E2 []:Ll aQ))) 0)])) a.bK a.bA a.bz a.bv a.bq a.dP a.dH a.dI a.dG a.dJ)=q:=⟨_,rfl⟩
 obtain⟨uN,jL,sP,jM,aJ⟩:=II aX
 refine qd 11 rfl (Iz Tryz.call108 rfl (o9 _ _ d (aA.mk a.aa (D0 (D1.wrap ((a.bP:Int)+1))) (E2 (a.ay.ls++ [(dK.mk g p1 p2.aP a.aa.aL (E2 p2.aH.ls) (E2 b) (E2 (r6 b.length false)) (E2 (r6 b.length (E2 []:Ll aQ))) 0)])) a.bK a.bA a.bz a.bv a.bq a.dP a.dH a.dI a.dG a.dJ) l n p h M B C dB cz (G++ [(bB.mk g p1 p2.aP a.aa.aL (H0 J K p2.aH.ls) (H0 aa aH bg) (H0 u b.length (r6 b.length false)) (H0 L b.length (r6 b.length (H0 none 0 []:bO))) 0)]) N O P Q S T U V W X eF jL av (aJ _ 6 _ rfl aO) e6 (λ x9 Z=>⟨aJ _ 7 _ rfl (ax (Q3.2 ⟨x9,Z,b1⟩) aO),aZ (φ:=λ _=>_) aX (i:=8) rfl (ax (Q3.2 ⟨x9,Z,b1⟩) aW)⟩) (pF (es:= [(bB.mk g p1 p2.aP a.aa.aL (H0 J K p2.aH.ls) (H0 aa aH bg) (H0 u b.length (r6 b.length false)) (H0 L b.length (r6 b.length (H0 none 0 []:bO))) 0)]) (ms:= [(dK.mk g p1 p2.aP a.aa.aL (E2 p2.aH.ls) (E2 b) (E2 (r6 b.length false)) (E2 (r6 b.length (E2 []:Ll aQ))) 0)]) Y (EC (λ z9 z8=> [dK.mk g p1 p2.aP a.aa.aL (E2 p2.aH.ls) (E2 z9) (E2 (r6 b.length false)) (E2 z8) 0]) bv (L6 (f:=bO.abs)))) (aJ _ 4 _ rfl aO) e6 (λ x9 Z=>⟨aJ _ 3 _ rfl (ax (Q3.2 ⟨x9,Z,b1⟩) aO),aZ (φ:=λ _=>_) aX (i:=4) rfl (ax (Q3.2 ⟨x9,Z,b1⟩) aW),aJ _ 3 _ rfl (ax (Q3.2 ⟨x9,Z, .tail _ b1⟩) aO),aZ (φ:=λ _=>_) aX (i:=4) rfl (ax (Q3.2 ⟨x9,Z, .tail _ b1⟩) aW),(λ y1 k1=>⟨aJ _ 3 _ rfl (ax (Q3.2 ⟨x9,Z, .tail _ b4⟩) (ax (Q3.2 ⟨y1,k1,b1⟩) aO)),aZ (φ:=λ _=>_) aX (i:=4) rfl (ax (Q3.2 ⟨x9,Z, .tail _ b4⟩) (ax (Q3.2 ⟨y1,k1,b1⟩) aW)),aJ _ 3 _ rfl (ax (Q3.2 ⟨x9,Z, .tail _ b4⟩) (ax (Q3.2 ⟨y1,k1, .tail _ b1⟩) aO)),aZ (φ:=λ _=>_) aX (i:=4) rfl (ax (Q3.2 ⟨x9,Z, .tail _ b4⟩) (ax (Q3.2 ⟨y1,k1, .tail _ b1⟩) aW))⟩),aJ _ 3 _ rfl (ax (Q3.2 ⟨x9,Z, .tail _ b2⟩) aO),aZ (φ:=λ _=>_) aX (i:=4) rfl (ax (Q3.2 ⟨x9,Z, .tail _ b2⟩) aW),aJ _ 3 _ rfl (ax (Q3.2 ⟨x9,Z, .tail _ b3⟩) aO),aZ (φ:=λ _=>_) aX (i:=4) rfl (ax (Q3.2 ⟨x9,Z, .tail _ b3⟩) aW),(λ y1 k1=>⟨aJ _ 3 _ rfl (ax (Q3.2 ⟨x9,Z, .tail _ b5⟩) (ax (Q3.2 ⟨y1,k1,b1⟩) aO)),aZ (φ:=λ _=>_) aX (i:=4) rfl (ax (Q3.2 ⟨x9,Z, .tail _ b5⟩) (ax (Q3.2 ⟨y1,k1,b1⟩) aW)),(λ y2 k2=>⟨aJ _ 3 _ rfl (ax (Q3.2 ⟨x9,Z, .tail _ b5⟩) (ax (Q3.2 ⟨y1,k1, .tail _ b1⟩) (ax (Q3.2 ⟨y2,k2,b1⟩) aO))),aZ (φ:=λ _=>_) aX (i:=4) rfl (ax (Q3.2 ⟨x9,Z, .tail _ b5⟩) (ax (Q3.2 ⟨y1,k1, .tail _ b1⟩) (ax (Q3.2 ⟨y2,k2,b1⟩) aW)))⟩)⟩)⟩) e8 iy) ?_)
 rintro _ uO ⟨rfl,jN⟩
 have oK:=jM _ _ jN
 have jh:=oK.pf [1]
 refine⟨.inr ⟨_,jh⟩, ?_⟩
 refine qk (.agg (gU 3 0 E.eG 0 0 0 0 0 g eF 0 a.aa.aL 0 0 0 false [] [] E.aH.A E.aH.ls.length E.aH.c none 0 0 none 0 0).toArray) 18 rfl ?_
 have oL:=jh.pf [2,21,22]
 obtain⟨iA,iB⟩:∃ q,dw (bI.mk (E2 aF)) (bL.mk 3 0 E.eG 0 0 0 0 0 g eF 0 a.aa.aL 0 0 0 false (bC.mk [] []) (E2 E.aH.ls) (E2 []) (E2 []))=q:=⟨_,rfl⟩
 obtain⟨uP,jO,sQ,jQ,jS⟩:=IU oL
 refine qd 19 rfl (Iz Tryz.call65 rfl (gp _ _ g0 (bI.mk (E2 aF)) cB cK bS d (bL.mk 3 0 E.eG 0 0 0 0 0 g eF 0 a.aa.aL 0 0 0 false (bC.mk [] []) (E2 E.aH.ls) (E2 []) (E2 [])) E.aH.A E.aH.ls.length E.aH.c none 0 0 [] none 0 0 iA jO dn rfl (jS _ 3 _ rfl (ax (Q3.2 ⟨_,v2 _ b1, .tail _ b4⟩) (ax (Q3.2 ⟨E,D3 bU,b1⟩) aO))) e6 rfl rfl (λ _ _=>bE.nil _ _ _) f2 (λ _ Z=>absurd Z y6) rfl (λ _ _=>bE.nil _ _ _) f2 e8 (by first | assumption | exact dM f5 | exact λ x hx=>absurd hx y6 | exact dM (Mk.mU f5).1 | exact dM (Mk.lT f5).1 | exact dM (Mk.nu f5).1 | exact dM (Mk.ny f5).1 | exact dM (Mk.nz f5).1) iB) ?_)
 rintro _ uQ ⟨oM,oN,oO,rfl,jU,iC,iD⟩
 have ji:=jQ _ _ jU
 have sS:=aB iC
 have sU:=zr 1 ji
 replace iD:iA.aX.ls.length=aF.length+1:=iD
 refine⟨.inl e7, ?_⟩
 refine qn (bN (Ig (Ib (fw (vJ (r+1)) (Ie (e:=C5.wrap ((r:Int)+1)) yk f0) (Mz rfl (WL.nil ?_))))))
 have oP:=ji.px [4] [3] [1,2]
 exact Ir (r+1,oM,oN,oO,iA.aX.ls) ⟨rfl,rfl,rfl,rfl,rfl,trivial⟩ (dm.2 ⟨oP,by exact iC,e6,e6,e6,et (ek) (et (congrArg (λ q=>iO p1 p2 a g b q r aF) iq) (et (ah (bJ eu)) (et (gm dD) (et (ah iy) (ah iB)))))⟩) (by show b.length - (r+1) < b.length - r; omega)
 refine jF (dF jf) (Wp.exit (Il ?_))
 have jV:iO p1 p2 a g b b 0 p0.aX.ls=aF:=et (ek) (et (congrArg (λ q=>iO p1 p2 a g b q r aF) (fB (ls:=b) (i:=r) e6)) rfl)
 refine Il (IB (IA (res0 rfl) (WL.nil (IA (res0 rfl) ?_))))
 have oQ:=bT.px [1,20,21,0,5,6,7,8,9,4] [2] []
 obtain⟨rfl,rfl⟩:=ic (zj hr zq8)
 exact⟨cB,cK,bS,l,n,p,h,M,B,C,af,dB,cz,(G++ [(bB.mk g p1 p2.aP a.aa.aL (H0 J K p2.aH.ls) (H0 aa aH bg) (H0 u b.length (r6 b.length false)) (H0 L b.length (r6 b.length (H0 none 0 []:bO))) 0)]),N,O,ag,P,Q,ai,S,T,aj,U,V,ak,W,X,au,(by(first | rw [<- dZ] | skip); (first | rw [<- ed] | skip); first | done | rfl),oQ,dn,av,aM,(pF (es:= [(bB.mk g p1 p2.aP a.aa.aL (H0 J K p2.aH.ls) (H0 aa aH bg) (H0 u b.length (r6 b.length false)) (H0 L b.length (r6 b.length (H0 none 0 []:bO))) 0)]) (ms:= [(dK.mk g p1 p2.aP a.aa.aL (E2 p2.aH.ls) (E2 b) (E2 (r6 b.length false)) (E2 (r6 b.length (E2 []:Ll aQ))) 0)]) Y (EC (λ z9 z8=> [dK.mk g p1 p2.aP a.aa.aL (E2 p2.aH.ls) (E2 z9) (E2 (r6 b.length false)) (E2 z8) 0]) bv (L6 (f:=bO.abs)))),aN,aP,aR,aS,aT⟩
 refine jT (dT eB) (sr (Mz rfl (Mz rfl (Kz (vP dU 6) (Lz (vU p2.aP) di 1 D4 ?_)))))
 have oU:=di.px [2,3,4] [] [1,5,6,7,8,9,10,11,22,23]
 obtain⟨⟨iE,aG⟩,iF⟩:∃ q:bI × aA,dC p0 p1 p2.aP 2 [] (aA.mk a.aa (D0 (D1.wrap ((a.bP:Int)+1))) (E2 a.ay.ls) a.bK a.bA a.bz a.bv a.bq a.dP a.dH a.dI a.dG a.dJ)=q:=⟨_,rfl⟩
 obtain⟨uR,jW,sV,jX,sW⟩:=Ja oU
 refine cl Q8 (kr _ _ g0 p0 bK bM bD p1 p2.aP 2 none 0 0 [] [] d (aA.mk a.aa (D0 (D1.wrap ((a.bP:Int)+1))) (E2 a.ay.ls) a.bK a.bA a.bz a.bv a.bq a.dP a.dH a.dI a.dG a.dJ) l n p h B C I F N O ag P Q ai S T aj U V ak W X au iE aG jW bA rfl (λ _ _=>bE.nil _ _ _) (λ _ Z=>absurd Z y6) rfl i8 g6 aN aP aR aS aT e8 g3 g3 i2 iF) ?_
 rintro _ uS ⟨oV,oW,oZ,o5,o6,o7,o8,pg,pu,pz,pE,pG,pI,pJ,pK,pM,pO,pQ,rfl,jY,iG,iI,iJ,iK,iL,iM,iP⟩
 have bV:=jX _ _ jY
 have sZ:=aB iG
 have tq:=aB iI
 have tu:=aB iJ
 have tC:=aB iK
 have tF:=aB iL
 have tH:=aB iM
 have tJ:=zr 1 bV
 have tK:=zr 4 bV
 have tL:=zr 6 bV
 have tN:=zr 8 bV
 have tO:=zr 10 bV
 have tQ:=zr 12 bV
 replace iP:iE.aX.ls.length=p0.aX.ls.length+1:=iP
 refine nt (rt (tR (Fin.res (res0 rfl) ?_)))
 have pR:=bV.px [] [14,22,23] [4,5,6,7,8,9,10,11,12,13]
 obtain⟨rfl,rfl⟩:=ic (zj hr zq8)
 exact⟨oV,oW,oZ,l,n,p,h,M,B,C,af,I,F,G,o5,o6,o7,o8,pg,pu,pz,pE,pG,pI,pJ,pK,pM,pO,pQ,rfl,pR,iG,av,aM,Y,iI,iJ,iK,iL,iM⟩
end
open List renaming length_map->s3
open _root_.Go.Proofs.Tryz renaming call65->P6,call89->P4,call90->R6,func89->P5,isAgg3->C4,isAgg4->N3,isAgg40->E3,isAgg42->N5,isAgg81->Q9,prog->v8,sizeOf42->N6,sizeOf81->P7
open WL renaming nil->C6
section
open Go.RowKit
def fQ (a:Int):List dK->Nat->Unit ⊕ Int
  | [],b=>Sum.inl ()
  | c::d,b=>if c.aM=a then Sum.inr (b:Int) else fQ a d (b+1)
def kQ (l0:List dK) (a:Int):Int:=
 lp (fQ a l0 0) λ _=>(-1)
theorem pz (w D t G I d0 l0 f a F) (H:Own w D w [blk f [.int .i64 a] 3]) (y:s5 bB.abs d0=l0) (s:Ro w D λ w'=>bE w' 9 t G (q3 bB.cells d0)) (n:∀ x ∈ d0,Ro w D (λ w'=>bE w' 6 x.bV.A x.bV.ls.length (q3 bi.cells x.bV.ls))/\(x.bV.ls.length<=x.bV.c/\x.bV.ls.length<=9223372036854775807)/\Ro w D (λ w'=>bE w' 3 x.aG.A x.aG.ls.length (q3 bG.cells x.aG.ls))/\(x.aG.ls.length<=x.aG.c/\x.aG.ls.length<=9223372036854775807)/\(∀ g ∈ x.aG.ls,Ro w D (λ w'=>bE w' 6 g.aH.A g.aH.ls.length (q3 bi.cells g.aH.ls))/\(g.aH.ls.length<=g.aH.c/\g.aH.ls.length<=9223372036854775807)/\Ro w D (λ w'=>bE w' 1 g.aJ.A g.aJ.ls.length (q3 (eI .i64) g.aJ.ls))/\(g.aJ.ls.length<=g.aJ.c/\g.aJ.ls.length<=9223372036854775807))/\Ro w D (λ w'=>bE w' 1 x.bD.A x.bD.ls.length (q3 eL x.bD.ls))/\(x.bD.ls.length<=x.bD.c/\x.bD.ls.length<=9223372036854775807)/\Ro w D (λ w'=>bE w' 1 x.af.A x.af.ls.length (q3 (IX (β:=ae)) x.af.ls))/\(x.af.ls.length<=x.af.c/\x.af.ls.length<=9223372036854775807)/\(∀ g ∈ x.af.ls,Ro w D (λ w'=>bE w' 3 g.A g.ls.length (q3 ae.cells g.ls))/\(g.ls.length<=g.c/\g.ls.length<=9223372036854775807)/\(∀ u ∈ g.ls,Ro w D (λ w'=>bE w' 2 u.ak.A u.ak.ls.length (q3 aI.cells u.ak.ls))/\(u.ak.ls.length<=u.ak.c/\u.ak.ls.length<=9223372036854775807)))) (J:G=l0.length) (aa:l0.length<=9223372036854775807) (hr:kQ l0 a=F):
    Calls v8 125 #[.slice t G I, .func (.func 88) #[] #[vP f 0]] w (d9 λ v w'=>v=vI F/\Own w D w' [blk f [vI a] 3]/\(-1<=F/\F < ((l0.length:Nat):Int))):=by
 subst J
 have S:=aB y
 refine cb Tryz.func125 ?_
 refine sr (An rfl (Ic (sr (Mz rfl (Kz (vJ l0.length) (Mn rfl (bo ?_)))))))
 have K:=H.pf []
 obtain⟨L,j⟩:=nQ λ (b:Nat) w'=>Own w D w' [blk f [vI a] 3]/\b<=l0.length/\fQ a l0 0=fQ a (List.drop b l0) b
 refine Wp.loop (λ i:Nat=> [(4,vI 0),(8,vJ i),(7,vJ l0.length),(0, .slice t l0.length I),(1, .func (.func 88) #[] #[vP f 0])]) L (λ i=>l0.length - i) 0 ⟨rfl,rfl,rfl,rfl,rfl,trivial⟩ (j.2 ⟨K,e6,rfl⟩) ?_
 rintro b af z
 obtain⟨l,T,m⟩:=j.1 z
 refine sr (Kz (.bool (decide ((b:Int) < (l0.length:Int)))) (nt (Ic ?_)))
 by_cases B:(b:Int) < (l0.length:Int)
 obtain⟨d,h⟩:=dN (ls:=d0) (i:=b) bB.len f4 (l.ro s) e9
 have C:=fF y h
 have U:=(n _ (D3 h)).2.1
 have V:=(n _ (D3 h)).2.2.2.1
 have W:List.length (s5 bG.abs d.aG.ls)=d.aG.ls.length:=s3 ..
 have X:=(n _ (D3 h)).2.2.2.2.2.2.1
 have Y:=(n _ (D3 h)).2.2.2.2.2.2.2.2.1
 have Z:List.length (s5 bO.abs d.af.ls)=d.af.ls.length:=s3 ..
 have r:=drop_at C
 refine jT (dT B) (sk (Ic (bo (sr (Mz rfl (Ar rfl (Mz rfl (Mz rfl (Mz rfl (fw (.pointer (some ⟨ab t,ao t+b *9,none⟩)) (Ij (qh) rfl rfl ((l.ro s).addr (i:=b) e6) e6) (fw (.agg (bB.cells d).toArray) (Io rfl (Iy (cs:=(bB.cells d)) Tryz.isAgg107 Tryz.sizeOf107 ((l.ro s).elem bB.len h f4))) ?_)))))))))))
 refine WL.do rfl (IK Tryz.call88 rfl rfl ?_ (λ _ _ k=>k))
 refine cb Tryz.func88 ?_
 refine sr ?_
 refine dV (bB.cells d) 107 l ?_
 intro M ag o
 refine Ar rfl (Kz (vP M 1) (Lz (vI d.aM) o 0 C4 (Lz (vI a) o 1 C4 (Kz (.bool (decide (d.aM=a))) (An rfl (rt (rs (nt ?_))))))))
 by_cases p:d.aM=a
 refine jT (dT p) (Ic ?_)
 have N:=o.pk [1]
 refine Ib (Mz rfl (An rfl (rt (bR (tR (tR (bR (tR (rs ?_)))))))))
 have O:=N.pf []
 obtain rfl:_=(b:Int):=zj hr (jm (et (m) (et (congrArg (λ q=>fQ a q b) r) (ip p))))
 exact⟨rfl,O,e6⟩
 refine jF (dF p) (IE (bN (Ig ?_)))
 have P:=o.pk [1]
 refine Ib (fw (vJ (b+1)) (Ie (e:=C5.wrap ((b:Int)+1)) yk f0) (Mz rfl (C6 ?_)))
 have Q:=P.pf []
 exact Ir (b+1) ⟨rfl,rfl,rfl,rfl,rfl,trivial⟩ (j.2 ⟨Q,e6,et (m) (et (congrArg (λ q=>fQ a q b) r) (iN p))⟩) (by show l0.length - (b+1) < l0.length - b; omega)
 refine jF (dF B) (Wp.exit (Il ?_))
 have E:fQ a l0 0=Sum.inl ():=et (m) (et (congrArg (λ q=>fQ a q b) (fB (ls:=l0) (i:=b) e6)) rfl)
 refine Il (IB (Ig (sr (An rfl (rt (rs ?_))))))
 have R:=l.pf []
 obtain rfl:_=(-1):=zj hr (nT E)
 exact⟨rfl,R,e6⟩
def kz (l0:List dK) (a:Int):Bool:=
 bnd (kQ l0 a) λ b=>decide (b >= 0)
theorem oM (w D s t C d0 l0 h e E) (H:Own w D w [blk h [.int .i64 e] 3]) (n:s5 bB.abs d0=l0) (u:Ro w D λ w'=>bE w' 9 s t (q3 bB.cells d0)) (a:∀ x ∈ d0,Ro w D (λ w'=>bE w' 6 x.bV.A x.bV.ls.length (q3 bi.cells x.bV.ls))/\(x.bV.ls.length<=x.bV.c/\x.bV.ls.length<=9223372036854775807)/\Ro w D (λ w'=>bE w' 3 x.aG.A x.aG.ls.length (q3 bG.cells x.aG.ls))/\(x.aG.ls.length<=x.aG.c/\x.aG.ls.length<=9223372036854775807)/\(∀ b ∈ x.aG.ls,Ro w D (λ w'=>bE w' 6 b.aH.A b.aH.ls.length (q3 bi.cells b.aH.ls))/\(b.aH.ls.length<=b.aH.c/\b.aH.ls.length<=9223372036854775807)/\Ro w D (λ w'=>bE w' 1 b.aJ.A b.aJ.ls.length (q3 (eI .i64) b.aJ.ls))/\(b.aJ.ls.length<=b.aJ.c/\b.aJ.ls.length<=9223372036854775807))/\Ro w D (λ w'=>bE w' 1 x.bD.A x.bD.ls.length (q3 eL x.bD.ls))/\(x.bD.ls.length<=x.bD.c/\x.bD.ls.length<=9223372036854775807)/\Ro w D (λ w'=>bE w' 1 x.af.A x.af.ls.length (q3 (IX (β:=ae)) x.af.ls))/\(x.af.ls.length<=x.af.c/\x.af.ls.length<=9223372036854775807)/\(∀ b ∈ x.af.ls,Ro w D (λ w'=>bE w' 3 b.A b.ls.length (q3 ae.cells b.ls))/\(b.ls.length<=b.c/\b.ls.length<=9223372036854775807)/\(∀ j ∈ b.ls,Ro w D (λ w'=>bE w' 2 j.ak.A j.ak.ls.length (q3 aI.cells j.ak.ls))/\(j.ak.ls.length<=j.ak.c/\j.ak.ls.length<=9223372036854775807)))) (y:t=l0.length) (I:l0.length<=9223372036854775807) (hr:kz l0 e=E):
    Calls v8 87 #[.slice s t C, .func (.func 88) #[] #[vP h 0]] w (d9 λ v w'=>v= .bool E/\Own w D w' [blk h [vI e] 3]):=by
 unfold kz at hr
 subst y
 have F:=aB n
 refine cb Tryz.func87 ?_
 refine sr (Ar rfl (Mz rfl (Mz rfl ?_)))
 obtain⟨i,l⟩:∃ q,kQ l0 e=q:=⟨_,rfl⟩
 obtain⟨J,o,d,p,G⟩:=II H
 refine cl Tryz.call125 (pz _ _ s l0.length C d0 l0 h e i o n (d _ u) (λ f g=>⟨d _ (a f g).1,(a f g).2.1,d _ (a f g).2.2.1,(a f g).2.2.2.1,(λ b k=>⟨d _ ((a f g).2.2.2.2.1 b k).1,((a f g).2.2.2.2.1 b k).2.1,d _ ((a f g).2.2.2.2.1 b k).2.2.1,((a f g).2.2.2.2.1 b k).2.2.2⟩),d _ (a f g).2.2.2.2.2.1,(a f g).2.2.2.2.2.2.1,d _ (a f g).2.2.2.2.2.2.2.1,(a f g).2.2.2.2.2.2.2.2.1,(λ b k=>⟨d _ ((a f g).2.2.2.2.2.2.2.2.2 b k).1,((a f g).2.2.2.2.2.2.2.2.2 b k).2.1,(λ j k2=>⟨d _ (((a f g).2.2.2.2.2.2.2.2.2 b k).2.2 j k2).1,(((a f g).2.2.2.2.2.2.2.2.2 b k).2.2 j k2).2⟩)⟩)⟩) rfl e6 l) ?_
 rintro _ K ⟨rfl,r,m⟩
 have z:=p _ _ r
 replace m: -1<=i/\i < (l0.length:Int):=m
 refine Kz (.bool (decide (i >= 0))) (An rfl (rt (rs ?_)))
 have B:=z.pf []
 obtain rfl:=zj hr zq1
 exact⟨rfl,B⟩
def ji (c:bI) (b:bL) (a:aA):bI × aA:=
 if(b.av:Int)=(a.aa.av:Int) then bnd (kz a.ay.ls (b.aJ - 10)) λ p=>if p=true then(c,a) else if b.aJ - 10=1 then if a.bA.cO=true then if(a.bA.aS:Int) >= (b.aP:Int) then if(a.bA.aS:Int)=(b.aP:Int) then bnd (dw c (bL.mk 2 0 (10+(b.aJ - 10)) 0 a.bA.dA 0 a.bA.aS a.aa.av 0 0 0 0 0 0 0 false (bC.mk [] []) (E2 []) (E2 a.bA.af.ls) (E2 []))) λ q=>(q,a) else(c,a) else bnd (dQ c (b.aJ - 10) b a) λ k=>(k.1,k.2) else bnd (dQ c (b.aJ - 10) b a) λ d=>(d.1,d.2) else if b.aJ - 10=2 then if a.bz.cO=true then if(a.bz.aS:Int) >= (b.aP:Int) then if(a.bz.aS:Int)=(b.aP:Int) then bnd (dw c (bL.mk 2 0 (10+(b.aJ - 10)) 0 a.bz.dA 0 a.bz.aS a.aa.av 0 0 0 0 0 0 0 false (bC.mk [] []) (E2 []) (E2 a.bz.af.ls) (E2 []))) λ l=>(l,a) else(c,a) else bnd (dQ c (b.aJ - 10) b a) λ e=>(e.1,e.2) else bnd (dQ c (b.aJ - 10) b a) λ f=>(f.1,f.2) else if b.aJ - 10=3 then if a.bv.cO=true then if(a.bv.aS:Int) >= (b.aP:Int) then if(a.bv.aS:Int)=(b.aP:Int) then bnd (dw c (bL.mk 2 0 (10+(b.aJ - 10)) 0 a.bv.dA 0 a.bv.aS a.aa.av 0 0 0 0 0 0 0 false (bC.mk [] []) (E2 []) (E2 a.bv.af.ls) (E2 []))) λ m=>(m,a) else(c,a) else bnd (dQ c (b.aJ - 10) b a) λ g=>(g.1,g.2) else bnd (dQ c (b.aJ - 10) b a) λ h=>(h.1,h.2) else if a.bq.cO=true then if(a.bq.aS:Int) >= (b.aP:Int) then if(a.bq.aS:Int)=(b.aP:Int) then bnd (dw c (bL.mk 2 0 (10+(b.aJ - 10)) 0 a.bq.dA 0 a.bq.aS a.aa.av 0 0 0 0 0 0 0 false (bC.mk [] []) (E2 []) (E2 a.bq.af.ls) (E2 []))) λ n=>(n,a) else(c,a) else bnd (dQ c (b.aJ - 10) b a) λ i=>(i.1,i.2) else bnd (dQ c (b.aJ - 10) b a) λ j=>(j.1,j.2) else bnd (kZ c (b.aJ - 10) b a) λ o=>(o,a)
theorem uP (w D g0) (p0:bI) (aD aF au) (b:bL) (av jJ Z ay jK aa bq az jL af r) (a:aA) (S T U V W X N O F G P Y Q R j d I l f J n g K p h L) (r0:bI) (r1:aA) (H:Own w D w [blk g0 [.pointer (some ⟨r,0,none⟩), .slice aD p0.aX.ls.length aF] 98,row aD p0.aX.ls.length aF (q3 bf.cells au) 42 21,sepL (q3 bf.own au),mK r a S a.aa.ag.ls.length T U V X N F G Y Q j d l f n g p h,row S a.aa.ag.ls.length T (q3 aY.cells a.aa.ag.ls) 89 2,row U a.aa.aj.ls.length V (q3 aC.cells W) 60 5,sepL (q3 aC.own W),row X a.aa.aF.ls.length N (q3 aU.cells O) 56 4,sepL (q3 aU.own O),row F a.ay.ls.length G (q3 bB.cells P) 107 9,sepL (q3 bB.own P),row Y a.bK.af.ls.length Q (q3 ae.cells R) 149 3,sepL (q3 ae.own R),row j a.bA.af.ls.length d (q3 ae.cells I) 149 3,sepL (q3 ae.own I),row l a.bz.af.ls.length f (q3 ae.cells J) 149 3,sepL (q3 ae.own J),row n a.bv.af.ls.length g (q3 ae.cells K) 149 3,sepL (q3 ae.own K),row p a.bq.af.ls.length h (q3 ae.cells L) 149 3,sepL (q3 ae.own L)]) (ag:s5 bf.abs au=p0.aX.ls) (kL:jJ=b.aH.ls.length) (aX:Ro w D λ w'=>bE w' 6 av b.aH.ls.length (q3 bi.cells b.aH.ls)) (wL:b.aH.ls.length<=Z/\b.aH.ls.length<=9223372036854775807) (aR:s5 ae.abs bq=b.ai.ls) (kM:jK=b.ai.ls.length) (bg:Ro w D λ w'=>bE w' 3 ay b.ai.ls.length (q3 ae.cells bq)) (wM:b.ai.ls.length<=aa/\b.ai.ls.length<=9223372036854775807) (ai:∀ x ∈ bq,Ro w D (λ w'=>bE w' 2 x.ak.A x.ak.ls.length (q3 aI.cells x.ak.ls))/\(x.ak.ls.length<=x.ak.c/\x.ak.ls.length<=9223372036854775807)) (kN:jL=b.ag.ls.length) (bn:Ro w D λ w'=>bE w' 2 az b.ag.ls.length (q3 aY.cells b.ag.ls)) (wN:b.ag.ls.length<=af/\b.ag.ls.length<=9223372036854775807) (M:s5 aC.abs W=a.aa.aj.ls) (B:s5 aU.abs O=a.aa.aF.ls) (C:s5 bB.abs P=a.ay.ls) (E:s5 ae.abs R=a.bK.af.ls) (s:s5 ae.abs I=a.bA.af.ls) (u:s5 ae.abs J=a.bz.af.ls) (y:s5 ae.abs K=a.bv.af.ls) (z:s5 ae.abs L=a.bq.af.ls) (Cn:a.aa.ag.ls.length<=1000/\a.aa.aj.ls.length<=1000/\a.aa.aF.ls.length<=1000/\a.ay.ls.length<=1000/\p0.aX.ls.length<=100000) (Co:Mk a) (Cq:a.bK.af.ls.length<=1000/\a.bA.af.ls.length<=1000/\a.bz.af.ls.length<=1000/\a.bv.af.ls.length<=1000/\a.bq.af.ls.length<=1000) (Cr:11<=b.aJ/\b.aJ<=14) (Cs:b.aH.ls.length<=24/\b.ag.ls.length<=1000/\b.ai.ls.length<=1000/\ky b.aP) (hr:ji p0 b a=(r0,r1)):
    Calls v8 56 #[vP g0 0, .agg (gU b.aD b.aJ b.fI b.aK b.dz b.eH b.aP b.av b.aN b.dY b.aV b.aL b.dL b.cu b.xN b.cz b.bU.bF b.bU.bT av jJ Z ay jK aa az jL af).toArray] w (d9 λ v w'=> ∃ dN dO di dP dR dU dW dm dX dY dn dZ ed dx ek eu dz eB eD dA eF eG dB eH eO dC eP eQ dD,v= .tuple #[]/\Own w D w' [blk g0 [vP r 0, .slice dN r0.aX.ls.length dO] 98,row dN r0.aX.ls.length dO (q3 bf.cells di) 42 21,sepL (q3 bf.own di),mK r r1 dP r1.aa.ag.ls.length dR dU dW dX dY dZ ed ek eu eB eD eF eG eH eO eP eQ,row dP r1.aa.ag.ls.length dR (q3 aY.cells r1.aa.ag.ls) 89 2,row dU r1.aa.aj.ls.length dW (q3 aC.cells dm) 60 5,sepL (q3 aC.own dm),row dX r1.aa.aF.ls.length dY (q3 aU.cells dn) 56 4,sepL (q3 aU.own dn),row dZ r1.ay.ls.length ed (q3 bB.cells dx) 107 9,sepL (q3 bB.own dx),row ek r1.bK.af.ls.length eu (q3 ae.cells dz) 149 3,sepL (q3 ae.own dz),row eB r1.bA.af.ls.length eD (q3 ae.cells dA) 149 3,sepL (q3 ae.own dA),row eF r1.bz.af.ls.length eG (q3 ae.cells dB) 149 3,sepL (q3 ae.own dB),row eH r1.bv.af.ls.length eO (q3 ae.cells dC) 149 3,sepL (q3 ae.own dC),row eP r1.bq.af.ls.length eQ (q3 ae.cells dD) 149 3,sepL (q3 ae.own dD)]/\(s5 bf.abs di=r0.aX.ls)/\(s5 aC.abs dm=r1.aa.aj.ls)/\(s5 aU.abs dn=r1.aa.aF.ls)/\(s5 bB.abs dx=r1.ay.ls)/\(s5 ae.abs dz=r1.bK.af.ls)/\(s5 ae.abs dA=r1.bA.af.ls)/\(s5 ae.abs dB=r1.bz.af.ls)/\(s5 ae.abs dC=r1.bv.af.ls)/\(s5 ae.abs dD=r1.bq.af.ls)):=by
 unfold ji at hr
 subst kL kM kN
 have wJ:=aB ag
 have wK:=aB aR
 have lX:=aB M
 have lY:=aB B
 have lZ:=aB C
 have l5:=aB E
 have l6:=aB s
 have l7:=aB u
 have l8:=aB y
 have l9:=aB z
 have wO:=zr 1 H
 have ma:=zr 4 H
 have mf:=zr 5 H
 have mg:=zr 7 H
 have mh:=zr 9 H
 have mi:=zr 11 H
 have mo:=zr 13 H
 have mq:=zr 15 H
 have mr:=zr 17 H
 have mD:=zr 19 H
 refine cb Tryz.func56 ?_
 refine sr ?_
 refine dV (iH b av Z ay aa az af) 42 H ?_
 intro bT Ct mE
 refine ns (Kz (vP bT 1) (Lz (vI b.aJ) mE 0 C4 (fw (vI (b.aJ - 10)) (Ie (e:=C5.wrap (b.aJ - 10)) yk g2) ?_)))
 refine dV [vI 0] 3 mE ?_
 intro mF Cu wP
 refine dS [vI (b.aJ - 10)] 0 wP Tryz.sizeOf3 ?_
 intro Cv wQ
 refine nt (Ic (Ic ?_))
 refine pU 23 [] (Iu (Iu IC)) wQ ?_
 intro Cw bO
 refine qp bT 7 0 rfl (ql 1 rfl 1 D4 rfl rfl rfl (qv 2 rfl rfl (qp g0 0 3 rfl (qp g0 0 4 rfl (ql 5 rfl 2 P3 rfl rfl rfl (qp r 0 6 rfl (qp r 0 7 rfl (qp r 1 8 rfl (ql 9 rfl 5 D4 rfl rfl rfl (qt (v:= .bool (decide (¬ ((b.av:Int)=(a.aa.av:Int))))) 10 rfl (λ _ _=>IG (e:= !(decide ((b.av:Int)=(a.aa.av:Int)))) yk decide_not.symm) (qn (Ig ?_))))))))))))
 by_cases aS:(b.av:Int)=(a.aa.av:Int)
 refine jF (dF (Lh aS)) (sk (Ic (sr (Mz rfl (Kz (vP g0 0) (Kz (vP g0 0) (Lz (vP r 0) bO 2 P3 (Kz (vP r 0) (Kz (vP r 8) (Lz (.slice F a.ay.ls.length G) bO 5 Tryz.isAgg79 (Kz (.func (.func 88) #[] #[vP mF 0]) ?_)))))))))))
 obtain⟨mG,aG⟩:∃ q,kz a.ay.ls (b.aJ - 10)=q:=⟨_,rfl⟩
 obtain⟨Cx,mH,Bz,mI,bP⟩:=II bO
 refine cl Tryz.call87 (oM _ _ F a.ay.ls.length G P a.ay.ls mF (b.aJ - 10) mG mH C (bP _ 10 _ rfl aO) (λ x9 h9=>⟨bP _ 11 _ rfl (ax (Q3.2 ⟨x9,h9,b1⟩) aO),aZ (φ:=λ _=>_) bO (i:=12) rfl (ax (Q3.2 ⟨x9,h9,b1⟩) aW),bP _ 11 _ rfl (ax (Q3.2 ⟨x9,h9, .tail _ b1⟩) aO),aZ (φ:=λ _=>_) bO (i:=12) rfl (ax (Q3.2 ⟨x9,h9, .tail _ b1⟩) aW),(λ y1 k1=>⟨bP _ 11 _ rfl (ax (Q3.2 ⟨x9,h9, .tail _ b4⟩) (ax (Q3.2 ⟨y1,k1,b1⟩) aO)),aZ (φ:=λ _=>_) bO (i:=12) rfl (ax (Q3.2 ⟨x9,h9, .tail _ b4⟩) (ax (Q3.2 ⟨y1,k1,b1⟩) aW)),bP _ 11 _ rfl (ax (Q3.2 ⟨x9,h9, .tail _ b4⟩) (ax (Q3.2 ⟨y1,k1, .tail _ b1⟩) aO)),aZ (φ:=λ _=>_) bO (i:=12) rfl (ax (Q3.2 ⟨x9,h9, .tail _ b4⟩) (ax (Q3.2 ⟨y1,k1, .tail _ b1⟩) aW))⟩),bP _ 11 _ rfl (ax (Q3.2 ⟨x9,h9, .tail _ b2⟩) aO),aZ (φ:=λ _=>_) bO (i:=12) rfl (ax (Q3.2 ⟨x9,h9, .tail _ b2⟩) aW),bP _ 11 _ rfl (ax (Q3.2 ⟨x9,h9, .tail _ b3⟩) aO),aZ (φ:=λ _=>_) bO (i:=12) rfl (ax (Q3.2 ⟨x9,h9, .tail _ b3⟩) aW),(λ y1 k1=>⟨bP _ 11 _ rfl (ax (Q3.2 ⟨x9,h9, .tail _ b5⟩) (ax (Q3.2 ⟨y1,k1,b1⟩) aO)),aZ (φ:=λ _=>_) bO (i:=12) rfl (ax (Q3.2 ⟨x9,h9, .tail _ b5⟩) (ax (Q3.2 ⟨y1,k1,b1⟩) aW)),(λ y2 k2=>⟨bP _ 11 _ rfl (ax (Q3.2 ⟨x9,h9, .tail _ b5⟩) (ax (Q3.2 ⟨y1,k1, .tail _ b1⟩) (ax (Q3.2 ⟨y2,k2,b1⟩) aO))),aZ (φ:=λ _=>_) bO (i:=12) rfl (ax (Q3.2 ⟨x9,h9, .tail _ b5⟩) (ax (Q3.2 ⟨y1,k1, .tail _ b1⟩) (ax (Q3.2 ⟨y2,k2,b1⟩) aW)))⟩)⟩)⟩) rfl e6 aG) ?_
 rintro _ Cy ⟨rfl,mJ⟩
 have mM:=mI _ _ mJ
 refine nt ?_
 rcases Li (mG) with aT | aT
 refine jT aT (rt (tR (Fin.res (res0 rfl) ?_)))
 have wR:=mM.px [] [0,1] []
 obtain⟨rfl,rfl⟩:=ic (zj hr zq3)
 exact⟨aD,aF,au,S,T,U,V,W,X,N,O,F,G,P,Y,Q,R,j,d,I,l,f,J,n,g,K,p,h,L,rfl,wR,ag,M,B,C,E,s,u,y,z⟩
 refine jF aT (sk (Ic (Ic ?_)))
 refine pU 23 [] (Iu (Iu IC)) mM ?_
 intro Cz jH
 refine qv 0 rfl rfl (qp g0 0 1 rfl (qp g0 0 2 rfl (ql 3 rfl 2 P3 rfl rfl rfl (ql 4 rfl 0 C4 rfl rfl rfl (qp r 0 5 rfl (qp r 9 6 rfl ?_))))))
 by_cases bK:b.aJ - 10=1
 refine qt (v:=vP r 13) 7 rfl (λ _ _=>by rw [show b.aJ - 10=1 from by omega]; exact yk) (qt (v:= .agg #[.bool a.bA.cO,vU a.bA.aS,vI a.bA.dA, .slice j a.bA.af.ls.length d]) 8 rfl (λ _ ⟨_,H9⟩=>Io rfl (Iy (cs:= [.bool a.bA.cO,vU a.bA.aS,vI a.bA.dA, .slice j a.bA.af.ls.length d]) Q9 P7 ((H9.cls (i:=5) rfl).lit (k:=13) (m:=4) rfl))) ?_)
 refine qd 9 rfl (IY (cs:= [.bool false, .int .u64 0,vI 0, .slice none 0 0]) (t:=81) jH rfl rfl (λ _=>by kernel_rfl) ?_)
 intro dJ CB wS
 have mO:=wS.pb [0]
 refine⟨.inr ⟨_,mO⟩, ?_⟩
 have wT:=mO.pf [23]
 refine qe 10 rfl (Do.store (vs:= [.bool a.bA.cO,vU a.bA.aS,vI a.bA.dA, .slice j a.bA.af.ls.length d]) (o:=0) wT rfl rfl P7 rfl rfl rfl rfl ?_)
 intro CE wU
 have bM:=wU.pb [0]
 refine⟨.inr ⟨_,bM⟩, ?_⟩
 refine qn (Ig (sr (Kz (vP dJ 0) (Lz (.bool a.bA.cO) bM 23 N3 (Mz rfl ?_)))))
 rcases Li (a.bA.cO) with bv | bv
 refine Gz (vP dJ 1) bv (Gl (vU a.bA.aS) bv bM 23 D4 (Gz (vP bT 6) bv (Gl (vU b.aP) bv bM 1 D4 (Gz (.bool (decide ((a.bA.aS:Int) >= (b.aP:Int)))) bv (fw (.bool (decide ((a.bA.aS:Int) >= (b.aP:Int)))) (Iw rfl bv rfl) (nt ?_))))))
 by_cases eT:(a.bA.aS:Int) >= (b.aP:Int)
 refine jT (dT eT) (Ic (sr (Kz (vP dJ 1) (Lz (vU a.bA.aS) bM 23 D4 (Kz (vP bT 6) (Lz (vU b.aP) bM 1 D4 (Kz (.bool (decide ((a.bA.aS:Int)=(b.aP:Int)))) (nt ?_))))))))
 by_cases jI:(a.bA.aS:Int)=(b.aP:Int)
 refine jT (dT jI) (Ib (Mz rfl (Lz (vI (b.aJ - 10)) bM 0 C4 (Kz (vP dJ 1) (Lz (vU a.bA.aS) bM 23 D4 (Kz (vP dJ 2) (Lz (vI a.bA.dA) bM 23 C4 (Kz (vP dJ 3) (Lz (.slice j a.bA.af.ls.length d) bM 23 E3 ?_)))))))))
 refine WL.do rfl (Iz P4 rfl ?_ (λ _ _ k=>k))
 refine cb P5 ?_
 refine Ib (Mz rfl (Mz rfl (fw (vI (10+(b.aJ - 10))) (Ie (e:=C5.wrap (10+(b.aJ - 10))) yk g2) (Mz rfl (Mz rfl (Kz (vP g0 0) (Kz (vP g0 0) (Lz (vP r 0) bM 2 P3 (Kz (vP r 0) (Kz (vP r 0) (Kz (vP r 1) (Lz (vU a.aa.av) bM 5 D4 (Mz rfl (Mz rfl (Kz (.agg (gU 2 0 (10+(b.aJ - 10)) 0 a.bA.dA 0 a.bA.aS a.aa.av 0 0 0 0 0 0 0 false [] [] none 0 0 j a.bA.af.ls.length d none 0 0).toArray) ?_)))))))))))))))
 have mP:=bM.pf [2,3,4]
 obtain⟨kQ,jM⟩:∃ q,dw p0 (bL.mk 2 0 (10+(b.aJ - 10)) 0 a.bA.dA 0 a.bA.aS a.aa.av 0 0 0 0 0 0 0 false (bC.mk [] []) (E2 []) (E2 a.bA.af.ls) (E2 []))=q:=⟨_,rfl⟩
 obtain⟨CF,mQ,BB,mR,jN⟩:=IU mP
 refine cl P6 (gp _ _ g0 p0 aD aF au r (bL.mk 2 0 (10+(b.aJ - 10)) 0 a.bA.dA 0 a.bA.aS a.aa.av 0 0 0 0 0 0 0 false (bC.mk [] []) (E2 []) (E2 a.bA.af.ls) (E2 [])) none 0 0 j a.bA.af.ls.length d I none 0 0 kQ mQ ag rfl (λ _ _=>bE.nil _ _ _) f2 s rfl (jN _ 12 _ rfl aO) e6 (λ x9 h9=>⟨jN _ 13 _ rfl (ax (Q3.2 ⟨x9,h9,b1⟩) aO),aZ (φ:=λ _=>_) mP (i:=16) rfl (ax (Q3.2 ⟨x9,h9,b1⟩) aW)⟩) rfl (λ _ _=>bE.nil _ _ _) f2 e8 (by first | assumption | exact dM f5 | exact λ x hx=>absurd hx y6 | exact dM (Mk.mU f5).1 | exact dM (Mk.lT f5).1 | exact dM (Mk.nu f5).1 | exact dM (Mk.ny f5).1 | exact dM (Mk.nz f5).1) jM) ?_
 rintro _ CG ⟨wV,wW,wX,rfl,mU,jO,jQ⟩
 have mV:=mR _ _ mU
 have BC:=aB jO
 have BD:=zr 1 mV
 replace jQ:kQ.aX.ls.length=p0.aX.ls.length+1:=jQ
 refine C6 (IA (res0 rfl) (nt (rt (tR (Fin.res (res0 rfl) ?_)))))
 have wY:=mV.px [] [3,4,23] []
 obtain⟨rfl,rfl⟩:=ic (zj hr zq8)
 exact⟨wV,wW,wX,S,T,U,V,W,X,N,O,F,G,P,Y,Q,R,j,d,I,l,f,J,n,g,K,p,h,L,rfl,wY,jO,M,B,C,E,s,u,y,z⟩
 refine jF (dF jI) (sk (rt (tR (Fin.res (res0 rfl) ?_))))
 have wZ:=bM.px [] [0,1,23] []
 obtain⟨rfl,rfl⟩:=ic (zj hr zq7)
 exact⟨aD,aF,au,S,T,U,V,W,X,N,O,F,G,P,Y,Q,R,j,d,I,l,f,J,n,g,K,p,h,L,rfl,wZ,ag,M,B,C,E,s,u,y,z⟩
 refine jF (dF eT) (sk ?_)
 have kR:=bM.px [] [23] []
 refine Ib (Mz rfl (Lz (vI (b.aJ - 10)) kR 0 C4 (La (iH b av Z ay aa az af) kR 1 N5 N6 ?_)))
 have w9:=kR.pb [0,1]
 obtain⟨⟨mW,mX⟩,jR⟩:∃ q:bI × aA,dQ p0 (b.aJ - 10) b a=q:=⟨_,rfl⟩
 obtain⟨CJ,mY,dE,mZ,BF⟩:=I6 w9
 refine cl R6 (jP _ _ g0 p0 aD aF au (b.aJ - 10) b av b.aH.ls.length Z ay b.ai.ls.length aa bq az b.ag.ls.length af r a S T U V W X N O F G P Y Q R j d I l f J n g K p h L mW mX mY ag rfl (dE _ aX) e6 aR rfl (dE _ bg) e6 (λ x9 h9=>⟨dE _ (ai x9 h9).1,(ai x9 h9).2⟩) rfl (dE _ bn) e6 M B C E s u y z e8 e6 e8 jR) ?_
 rintro _ CK ⟨xc,xe,xg,xh,xk,xm,xn,ng,xq,ni,nk,nu,ny,nz,nA,nC,nD,nE,nG,nH,nI,nJ,nK,nL,nM,nN,nO,nP,nQ,rfl,nR,jS,eU,eX,eY,eZ,fe,fo,fq,fu⟩
 have bR:=mZ _ _ nR
 have xu:=aB jS
 have xw:=aB eU
 have xx:=aB eX
 have xy:=aB eY
 have xz:=aB eZ
 have xA:=aB fe
 have xB:=aB fo
 have xC:=aB fq
 have xD:=aB fu
 have xE:=zr 1 bR
 have xG:=zr 4 bR
 have xH:=zr 5 bR
 have xI:=zr 7 bR
 have xJ:=zr 9 bR
 have xK:=zr 11 bR
 have xL:=zr 13 bR
 have xM:=zr 15 bR
 have xO:=zr 17 bR
 have xP:=zr 19 bR
 refine C6 (IA (res0 rfl) ?_)
 have nS:=bR.px [] [21,22] []
 obtain⟨rfl,rfl⟩:=ic (zj hr zq7)
 exact⟨xc,xe,xg,xh,xk,xm,xn,ng,xq,ni,nk,nu,ny,nz,nA,nC,nD,nE,nG,nH,nI,nJ,nK,nL,nM,nN,nO,nP,nQ,rfl,nS,jS,eU,eX,eY,eZ,fe,fo,fq,fu⟩
 refine Sz bv (Sz bv (Sz bv (Sz bv (Sz bv (fw (.bool false) (Ih rfl bv rfl) (nt (jf (sk ?_))))))))
 have fA:=bM.px [] [23] []
 refine Ib (Mz rfl (Lz (vI (b.aJ - 10)) fA 0 C4 (La (iH b av Z ay aa az af) fA 1 N5 N6 ?_)))
 have nT:=fA.pb [0,1]
 obtain⟨⟨jU,jV⟩,fB⟩:∃ q:bI × aA,dQ p0 (b.aJ - 10) b a=q:=⟨_,rfl⟩
 obtain⟨BG,kS,bX,kT,xQ⟩:=I6 nT
 refine cl R6 (jP _ _ g0 p0 aD aF au (b.aJ - 10) b av b.aH.ls.length Z ay b.ai.ls.length aa bq az b.ag.ls.length af r a S T U V W X N O F G P Y Q R j d I l f J n g K p h L jU jV kS ag rfl (bX _ aX) e6 aR rfl (bX _ bg) e6 (λ x9 h9=>⟨bX _ (ai x9 h9).1,(ai x9 h9).2⟩) rfl (bX _ bn) e6 M B C E s u y z e8 e6 e8 fB) ?_
 rintro _ BH ⟨nU,nV,nW,nX,nY,nZ,og,oh,ol,om,oo,oq,ou,ow,oz,oC,oD,oF,oG,oH,oI,oJ,oK,oL,oN,oO,oP,oQ,oU,rfl,kU,fC,fD,fE,fF,fG,fH,fI,fJ,fK⟩
 have bz:=kT _ _ kU
 have xR:=aB fC
 have xS:=aB fD
 have xU:=aB fE
 have xV:=aB fF
 have xW:=aB fG
 have xX:=aB fH
 have xY:=aB fI
 have xZ:=aB fJ
 have x8:=aB fK
 have yc:=zr 1 bz
 have yf:=zr 4 bz
 have yg:=zr 5 bz
 have yh:=zr 7 bz
 have yj:=zr 9 bz
 have yl:=zr 11 bz
 have ym:=zr 13 bz
 have yn:=zr 15 bz
 have yo:=zr 17 bz
 have yt:=zr 19 bz
 refine C6 (IA (res0 rfl) ?_)
 have oV:=bz.px [] [21,22] []
 obtain⟨rfl,rfl⟩:=ic (zj hr zq6)
 exact⟨nU,nV,nW,nX,nY,nZ,og,oh,ol,om,oo,oq,ou,ow,oz,oC,oD,oF,oG,oH,oI,oJ,oK,oL,oN,oO,oP,oQ,oU,rfl,oV,fC,fD,fE,fF,fG,fH,fI,fJ,fK⟩
 by_cases bu:b.aJ - 10=2
 refine qt (v:=vP r 17) 7 rfl (λ _ _=>by rw [show b.aJ - 10=2 from by omega]; exact yk) (qt (v:= .agg #[.bool a.bz.cO,vU a.bz.aS,vI a.bz.dA, .slice l a.bz.af.ls.length f]) 8 rfl (λ _ ⟨_,H9⟩=>Io rfl (Iy (cs:= [.bool a.bz.cO,vU a.bz.aS,vI a.bz.dA, .slice l a.bz.af.ls.length f]) Q9 P7 ((H9.cls (i:=5) rfl).lit (k:=17) (m:=4) rfl))) ?_)
 refine qd 9 rfl (IY (cs:= [.bool false, .int .u64 0,vI 0, .slice none 0 0]) (t:=81) jH rfl rfl (λ _=>by kernel_rfl) ?_)
 intro bU BI oW
 have jW:=oW.pb [0]
 refine⟨.inr ⟨_,jW⟩, ?_⟩
 have oZ:=jW.pf [23]
 refine qe 10 rfl (Do.store (vs:= [.bool a.bz.cO,vU a.bz.aS,vI a.bz.dA, .slice l a.bz.af.ls.length f]) (o:=0) oZ rfl rfl P7 rfl rfl rfl rfl ?_)
 intro BJ o5
 have aM:=o5.pb [0]
 refine⟨.inr ⟨_,aM⟩, ?_⟩
 refine qn (Ig (sr (Kz (vP bU 0) (Lz (.bool a.bz.cO) aM 23 N3 (Mz rfl ?_)))))
 rcases Li (a.bz.cO) with aJ | aJ
 refine Gz (vP bU 1) aJ (Gl (vU a.bz.aS) aJ aM 23 D4 (Gz (vP bT 6) aJ (Gl (vU b.aP) aJ aM 1 D4 (Gz (.bool (decide ((a.bz.aS:Int) >= (b.aP:Int)))) aJ (fw (.bool (decide ((a.bz.aS:Int) >= (b.aP:Int)))) (Iw rfl aJ rfl) (nt ?_))))))
 by_cases cZ:(a.bz.aS:Int) >= (b.aP:Int)
 refine jT (dT cZ) (Ic (sr (Kz (vP bU 1) (Lz (vU a.bz.aS) aM 23 D4 (Kz (vP bT 6) (Lz (vU b.aP) aM 1 D4 (Kz (.bool (decide ((a.bz.aS:Int)=(b.aP:Int)))) (nt ?_))))))))
 by_cases dG:(a.bz.aS:Int)=(b.aP:Int)
 refine jT (dT dG) (Ib (Mz rfl (Lz (vI (b.aJ - 10)) aM 0 C4 (Kz (vP bU 1) (Lz (vU a.bz.aS) aM 23 D4 (Kz (vP bU 2) (Lz (vI a.bz.dA) aM 23 C4 (Kz (vP bU 3) (Lz (.slice l a.bz.af.ls.length f) aM 23 E3 ?_)))))))))
 refine WL.do rfl (Iz P4 rfl ?_ (λ _ _ k=>k))
 refine cb P5 ?_
 refine Ib (Mz rfl (Mz rfl (fw (vI (10+(b.aJ - 10))) (Ie (e:=C5.wrap (10+(b.aJ - 10))) yk g2) (Mz rfl (Mz rfl (Kz (vP g0 0) (Kz (vP g0 0) (Lz (vP r 0) aM 2 P3 (Kz (vP r 0) (Kz (vP r 0) (Kz (vP r 1) (Lz (vU a.aa.av) aM 5 D4 (Mz rfl (Mz rfl (Kz (.agg (gU 2 0 (10+(b.aJ - 10)) 0 a.bz.dA 0 a.bz.aS a.aa.av 0 0 0 0 0 0 0 false [] [] none 0 0 l a.bz.af.ls.length f none 0 0).toArray) ?_)))))))))))))))
 have jX:=aM.pf [2,3,4]
 obtain⟨fM,fO⟩:∃ q,dw p0 (bL.mk 2 0 (10+(b.aJ - 10)) 0 a.bz.dA 0 a.bz.aS a.aa.av 0 0 0 0 0 0 0 false (bC.mk [] []) (E2 []) (E2 a.bz.af.ls) (E2 []))=q:=⟨_,rfl⟩
 obtain⟨BK,kV,yu,kW,fP⟩:=IU jX
 refine cl P6 (gp _ _ g0 p0 aD aF au r (bL.mk 2 0 (10+(b.aJ - 10)) 0 a.bz.dA 0 a.bz.aS a.aa.av 0 0 0 0 0 0 0 false (bC.mk [] []) (E2 []) (E2 a.bz.af.ls) (E2 [])) none 0 0 l a.bz.af.ls.length f J none 0 0 fM kV ag rfl (λ _ _=>bE.nil _ _ _) f2 u rfl (fP _ 14 _ rfl aO) e6 (λ x9 h9=>⟨fP _ 15 _ rfl (ax (Q3.2 ⟨x9,h9,b1⟩) aO),aZ (φ:=λ _=>_) jX (i:=18) rfl (ax (Q3.2 ⟨x9,h9,b1⟩) aW)⟩) rfl (λ _ _=>bE.nil _ _ _) f2 e8 (by first | assumption | exact dM f5 | exact λ x hx=>absurd hx y6 | exact dM (Mk.mU f5).1 | exact dM (Mk.lT f5).1 | exact dM (Mk.nu f5).1 | exact dM (Mk.ny f5).1 | exact dM (Mk.nz f5).1) fO) ?_
 rintro _ BL ⟨o6,o7,o8,rfl,kX,fQ,fT⟩
 have jY:=kW _ _ kX
 have yw:=aB fQ
 have yx:=zr 1 jY
 replace fT:fM.aX.ls.length=p0.aX.ls.length+1:=fT
 refine C6 (IA (res0 rfl) (nt (rt (tR (Fin.res (res0 rfl) ?_)))))
 have o9:=jY.px [] [3,4,23] []
 obtain⟨rfl,rfl⟩:=ic (zj hr zq9)
 exact⟨o6,o7,o8,S,T,U,V,W,X,N,O,F,G,P,Y,Q,R,j,d,I,l,f,J,n,g,K,p,h,L,rfl,o9,fQ,M,B,C,E,s,u,y,z⟩
 refine jF (dF dG) (sk (rt (tR (Fin.res (res0 rfl) ?_))))
 have pg:=aM.px [] [0,1,23] []
 obtain⟨rfl,rfl⟩:=ic (zj hr zq8)
 exact⟨aD,aF,au,S,T,U,V,W,X,N,O,F,G,P,Y,Q,R,j,d,I,l,f,J,n,g,K,p,h,L,rfl,pg,ag,M,B,C,E,s,u,y,z⟩
 refine jF (dF cZ) (sk ?_)
 have fU:=aM.px [] [23] []
 refine Ib (Mz rfl (Lz (vI (b.aJ - 10)) fU 0 C4 (La (iH b av Z ay aa az af) fU 1 N5 N6 ?_)))
 have pq:=fU.pb [0,1]
 obtain⟨⟨jZ,j3⟩,fV⟩:∃ q:bI × aA,dQ p0 (b.aJ - 10) b a=q:=⟨_,rfl⟩
 obtain⟨BM,kY,bY,lc,yz⟩:=I6 pq
 refine cl R6 (jP _ _ g0 p0 aD aF au (b.aJ - 10) b av b.aH.ls.length Z ay b.ai.ls.length aa bq az b.ag.ls.length af r a S T U V W X N O F G P Y Q R j d I l f J n g K p h L jZ j3 kY ag rfl (bY _ aX) e6 aR rfl (bY _ bg) e6 (λ x9 h9=>⟨bY _ (ai x9 h9).1,(ai x9 h9).2⟩) rfl (bY _ bn) e6 M B C E s u y z e8 e6 e8 fV) ?_
 rintro _ BN ⟨pu,pz,pE,pF,pG,pI,pJ,pK,pM,pO,pQ,pR,pV,pW,pX,pY,p8,p9,qa,qb,qc,qf,qg,qh,qi,qj,qm,qo,qw,rfl,lg,fZ,gq,gu,gy,gz,gB,gD,gF,gG⟩
 have bA:=lc _ _ lg
 have yA:=aB fZ
 have yB:=aB gq
 have yC:=aB gu
 have yD:=aB gy
 have yE:=aB gz
 have yF:=aB gB
 have yG:=aB gD
 have yH:=aB gF
 have yI:=aB gG
 have yJ:=zr 1 bA
 have yK:=zr 4 bA
 have yL:=zr 5 bA
 have yM:=zr 7 bA
 have yN:=zr 9 bA
 have yO:=zr 11 bA
 have yP:=zr 13 bA
 have yQ:=zr 15 bA
 have yR:=zr 17 bA
 have yS:=zr 19 bA
 refine C6 (IA (res0 rfl) ?_)
 have qx:=bA.px [] [21,22] []
 obtain⟨rfl,rfl⟩:=ic (zj hr zq8)
 exact⟨pu,pz,pE,pF,pG,pI,pJ,pK,pM,pO,pQ,pR,pV,pW,pX,pY,p8,p9,qa,qb,qc,qf,qg,qh,qi,qj,qm,qo,qw,rfl,qx,fZ,gq,gu,gy,gz,gB,gD,gF,gG⟩
 refine Sz aJ (Sz aJ (Sz aJ (Sz aJ (Sz aJ (fw (.bool false) (Ih rfl aJ rfl) (nt (jf (sk ?_))))))))
 have gH:=aM.px [] [23] []
 refine Ib (Mz rfl (Lz (vI (b.aJ - 10)) gH 0 C4 (La (iH b av Z ay aa az af) gH 1 N5 N6 ?_)))
 have qy:=gH.pb [0,1]
 obtain⟨⟨j4,j5⟩,gI⟩:∃ q:bI × aA,dQ p0 (b.aJ - 10) b a=q:=⟨_,rfl⟩
 obtain⟨BO,lh,bZ,ll,yT⟩:=I6 qy
 refine cl R6 (jP _ _ g0 p0 aD aF au (b.aJ - 10) b av b.aH.ls.length Z ay b.ai.ls.length aa bq az b.ag.ls.length af r a S T U V W X N O F G P Y Q R j d I l f J n g K p h L j4 j5 lh ag rfl (bZ _ aX) e6 aR rfl (bZ _ bg) e6 (λ x9 h9=>⟨bZ _ (ai x9 h9).1,(ai x9 h9).2⟩) rfl (bZ _ bn) e6 M B C E s u y z e8 e6 e8 gI) ?_
 rintro _ BP ⟨qz,qA,qB,qC,qD,qE,qF,qG,qH,qI,qJ,qK,qL,qM,qN,qO,qP,qQ,qR,qU,qV,qW,qX,qY,qZ,q8,q9,rf,rq,rfl,lm,gJ,gK,gL,gM,gN,gP,gQ,gT,gV⟩
 have bD:=ll _ _ lm
 have yU:=aB gJ
 have yV:=aB gK
 have yX:=aB gL
 have yY:=aB gM
 have yZ:=aB gN
 have y5:=aB gP
 have y7:=aB gQ
 have y8:=aB gT
 have y9:=aB gV
 have za:=zr 1 bD
 have zb:=zr 4 bD
 have ze:=zr 5 bD
 have zf:=zr 7 bD
 have zg:=zr 9 bD
 have zh:=zr 11 bD
 have zi:=zr 13 bD
 have zk:=zr 15 bD
 have zl:=zr 17 bD
 have zm:=zr 19 bD
 refine C6 (IA (res0 rfl) ?_)
 have ru:=bD.px [] [21,22] []
 obtain⟨rfl,rfl⟩:=ic (zj hr zq7)
 exact⟨qz,qA,qB,qC,qD,qE,qF,qG,qH,qI,qJ,qK,qL,qM,qN,qO,qP,qQ,qR,qU,qV,qW,qX,qY,qZ,q8,q9,rf,rq,rfl,ru,gJ,gK,gL,gM,gN,gP,gQ,gT,gV⟩
 by_cases bQ:b.aJ - 10=3
 refine qt (v:=vP r 21) 7 rfl (λ _ _=>by rw [show b.aJ - 10=3 from by omega]; exact yk) (qt (v:= .agg #[.bool a.bv.cO,vU a.bv.aS,vI a.bv.dA, .slice n a.bv.af.ls.length g]) 8 rfl (λ _ ⟨_,H9⟩=>Io rfl (Iy (cs:= [.bool a.bv.cO,vU a.bv.aS,vI a.bv.dA, .slice n a.bv.af.ls.length g]) Q9 P7 ((H9.cls (i:=5) rfl).lit (k:=21) (m:=4) rfl))) ?_)
 refine qd 9 rfl (IY (cs:= [.bool false, .int .u64 0,vI 0, .slice none 0 0]) (t:=81) jH rfl rfl (λ _=>by kernel_rfl) ?_)
 intro bV BQ ry
 have j6:=ry.pb [0]
 refine⟨.inr ⟨_,j6⟩, ?_⟩
 have rz:=j6.pf [23]
 refine qe 10 rfl (Do.store (vs:= [.bool a.bv.cO,vU a.bv.aS,vI a.bv.dA, .slice n a.bv.af.ls.length g]) (o:=0) rz rfl rfl P7 rfl rfl rfl rfl ?_)
 intro BR rA
 have aN:=rA.pb [0]
 refine⟨.inr ⟨_,aN⟩, ?_⟩
 refine qn (Ig (sr (Kz (vP bV 0) (Lz (.bool a.bv.cO) aN 23 N3 (Mz rfl ?_)))))
 rcases Li (a.bv.cO) with aK | aK
 refine Gz (vP bV 1) aK (Gl (vU a.bv.aS) aK aN 23 D4 (Gz (vP bT 6) aK (Gl (vU b.aP) aK aN 1 D4 (Gz (.bool (decide ((a.bv.aS:Int) >= (b.aP:Int)))) aK (fw (.bool (decide ((a.bv.aS:Int) >= (b.aP:Int)))) (Iw rfl aK rfl) (nt ?_))))))
 by_cases df:(a.bv.aS:Int) >= (b.aP:Int)
 refine jT (dT df) (Ic (sr (Kz (vP bV 1) (Lz (vU a.bv.aS) aN 23 D4 (Kz (vP bT 6) (Lz (vU b.aP) aN 1 D4 (Kz (.bool (decide ((a.bv.aS:Int)=(b.aP:Int)))) (nt ?_))))))))
 by_cases dH:(a.bv.aS:Int)=(b.aP:Int)
 refine jT (dT dH) (Ib (Mz rfl (Lz (vI (b.aJ - 10)) aN 0 C4 (Kz (vP bV 1) (Lz (vU a.bv.aS) aN 23 D4 (Kz (vP bV 2) (Lz (vI a.bv.dA) aN 23 C4 (Kz (vP bV 3) (Lz (.slice n a.bv.af.ls.length g) aN 23 E3 ?_)))))))))
 refine WL.do rfl (Iz P4 rfl ?_ (λ _ _ k=>k))
 refine cb P5 ?_
 refine Ib (Mz rfl (Mz rfl (fw (vI (10+(b.aJ - 10))) (Ie (e:=C5.wrap (10+(b.aJ - 10))) yk g2) (Mz rfl (Mz rfl (Kz (vP g0 0) (Kz (vP g0 0) (Lz (vP r 0) aN 2 P3 (Kz (vP r 0) (Kz (vP r 0) (Kz (vP r 1) (Lz (vU a.aa.av) aN 5 D4 (Mz rfl (Mz rfl (Kz (.agg (gU 2 0 (10+(b.aJ - 10)) 0 a.bv.dA 0 a.bv.aS a.aa.av 0 0 0 0 0 0 0 false [] [] none 0 0 n a.bv.af.ls.length g none 0 0).toArray) ?_)))))))))))))))
 have kg:=aN.pf [2,3,4]
 obtain⟨gW,gX⟩:∃ q,dw p0 (bL.mk 2 0 (10+(b.aJ - 10)) 0 a.bv.dA 0 a.bv.aS a.aa.av 0 0 0 0 0 0 0 false (bC.mk [] []) (E2 []) (E2 a.bv.af.ls) (E2 []))=q:=⟨_,rfl⟩
 obtain⟨BS,lq,zn,lu,gY⟩:=IU kg
 refine cl P6 (gp _ _ g0 p0 aD aF au r (bL.mk 2 0 (10+(b.aJ - 10)) 0 a.bv.dA 0 a.bv.aS a.aa.av 0 0 0 0 0 0 0 false (bC.mk [] []) (E2 []) (E2 a.bv.af.ls) (E2 [])) none 0 0 n a.bv.af.ls.length g K none 0 0 gW lq ag rfl (λ _ _=>bE.nil _ _ _) f2 y rfl (gY _ 16 _ rfl aO) e6 (λ x9 h9=>⟨gY _ 17 _ rfl (ax (Q3.2 ⟨x9,h9,b1⟩) aO),aZ (φ:=λ _=>_) kg (i:=20) rfl (ax (Q3.2 ⟨x9,h9,b1⟩) aW)⟩) rfl (λ _ _=>bE.nil _ _ _) f2 e8 (by first | assumption | exact dM f5 | exact λ x hx=>absurd hx y6 | exact dM (Mk.mU f5).1 | exact dM (Mk.lT f5).1 | exact dM (Mk.nu f5).1 | exact dM (Mk.ny f5).1 | exact dM (Mk.nz f5).1) gX) ?_
 rintro _ BU ⟨rC,rD,rE,rfl,lv,gZ,ib⟩
 have ko:=lu _ _ lv
 have zo:=aB gZ
 have zq:=zr 1 ko
 replace ib:gW.aX.ls.length=p0.aX.ls.length+1:=ib
 refine C6 (IA (res0 rfl) (nt (rt (tR (Fin.res (res0 rfl) ?_)))))
 have rF:=ko.px [] [3,4,23] []
 obtain⟨rfl,rfl⟩:=ic (zj hr zq10)
 exact⟨rC,rD,rE,S,T,U,V,W,X,N,O,F,G,P,Y,Q,R,j,d,I,l,f,J,n,g,K,p,h,L,rfl,rF,gZ,M,B,C,E,s,u,y,z⟩
 refine jF (dF dH) (sk (rt (tR (Fin.res (res0 rfl) ?_))))
 have rG:=aN.px [] [0,1,23] []
 obtain⟨rfl,rfl⟩:=ic (zj hr zq9)
 exact⟨aD,aF,au,S,T,U,V,W,X,N,O,F,G,P,Y,Q,R,j,d,I,l,f,J,n,g,K,p,h,L,rfl,rG,ag,M,B,C,E,s,u,y,z⟩
 refine jF (dF df) (sk ?_)
 have ig:=aN.px [] [23] []
 refine Ib (Mz rfl (Lz (vI (b.aJ - 10)) ig 0 C4 (La (iH b av Z ay aa az af) ig 1 N5 N6 ?_)))
 have rH:=ig.pb [0,1]
 obtain⟨⟨kr,ku⟩,ik⟩:∃ q:bI × aA,dQ p0 (b.aJ - 10) b a=q:=⟨_,rfl⟩
 obtain⟨BV,lw,cu,lC,zt⟩:=I6 rH
 refine cl R6 (jP _ _ g0 p0 aD aF au (b.aJ - 10) b av b.aH.ls.length Z ay b.ai.ls.length aa bq az b.ag.ls.length af r a S T U V W X N O F G P Y Q R j d I l f J n g K p h L kr ku lw ag rfl (cu _ aX) e6 aR rfl (cu _ bg) e6 (λ x9 h9=>⟨cu _ (ai x9 h9).1,(ai x9 h9).2⟩) rfl (cu _ bn) e6 M B C E s u y z e8 e6 e8 ik) ?_
 rintro _ BX ⟨rJ,rM,rO,rP,rQ,rR,rT,rU,rV,rW,rX,rY,rZ,r9,si,sj,su,sw,sD,sF,sG,sH,sI,sJ,sK,sM,sN,sO,sP,rfl,lD,il,iq,iw,iy,iA,iB,iC,iD,iE⟩
 have bF:=lC _ _ lD
 have zu:=aB il
 have zw:=aB iq
 have zx:=aB iw
 have zy:=aB iy
 have zz:=aB iA
 have zA:=aB iB
 have zB:=aB iC
 have zC:=aB iD
 have zD:=aB iE
 have zF:=zr 1 bF
 have zG:=zr 4 bF
 have zH:=zr 5 bF
 have zI:=zr 7 bF
 have zJ:=zr 9 bF
 have zK:=zr 11 bF
 have zL:=zr 13 bF
 have zM:=zr 15 bF
 have zN:=zr 17 bF
 have zO:=zr 19 bF
 refine C6 (IA (res0 rfl) ?_)
 have sQ:=bF.px [] [21,22] []
 obtain⟨rfl,rfl⟩:=ic (zj hr zq9)
 exact⟨rJ,rM,rO,rP,rQ,rR,rT,rU,rV,rW,rX,rY,rZ,r9,si,sj,su,sw,sD,sF,sG,sH,sI,sJ,sK,sM,sN,sO,sP,rfl,sQ,il,iq,iw,iy,iA,iB,iC,iD,iE⟩
 refine Sz aK (Sz aK (Sz aK (Sz aK (Sz aK (fw (.bool false) (Ih rfl aK rfl) (nt (jf (sk ?_))))))))
 have iF:=aN.px [] [23] []
 refine Ib (Mz rfl (Lz (vI (b.aJ - 10)) iF 0 C4 (La (iH b av Z ay aa az af) iF 1 N5 N6 ?_)))
 have sS:=iF.pb [0,1]
 obtain⟨⟨kv,kw⟩,iG⟩:∃ q:bI × aA,dQ p0 (b.aJ - 10) b a=q:=⟨_,rfl⟩
 obtain⟨BZ,lF,cz,lG,zP⟩:=I6 sS
 refine cl R6 (jP _ _ g0 p0 aD aF au (b.aJ - 10) b av b.aH.ls.length Z ay b.ai.ls.length aa bq az b.ag.ls.length af r a S T U V W X N O F G P Y Q R j d I l f J n g K p h L kv kw lF ag rfl (cz _ aX) e6 aR rfl (cz _ bg) e6 (λ x9 h9=>⟨cz _ (ai x9 h9).1,(ai x9 h9).2⟩) rfl (cz _ bn) e6 M B C E s u y z e8 e6 e8 iG) ?_
 rintro _ Ca ⟨sU,sV,sW,sZ,tq,tu,tC,tF,tH,tJ,tK,tL,tN,tO,tQ,tT,tV,tX,tY,tZ,uf,ug,uh,ui,uj,uk,ul,um,uo,rfl,lH,iI,iJ,iK,iL,iM,iO,iP,iQ,iR⟩
 have bG:=lG _ _ lH
 have zQ:=aB iI
 have zR:=aB iJ
 have zS:=aB iK
 have zT:=aB iL
 have zU:=aB iM
 have zV:=aB iO
 have zW:=aB iP
 have zX:=aB iQ
 have zY:=aB iR
 have zZ:=zr 1 bG
 have z8:=zr 4 bG
 have Aa:=zr 5 bG
 have Ab:=zr 7 bG
 have Ac:=zr 9 bG
 have Ad:=zr 11 bG
 have Ae:=zr 13 bG
 have Af:=zr 15 bG
 have Ag:=zr 17 bG
 have Ah:=zr 19 bG
 refine C6 (IA (res0 rfl) ?_)
 have uq:=bG.px [] [21,22] []
 obtain⟨rfl,rfl⟩:=ic (zj hr zq8)
 exact⟨sU,sV,sW,sZ,tq,tu,tC,tF,tH,tJ,tK,tL,tN,tO,tQ,tT,tV,tX,tY,tZ,uf,ug,uh,ui,uj,uk,ul,um,uo,rfl,uq,iI,iJ,iK,iL,iM,iO,iP,iQ,iR⟩
 refine qt (v:=vP r 25) 7 rfl (λ _ _=>by rw [show b.aJ - 10=4 from by omega]; exact yk) (qt (v:= .agg #[.bool a.bq.cO,vU a.bq.aS,vI a.bq.dA, .slice p a.bq.af.ls.length h]) 8 rfl (λ _ ⟨_,H9⟩=>Io rfl (Iy (cs:= [.bool a.bq.cO,vU a.bq.aS,vI a.bq.dA, .slice p a.bq.af.ls.length h]) Q9 P7 ((H9.cls (i:=5) rfl).lit (k:=25) (m:=4) rfl))) ?_)
 refine qd 9 rfl (IY (cs:= [.bool false, .int .u64 0,vI 0, .slice none 0 0]) (t:=81) jH rfl rfl (λ _=>by kernel_rfl) ?_)
 intro bW Cb ut
 have kC:=ut.pb [0]
 refine⟨.inr ⟨_,kC⟩, ?_⟩
 have uu:=kC.pf [23]
 refine qe 10 rfl (Do.store (vs:= [.bool a.bq.cO,vU a.bq.aS,vI a.bq.dA, .slice p a.bq.af.ls.length h]) (o:=0) uu rfl rfl P7 rfl rfl rfl rfl ?_)
 intro Cc uw
 have aP:=uw.pb [0]
 refine⟨.inr ⟨_,aP⟩, ?_⟩
 refine qn (Ig (sr (Kz (vP bW 0) (Lz (.bool a.bq.cO) aP 23 N3 (Mz rfl ?_)))))
 rcases Li (a.bq.cO) with aL | aL
 refine Gz (vP bW 1) aL (Gl (vU a.bq.aS) aL aP 23 D4 (Gz (vP bT 6) aL (Gl (vU b.aP) aL aP 1 D4 (Gz (.bool (decide ((a.bq.aS:Int) >= (b.aP:Int)))) aL (fw (.bool (decide ((a.bq.aS:Int) >= (b.aP:Int)))) (Iw rfl aL rfl) (nt ?_))))))
 by_cases dh:(a.bq.aS:Int) >= (b.aP:Int)
 refine jT (dT dh) (Ic (sr (Kz (vP bW 1) (Lz (vU a.bq.aS) aP 23 D4 (Kz (vP bT 6) (Lz (vU b.aP) aP 1 D4 (Kz (.bool (decide ((a.bq.aS:Int)=(b.aP:Int)))) (nt ?_))))))))
 by_cases dI:(a.bq.aS:Int)=(b.aP:Int)
 refine jT (dT dI) (Ib (Mz rfl (Lz (vI (b.aJ - 10)) aP 0 C4 (Kz (vP bW 1) (Lz (vU a.bq.aS) aP 23 D4 (Kz (vP bW 2) (Lz (vI a.bq.dA) aP 23 C4 (Kz (vP bW 3) (Lz (.slice p a.bq.af.ls.length h) aP 23 E3 ?_)))))))))
 refine WL.do rfl (Iz P4 rfl ?_ (λ _ _ k=>k))
 refine cb P5 ?_
 refine Ib (Mz rfl (Mz rfl (fw (vI (10+(b.aJ - 10))) (Ie (e:=C5.wrap (10+(b.aJ - 10))) yk g2) (Mz rfl (Mz rfl (Kz (vP g0 0) (Kz (vP g0 0) (Lz (vP r 0) aP 2 P3 (Kz (vP r 0) (Kz (vP r 0) (Kz (vP r 1) (Lz (vU a.aa.av) aP 5 D4 (Mz rfl (Mz rfl (Kz (.agg (gU 2 0 (10+(b.aJ - 10)) 0 a.bq.dA 0 a.bq.aS a.aa.av 0 0 0 0 0 0 0 false [] [] none 0 0 p a.bq.af.ls.length h none 0 0).toArray) ?_)))))))))))))))
 have kD:=aP.pf [2,3,4]
 obtain⟨iT,iU⟩:∃ q,dw p0 (bL.mk 2 0 (10+(b.aJ - 10)) 0 a.bq.dA 0 a.bq.aS a.aa.av 0 0 0 0 0 0 0 false (bC.mk [] []) (E2 []) (E2 a.bq.af.ls) (E2 []))=q:=⟨_,rfl⟩
 obtain⟨Ce,lI,Ai,lJ,iV⟩:=IU kD
 refine cl P6 (gp _ _ g0 p0 aD aF au r (bL.mk 2 0 (10+(b.aJ - 10)) 0 a.bq.dA 0 a.bq.aS a.aa.av 0 0 0 0 0 0 0 false (bC.mk [] []) (E2 []) (E2 a.bq.af.ls) (E2 [])) none 0 0 p a.bq.af.ls.length h L none 0 0 iT lI ag rfl (λ _ _=>bE.nil _ _ _) f2 z rfl (iV _ 18 _ rfl aO) e6 (λ x9 h9=>⟨iV _ 19 _ rfl (ax (Q3.2 ⟨x9,h9,b1⟩) aO),aZ (φ:=λ _=>_) kD (i:=22) rfl (ax (Q3.2 ⟨x9,h9,b1⟩) aW)⟩) rfl (λ _ _=>bE.nil _ _ _) f2 e8 (by first | assumption | exact dM f5 | exact λ x hx=>absurd hx y6 | exact dM (Mk.mU f5).1 | exact dM (Mk.lT f5).1 | exact dM (Mk.nu f5).1 | exact dM (Mk.ny f5).1 | exact dM (Mk.nz f5).1) iU) ?_
 rintro _ Cf ⟨uy,uz,uB,rfl,lK,iW,iX⟩
 have kE:=lJ _ _ lK
 have Aj:=aB iW
 have Ak:=zr 1 kE
 replace iX:iT.aX.ls.length=p0.aX.ls.length+1:=iX
 refine C6 (IA (res0 rfl) (nt (rt (tR (Fin.res (res0 rfl) ?_)))))
 have uC:=kE.px [] [3,4,23] []
 obtain⟨rfl,rfl⟩:=ic (zj hr zq10)
 exact⟨uy,uz,uB,S,T,U,V,W,X,N,O,F,G,P,Y,Q,R,j,d,I,l,f,J,n,g,K,p,h,L,rfl,uC,iW,M,B,C,E,s,u,y,z⟩
 refine jF (dF dI) (sk (rt (tR (Fin.res (res0 rfl) ?_))))
 have uD:=aP.px [] [0,1,23] []
 obtain⟨rfl,rfl⟩:=ic (zj hr zq9)
 exact⟨aD,aF,au,S,T,U,V,W,X,N,O,F,G,P,Y,Q,R,j,d,I,l,f,J,n,g,K,p,h,L,rfl,uD,ag,M,B,C,E,s,u,y,z⟩
 refine jF (dF dh) (sk ?_)
 have iY:=aP.px [] [23] []
 refine Ib (Mz rfl (Lz (vI (b.aJ - 10)) iY 0 C4 (La (iH b av Z ay aa az af) iY 1 N5 N6 ?_)))
 have uE:=iY.pb [0,1]
 obtain⟨⟨kF,kG⟩,iZ⟩:∃ q:bI × aA,dQ p0 (b.aJ - 10) b a=q:=⟨_,rfl⟩
 obtain⟨Cg,lL,cB,lM,Al⟩:=I6 uE
 refine cl R6 (jP _ _ g0 p0 aD aF au (b.aJ - 10) b av b.aH.ls.length Z ay b.ai.ls.length aa bq az b.ag.ls.length af r a S T U V W X N O F G P Y Q R j d I l f J n g K p h L kF kG lL ag rfl (cB _ aX) e6 aR rfl (cB _ bg) e6 (λ x9 h9=>⟨cB _ (ai x9 h9).1,(ai x9 h9).2⟩) rfl (cB _ bn) e6 M B C E s u y z e8 e6 e8 iZ) ?_
 rintro _ Ch ⟨uF,uG,uH,uI,uJ,uK,uL,uM,uN,uO,uQ,uR,uS,uT,uU,uV,uW,uX,uY,uZ,u6,u7,ve,vg,vk,vo,vv,vw,vz,rfl,lN,ja,jb,jc,jd,je,jg,jh,jk,jl⟩
 have bH:=lM _ _ lN
 have Am:=aB ja
 have Ao:=aB jb
 have Ap:=aB jc
 have Aq:=aB jd
 have Ar:=aB je
 have Au:=aB jg
 have Av:=aB jh
 have Aw:=aB jk
 have Ay:=aB jl
 have Az:=zr 1 bH
 have AA:=zr 4 bH
 have AB:=zr 5 bH
 have AC:=zr 7 bH
 have AJ:=zr 9 bH
 have AL:=zr 11 bH
 have AO:=zr 13 bH
 have AP:=zr 15 bH
 have AQ:=zr 17 bH
 have AR:=zr 19 bH
 refine C6 (IA (res0 rfl) ?_)
 have vB:=bH.px [] [21,22] []
 obtain⟨rfl,rfl⟩:=ic (zj hr zq9)
 exact⟨uF,uG,uH,uI,uJ,uK,uL,uM,uN,uO,uQ,uR,uS,uT,uU,uV,uW,uX,uY,uZ,u6,u7,ve,vg,vk,vo,vv,vw,vz,rfl,vB,ja,jb,jc,jd,je,jg,jh,jk,jl⟩
 refine Sz aL (Sz aL (Sz aL (Sz aL (Sz aL (fw (.bool false) (Ih rfl aL rfl) (nt (jf (sk ?_))))))))
 have jm:=aP.px [] [23] []
 refine Ib (Mz rfl (Lz (vI (b.aJ - 10)) jm 0 C4 (La (iH b av Z ay aa az af) jm 1 N5 N6 ?_)))
 have vC:=jm.pb [0,1]
 obtain⟨⟨kH,kI⟩,jo⟩:∃ q:bI × aA,dQ p0 (b.aJ - 10) b a=q:=⟨_,rfl⟩
 obtain⟨Ci,lQ,cK,lS,AU⟩:=I6 vC
 refine cl R6 (jP _ _ g0 p0 aD aF au (b.aJ - 10) b av b.aH.ls.length Z ay b.ai.ls.length aa bq az b.ag.ls.length af r a S T U V W X N O F G P Y Q R j d I l f J n g K p h L kH kI lQ ag rfl (cK _ aX) e6 aR rfl (cK _ bg) e6 (λ x9 h9=>⟨cK _ (ai x9 h9).1,(ai x9 h9).2⟩) rfl (cK _ bn) e6 M B C E s u y z e8 e6 e8 jo) ?_
 rintro _ Cj ⟨vD,vE,vF,vG,vH,vJ,vK,vL,vM,vN,vO,vQ,vR,vS,vT,vV,vW,vX,vY,vZ,wh,wm,wo,wu,ww,wy,wz,wB,wC,rfl,lT,jq,jr,jv,jw,jy,jA,jB,jC,jD⟩
 have bJ:=lS _ _ lT
 have AV:=aB jq
 have AX:=aB jr
 have AY:=aB jv
 have AZ:=aB jw
 have A7:=aB jy
 have A8:=aB jA
 have A9:=aB jB
 have Ba:=aB jC
 have Bb:=aB jD
 have Bc:=zr 1 bJ
 have Bd:=zr 4 bJ
 have Be:=zr 5 bJ
 have Bf:=zr 7 bJ
 have Bg:=zr 9 bJ
 have Bh:=zr 11 bJ
 have Bi:=zr 13 bJ
 have Bj:=zr 15 bJ
 have Bl:=zr 17 bJ
 have Bn:=zr 19 bJ
 refine C6 (IA (res0 rfl) ?_)
 have wD:=bJ.px [] [21,22] []
 obtain⟨rfl,rfl⟩:=ic (zj hr zq8)
 exact⟨vD,vE,vF,vG,vH,vJ,vK,vL,vM,vN,vO,vQ,vR,vS,vT,vV,vW,vX,vY,vZ,wh,wm,wo,wu,ww,wy,wz,wB,wC,rfl,wD,jq,jr,jv,jw,jy,jA,jB,jC,jD⟩
 refine jT (dT aS) (sr (Mz rfl (Lz (vI (b.aJ - 10)) bO 0 C4 (La (iH b av Z ay aa az af) bO 1 N5 N6 ?_))))
 have aQ:=bO.pf [2,3,4,5]
 have Bo:=zr 9 aQ
 have Bp:=zr 13 aQ
 have Bq:=zr 15 aQ
 have Br:=zr 17 aQ
 have Bt:=zr 19 aQ
 have Bu:=zr 21 aQ
 obtain⟨kJ,jE⟩:∃ q,kZ p0 (b.aJ - 10) b a=q:=⟨_,rfl⟩
 obtain⟨Ck,lU,cO,lV,aH⟩:=I5 aQ
 refine cl Tryz.call86 (uA _ _ g0 p0 aD aF au (b.aJ - 10) b av b.aH.ls.length Z ay b.ai.ls.length aa bq az b.ag.ls.length af r a S T U V X N O F G Y Q R j d I l f J n g K p h L kJ lU ag rfl (cO _ aX) e6 aR rfl (cO _ bg) e6 (λ x9 h9=>⟨cO _ (ai x9 h9).1,(ai x9 h9).2⟩) rfl (cO _ bn) e6 B (aH _ 5 _ rfl aO) e6 (λ x9 h9=>⟨aH _ 6 _ rfl (ax (Q3.2 ⟨x9,h9,b1⟩) aO),aZ (φ:=λ _=>_) aQ (i:=10) rfl (ax (Q3.2 ⟨x9,h9,b1⟩) aW),(λ y1 k1=>⟨aH _ 6 _ rfl (ax (Q3.2 ⟨x9,h9, .tail _ b1⟩) (ax (Q3.2 ⟨y1,k1,b1⟩) aO)),aZ (φ:=λ _=>_) aQ (i:=10) rfl (ax (Q3.2 ⟨x9,h9, .tail _ b1⟩) (ax (Q3.2 ⟨y1,k1,b1⟩) aW))⟩)⟩) E (aH _ 9 _ rfl aO) e6 (λ x9 h9=>⟨aH _ 10 _ rfl (ax (Q3.2 ⟨x9,h9,b1⟩) aO),aZ (φ:=λ _=>_) aQ (i:=14) rfl (ax (Q3.2 ⟨x9,h9,b1⟩) aW)⟩) s (aH _ 11 _ rfl aO) e6 (λ x9 h9=>⟨aH _ 12 _ rfl (ax (Q3.2 ⟨x9,h9,b1⟩) aO),aZ (φ:=λ _=>_) aQ (i:=16) rfl (ax (Q3.2 ⟨x9,h9,b1⟩) aW)⟩) u (aH _ 13 _ rfl aO) e6 (λ x9 h9=>⟨aH _ 14 _ rfl (ax (Q3.2 ⟨x9,h9,b1⟩) aO),aZ (φ:=λ _=>_) aQ (i:=18) rfl (ax (Q3.2 ⟨x9,h9,b1⟩) aW)⟩) y (aH _ 15 _ rfl aO) e6 (λ x9 h9=>⟨aH _ 16 _ rfl (ax (Q3.2 ⟨x9,h9,b1⟩) aO),aZ (φ:=λ _=>_) aQ (i:=20) rfl (ax (Q3.2 ⟨x9,h9,b1⟩) aW)⟩) z (aH _ 17 _ rfl aO) e6 (λ x9 h9=>⟨aH _ 18 _ rfl (ax (Q3.2 ⟨x9,h9,b1⟩) aO),aZ (φ:=λ _=>_) aQ (i:=22) rfl (ax (Q3.2 ⟨x9,h9,b1⟩) aW)⟩) e8 f5 jE) ?_
 rintro _ Cm ⟨wE,wF,wG,rfl,lW,jG⟩
 have kK:=lV _ _ lW
 have Bv:=aB jG
 have Bw:=zr 1 kK
 refine nt (rt (tR (Fin.res (res0 rfl) ?_)))
 have wH:=kK.px [] [4,5] []
 obtain⟨rfl,rfl⟩:=ic (zj hr zq2)
 exact⟨wE,wF,wG,S,T,U,V,W,X,N,O,F,G,P,Y,Q,R,j,d,I,l,f,J,n,g,K,p,h,L,rfl,wH,jG,M,B,C,E,s,u,y,z⟩
end
open Int renaming toNat_natCast->K2
open List renaming Pairwise->R7,Sublist->S4,append_assoc->q4,append_nil->s6,drop->r3,getD->C0,getD_eq_getElem?_getD->L4,getElem?_eq_getElem->s2,getElem?_set_self->T1,getElem_map->S7,map_append->v5,map_drop->S6,map_take->S5,mem_append->v6,mem_cons->u9,mem_of_mem_drop->S2,mem_of_mem_take->G0,mem_or_eq_of_mem_set->O0,mem_singleton->m4,pairwise_append->S1,pairwise_cons->R9,set->u2,set_eq_of_length_le->T0,set_getElem_self->S9,take->q7
open Nat renaming le_refl->o3,le_succ->S8,le_succ_of_le->S3,le_trans->L5,min_le_right->R8,succ_le_succ->S0
def Lw:Nat->Nat->List bL->Prop
  | a,b, []=>a<=b
  | a,b,x::r=>if x.aD=3 then a<=x.dY/\x.dY<=x.aN/\Lw x.dY b r else Lw a b r
theorem Lw.app {b c:Nat} {r:List bL} (d:Lw b c r):∀ {l:List bL} {a:Nat},Lw a b l->Lw a c (l++r)
  | [],a,h=>by
    revert a
    induction r generalizing b with
    | nil=>exact λ a h=>L5 h d
    | cons x r ih=>
      intro a h
      simp only [List.nil_append,Lw] at h d ⊢
      by_cases e:x.aD=3
      . rw [if_pos e] at d ⊢; exact⟨L5 h d.1,d.2⟩
      . rw [if_neg e] at d ⊢; exact ih d a h
  | x::l,a,h=>by
    simp only [List.cons_append,Lw] at h ⊢
    by_cases e:x.aD=3
    . rw [if_pos e] at h ⊢; exact⟨h.1,h.2.1,Lw.app d h.2.2⟩
    . rw [if_neg e] at h ⊢; exact Lw.app d h
theorem JP {a b:Nat} (hab:a<=b):∀ {l:List bL},(∀ x ∈ l,x.aD≠3)->Lw a b l
  | [],_=>hab
  | x::l,h=>by unfold Lw; rw [if_neg (h x b1)]; exact JP hab λ y hy=>h y (.tail _ hy)
def hdN (n:Nat):List Nat->Nat
  | []=>n
  | x::_=>min n x
def sS (b g:Nat) (A D:List Nat):Nat:=hdN (hdN (b *4294967296+g+1) A) D
structure Iv (k b g:Nat) (A D:List Nat):Prop where
  bt:b < 2147483648
  bg:g<=k
  sA:R7 (· <= ·) A
  sD:R7 (· <= ·) D
  lA:∀ x ∈ A,x<=b *4294967296+g
  lD:∀ x ∈ D,x<=b *4294967296+g
theorem Bc (n:Nat) (l:List Nat):hdN n l<=n:=by cases l with
  | nil=>exact o3 _
  | cons x l=>exact Nat.min_le_left _ _
theorem Cf {n:Nat} {l:List Nat} (h:R7 (· <= ·) l):∀ x ∈ l,hdN n l<=x:=by cases l with
  | nil=>intro x hx; cases hx
  | cons y l=>
    intro x hx
    refine L5 (R8 _ _) ?_
    rcases u9.1 hx with rfl | hx
    . exact o3 _
    . exact(R9.1 h).1 x hx
theorem Dt {a n:Nat} {l:List Nat} (h:a<=n) (hl:∀ x ∈ l,a<=x):a<=hdN n l:=by cases l with
  | nil=>exact h
  | cons y l=>exact Nat.le_min.2 ⟨h,hl y b1⟩
section
variable {k b g:Nat} {A D:List Nat}
theorem Iv.le (h:Iv k b g A D):(∀ x ∈ A,sS b g A D<=x)/\(∀ x ∈ D,sS b g A D<=x)/\sS b g A D<=b *4294967296+g+1:=
  ⟨λ x hx=>L5 (Bc _ _) (Cf h.sA x hx),Cf h.sD,L5 (Bc _ _) (Bc _ _)⟩
theorem zT {a:Nat} (h:a<=b *4294967296+g+1) (hA:∀ x ∈ A,a<=x) (hD:∀ x ∈ D,a<=x):a<=sS b g A D:=Dt (Dt h hA) hD
theorem Iv.mono {j:Nat} (h:Iv k b g A D) (hj:k<=j):Iv j b g A D:=⟨h.bt,L5 h.bg hj,h.sA,h.sD,h.lA,h.lD⟩
theorem Iv.sub {A' D':List Nat} (h:Iv k b g A D) (hA:A'.Sublist A) (hD:D'.Sublist D):Iv k b g A' D'/\sS b g A D<=sS b g A' D':=
  ⟨⟨h.bt,h.bg,h.sA.sublist hA,h.sD.sublist hD,λ x hx=>h.lA x (hA.subset hx),λ x hx=>h.lD x (hD.subset hx)⟩,zT h.le.2.2 (λ x hx=>h.le.1 x (hA.subset hx)) (λ x hx=>h.le.2.1 x (hD.subset hx))⟩
theorem Iv.more (h:Iv k b g A D):Iv (k+1) b (g+1) (A++ [b *4294967296+g+1]) D/\Iv (k+1) b (g+1) A D/\sS b g A D<=sS b (g+1) (A++ [b *4294967296+g+1]) D/\sS b g A D<=sS b (g+1) A D:=by
  have hle:=h.le
  refine⟨⟨h.bt,S0 h.bg,S1.2 ⟨h.sA,List.pairwise_singleton _ _,λ x hx y hy=> ?_⟩,h.sD,λ x hx=> ?_,λ x hx=>L5 (h.lD x hx) e6⟩,⟨h.bt,S0 h.bg,h.sA,h.sD,λ x hx=>L5 (h.lA x hx) e6,λ x hx=>L5 (h.lD x hx) e6⟩,zT e6 (λ x hx=> ?_) hle.2.1,zT e6 hle.1 hle.2.1⟩
  . have a:=h.lA x hx; have c:=m4.1 hy; omega
  . rcases v6.1 hx with a | a
    . have:=h.lA x a; omega
    . have:=m4.1 a; omega
  . rcases v6.1 hx with a | a
    . exact hle.1 x a
    . rw [m4.1 a]; exact hle.2.2
theorem Iv.ins {i n:Nat} (h:Iv k b g A D) (hn:n<=b *4294967296+g) (c:∀ x ∈ D.take i,x<=n) (d:∀ x ∈ D.drop i,n<=x) (hl:sS b g A D<=n) (A':List Nat) (hA:A'.Sublist A):Iv k b g A' (D.take i++n::D.drop i)/\sS b g A D<=sS b g A' (D.take i++n::D.drop i):=by
  have hm:∀ x ∈ D.take i++n::D.drop i,x=n\/x ∈ D:=λ x hx=>by
    rcases v6.1 hx with a | a
    . exact .inr (G0 a)
    . rcases u9.1 a with a | a
      . exact .inl a
      . exact .inr (S2 a)
  refine⟨⟨h.bt,h.bg,h.sA.sublist hA,S1.2 ⟨h.sD.sublist (List.take_sublist _ _),R9.2 ⟨d,h.sD.sublist (List.drop_sublist _ _)⟩,λ x hx y hy=> ?_⟩,λ x hx=>h.lA x (hA.subset hx),λ x hx=> ?_⟩,zT h.le.2.2 (λ x hx=>h.le.1 x (hA.subset hx)) (λ x hx=> ?_)⟩
  . rcases u9.1 hy with rfl | hy
    . exact c x hx
    . exact L5 (c x hx) (d y hy)
  . rcases hm x hx with rfl | a
    . exact hn
    . exact h.lD x a
  . rcases hm x hx with rfl | a
    . exact hl
    . exact h.le.2.1 x a
end
def nA (m:aA):List Nat:=s5 dK.aR m.ay.ls
def nD (m:aA):List Nat:=s5 bH.aN m.aa.aj.ls
def lo (m:aA):Nat:=sS m.aa.av m.bP (nA m) (nD m)
def Im (k:Nat) (m:aA):Prop:=k<=1000000/\Iv k m.aa.av m.bP (nA m) (nD m)
theorem wJ {k:Nat} {m:aA} (h:Im k m):fT m=m.aa.av *4294967296+m.bP+1:=by
  have d:=h.2.bt
  have e:=h.2.bg
  have f:=h.1
  have a:eU m.aa.av 32=m.aa.av *4294967296:=by unfold eU; rw [show min 32 64=32 from rfl,show ((2:Int) ^ 32)=4294967296 from rfl,IntWalk.u64_in _ e6]; omega
  have c:IntKind.u64.wrap (((m.aa.av *4294967296:Nat):Int)+(m.bP:Int))=((m.aa.av *4294967296+m.bP:Nat):Int):=by rw [IntWalk.u64_in _ e6]; omega
  unfold fT
  rw [a,c,K2,IntWalk.u64_in _ e6]
  omega
theorem Cg {α:Type} [Inhabited α] (f:α->Nat) (N:Nat) (A:List α):(if((r8 A:Nat):Int) > 0 then bnd (C0 A 0 default) λ y=>min N (f y) else N)=hdN N (s5 f A):=by
  cases A with
  | nil=>exact if_neg (by simp only [List.length_nil]; omega)
  | cons a A=>exact if_pos (by simp only [s0]; omega)
def Eb (N:Nat) (a:aA):Nat:=bnd N λ y=>bnd (if((r8 a.ay.ls:Nat):Int) > 0 then bnd (C0 a.ay.ls 0 default) λ x=>min y x.aR else y) λ s=>if((r8 a.aa.aj.ls:Nat):Int) > 0 then bnd (C0 a.aa.aj.ls 0 default) λ x=>min s x.aN else s
theorem EX (N:Nat) (m:aA):Eb N m=hdN (hdN N (nA m)) (nD m):=(Cg bH.aN _ _).trans (congrArg (λ q=>hdN q (nD m)) (Cg dK.aR _ _))
theorem Du (m:aA):il m=Eb (fT m) m:=by unfold il Eb; exact Eq.refl _
theorem Ec {k:Nat} {m:aA} (h:Im k m):il m=lo m:=by rw [Du,wJ h,EX]; rfl
structure Tr (j:Nat) (p:bI) (m:aA) (t:bI) (m':aA):Prop where
  own:m'.aa.ag.ls=m.aa.ag.ls
  sh:m'.aa.au=m.aa.au
  ad:r8 m.ay.ls+r8 m.aa.aj.ls<=8->r8 m'.ay.ls+r8 m'.aa.aj.ls<=8
  la:r8 m'.aa.aF.ls<=r8 m.aa.aF.ls+j
  lw:∀ k,Im (k+j) m->k+j<=1000000->Im k m->Im (k+j) m'/\∃ o,t.aX.ls=p.aX.ls++o/\Lw (lo m) (lo m') o
theorem Tr.same (p:bI) (m:aA):Tr 0 p m p m:=⟨rfl,rfl,id,o3 _,λ k h _ _=>⟨h, [],(s6 _).symm,o3 _⟩⟩
theorem Im.mono {k j:Nat} {m:aA} (h:Im k m) (hj:k<=j) (hl:j<=1000000):Im j m:=⟨hl,h.2.mono hj⟩
theorem Tr.trans {i j:Nat} {p t u:bI} {m d e:aA} (a:Tr i p m t d) (c:Tr j t d u e):Tr (i+j) p m u e:=
  ⟨c.own.trans a.own,c.sh.trans a.sh,λ h=>c.ad (a.ad h),by have:=a.la; have:=c.la; omega,λ k _ hl hk=>by
    obtain⟨f,l,n,o⟩:=a.lw k (hk.mono e6 e6) e6 hk
    obtain⟨q,r,s,v⟩:=c.lw (k+i) (f.mono e6 e6) e6 f
    exact⟨Nat.add_assoc k i j ▸ q,l++r,by rw [s,n,q4],v.app o⟩⟩
theorem Tr.one {p t:bI} {m m':aA} (h:Tr 0 p m t m'):Tr 1 p m t m':=⟨h.own,h.sh,h.ad,S3 h.la,λ k _ hl hk=>by
  obtain⟨a,c,d,e⟩:=h.lw k hk e6 hk
  exact⟨a.mono e6 hl,c,d,e⟩⟩
theorem Tr.of {p t:bI} {m m':aA} {o:List bL} (hs:m'.aa=m.aa) (ha:nA m'=nA m) (hb:m'.bP=m.bP) (ho:t.aX.ls=p.aX.ls++o) (hk:∀ x ∈ o,x.aD≠3):Tr 0 p m t m':=by
  have hl:r8 m'.ay.ls=r8 m.ay.ls:=by have:=congrArg r8 ha; simp only [nA,s3] at this; exact this
  have e:lo m'=lo m:=by unfold lo nD; rw [hs,ha,hb]
  refine⟨by rw [hs],by rw [hs],by rw [hs,hl]; exact id,by rw [hs]; exact o3 _,λ k h _ _=>⟨?_,o,ho,JP (Nat.le_of_eq e.symm) hk⟩⟩
  unfold Im nD at h ⊢; rw [hs,ha,hb]; exact h
theorem Be (p:bI) (x:bL):∃ y,(dw p x).aX.ls=p.aX.ls++ [y]/\y.aD=x.aD/\y.dY=x.dY/\y.aN=x.aN:=⟨_,rfl,rfl,rfl,rfl⟩
theorem mP {p t:bI} {c:Int} {q:Nat} {k:Int} {l:List aQ} {m m':aA} (h:dC p c q k l m=(t,m')):m'.aa=m.aa/\m'.ay.ls=m.ay.ls/\m'.bP=m.bP/\(∃ x,t.aX.ls=p.aX.ls++ [x]/\x.aD=2)/\(nI l->ky q->Mk m->Mk m'):=by
  unfold dC jh at h
  simp only [bnd] at h
  split at h
  . obtain⟨rfl,rfl⟩:=Prod.mk.inj h
    exact⟨rfl,rfl,rfl,⟨_,rfl,rfl⟩,λ hl hq M=>⟨M.oz,M.sV,M.qF,M.ug,M.dec,M.mH,M.act,M.mU,⟨hl,hq⟩,M.nu,M.ny,M.nz⟩⟩
  split at h
  . obtain⟨rfl,rfl⟩:=Prod.mk.inj h
    exact⟨rfl,rfl,rfl,⟨_,rfl,rfl⟩,λ hl hq M=>⟨M.oz,M.sV,M.qF,M.ug,M.dec,M.mH,M.act,M.mU,M.lT,⟨hl,hq⟩,M.ny,M.nz⟩⟩
  split at h
  . obtain⟨rfl,rfl⟩:=Prod.mk.inj h
    exact⟨rfl,rfl,rfl,⟨_,rfl,rfl⟩,λ hl hq M=>⟨M.oz,M.sV,M.qF,M.ug,M.dec,M.mH,M.act,M.mU,M.lT,M.nu,⟨hl,hq⟩,M.nz⟩⟩
  . obtain⟨rfl,rfl⟩:=Prod.mk.inj h
    exact⟨rfl,rfl,rfl,⟨_,rfl,rfl⟩,λ hl hq M=>⟨M.oz,M.sV,M.qF,M.ug,M.dec,M.mH,M.act,M.mU,M.lT,M.nu,M.ny,⟨hl,hq⟩⟩⟩
theorem Bf (n:Nat) (f:Bool):∀ (l:List Int) (o:List bL), ∃ q,ik n f l o=o++q/\∀ x ∈ q,x.aD=5
  | [],o=>⟨[],(s6 _).symm,λ x hx=>by cases hx⟩
  | s::l,o=>by
    simp only [ik,bnd]
    obtain⟨y,e,hk,_⟩:=Be (bI.mk (E2 o)) (bL.mk 5 0 s 0 0 0 0 0 n 0 0 0 0 0 0 f (bC.mk [] []) (E2 []) (E2 []) (E2 []))
    rw [e]
    obtain⟨q,a,c⟩:=Bf n f l (o++ [y])
    refine⟨y::q,by rw [a,q4]; rfl,λ x hx=> ?_⟩
    rcases u9.1 hx with rfl | hx
    . exact hk
    . exact c x hx
theorem yD (p:bI) (n:Nat) (l:List Int) (f:Bool):∃ q,(dZ p n l f).aX.ls=p.aX.ls++q/\∀ x ∈ q,x.aD=5:=by
  obtain⟨q,e,h⟩:=Bf n f l p.aX.ls
  exact⟨q,by unfold dZ; simp only [bnd]; exact e,h⟩
theorem Tr.decide (p:bI) (n:Nat) (l:List Int) (f:Bool) (m:aA):Tr 0 p m (dZ p n l f) m:=by
  obtain⟨q,e,h⟩:=yD p n l f
  exact Tr.of rfl rfl rfl e (λ x hx=>by rw [h x hx]; decide)
theorem Tr.answer {p t:bI} {c:Int} {q:Nat} {k:Int} {l:List aQ} {m m':aA} (h:dC p c q k l m=(t,m')):Tr 0 p m t m':=by
  obtain⟨a,d,f,⟨x,e,hx⟩,i⟩:=mP h
  exact Tr.of a (by unfold nA; rw [d]) f e (λ y hy=>by rw [m4.1 hy,hx]; decide)
theorem GG {m':aA} {o:List aY} {d:List bH} {l:List eD} {a:List dK} (c:m'.aa.ag.ls=o) (e:m'.aa.aj.ls=d) (f:m'.aa.aF.ls=l) (h:m'.ay.ls=a):aA.mk (cZ.mk m'.aa.au m'.aa.av m'.aa.aV m'.aa.aL (E2 o) (E2 d) (E2 l)) m'.bP (E2 a) m'.bK m'.bA m'.bz m'.bv m'.bq m'.dP m'.dH m'.dI m'.dG m'.dJ=m':=by subst c e f h; rfl
theorem oG {c m':aA} {o:List aY} {d:List bH} {l:List eD} {a:List dK} (h:aA.mk (cZ.mk c.aa.au c.aa.av c.aa.aV c.aa.aL (E2 o) (E2 d) (E2 l)) c.bP (E2 a) c.bK c.bA c.bz c.bv c.bq c.dP c.dH c.dI c.dG c.dJ=m') (e:c.aa.ag.ls=o) (f:c.aa.aj.ls=d) (i:c.aa.aF.ls=l) (j:c.ay.ls=a):c=m':=(GG e f i j).symm.trans h
theorem getD_at {α:Type} [Inhabited α] {l:List α} {i:Nat} (h:i < l.length):l[i]? =some (C0 l i default):=by
  rw [L4,s2 h]; rfl
def rE (m:aA) (i:Nat):aA:= { m with ay:=E2 (q7 i m.ay.ls++r3 (i+1) m.ay.ls) }
theorem nW {α:Type} (l:List α) (i:Nat):(q7 i l++r3 (i+1) l).Sublist l:=by
  have h:(r3 (i+1) l).Sublist (r3 i l):=by rw [<- List.tail_drop]; exact List.tail_sublist _
  have:=(S4.refl (q7 i l)).append h
  rwa [List.take_append_drop] at this
theorem Mk.cut {m:aA} (M:Mk m) (i:Nat):Mk (rE m i):=⟨M.oz,M.sV,M.qF,M.ug,M.dec,M.mH,λ x hx=>M.act x ((nW _ _).subset hx),M.mU,M.lT,M.nu,M.ny,M.nz⟩
theorem Tr.cut (p:bI) (m:aA) (i:Nat):Tr 0 p m p (rE m i):=by
  have hs:=nW m.ay.ls i
  have hA:nA (rE m i)=q7 i (nA m)++r3 (i+1) (nA m):=by simp only [nA,rE,v5,S5,S6]
  refine⟨rfl,rfl,λ h=> ?_,o3 _,λ k h _ _=> ?_⟩
  . have:=hs.length_le; simp only [rE]; omega
  . have a:=h.2.sub (A':=nA (rE m i)) (hA ▸ nW (nA m) i) (S4.refl _)
    exact⟨⟨h.1,a.1⟩, [],(s6 _).symm,a.2⟩
theorem tY {m:aA} (M:Mk m) {i:Nat} (hi:i < m.ay.ls.length):Tok (C0 m.ay.ls i default):=M.act _ (D3 (getD_at hi))
theorem yE (l:List gF):r8 (gu l [])=r8 l:=(Bb l []).trans (Nat.zero_add _)
theorem qf {p t:bI} {i:Int} {m m':aA} (hi:D0 i < m.ay.ls.length) (h:fq p i m=(t,m')):m'.aa=m.aa/\Tr 0 p m t m'/\(Mk m->Mk m')/\r8 t.aX.ls=r8 p.aX.ls+1+r8 (C0 m.ay.ls (D0 i) default).aG.ls:=by
  unfold fq at h
  simp only [bnd] at h
  rcases e:dC p (C0 m.ay.ls (D0 i) default).aM (C0 m.ay.ls (D0 i) default).aS 2 [] (rE m (D0 i)) with ⟨c,d⟩
  have e':=e
  unfold rE at e'
  rw [e'] at h
  have ha:=mP e
  obtain⟨rfl,a⟩:=Prod.mk.inj h
  obtain rfl:=oG a (by rw [ha.1]; rfl) (by rw [ha.1]; rfl) (by rw [ha.1]; rfl) (by rw [ha.2.1]; rfl)
  exact⟨ha.1,(Tr.cut p m (D0 i)).trans ((Tr.answer e).trans (Tr.decide _ _ _ _ _)),λ M=>ha.2.2.2.2 mE (tY M hi).sU (M.cut _),by
    obtain⟨x,e,_⟩:=ha.2.2.2.1
    rw [yB rfl,e,o1,List.length_singleton]
    simp only [jM,bnd]; rw [yE]⟩
theorem yF (a b:Nat):gP a b < 0↔a < b:=by
  unfold gP lu
  simp only [bnd]
  by_cases h:(a:Int) < (b:Int)
  . simp [h]; omega
  . by_cases c:(a:Int) > (b:Int) <;> simp [h,c] <;> omega
theorem Bg {l:List bH} {n:Nat} (hs:∀ i j:Nat,i<=j->j < l.length->(C0 l i default).aN<=(C0 l j default).aN):∀ (f a b:Nat),a<=b->b<=l.length->b - a < f->(∀ i,i < a->(C0 l i default).aN < n)->(∀ i,b<=i->i < l.length->n<=(C0 l i default).aN)->
    ∃ r,dB l n f a b=r/\r<=l.length/\(∀ i,i < r->(C0 l i default).aN < n)/\(∀ i,r<=i->i < l.length->n<=(C0 l i default).aN)
  | 0,a,b,_,_,h,_,_=>e6
  | f+1,a,b,hab,hb,hf,c,d=>by
    simp only [dB,bnd]
    by_cases hlt:(a:Int) < (b:Int)
    . rw [if_pos hlt]
      by_cases hc:gP (C0 l ((a+b) / 2) default).aN n < 0
      . rw [if_pos hc]
        rw [yF] at hc
        exact Bg hs f _ _ e6 hb e6 (λ i hi=>Nat.lt_of_le_of_lt (hs i ((a+b) / 2) e6 e6) hc) d
      . rw [if_neg hc]
        rw [yF] at hc
        exact Bg hs f _ _ e6 e6 e6 c (λ i hi hl=>L5 (Nat.le_of_not_lt hc) (hs ((a+b) / 2) i hi hl))
    . rw [if_neg hlt]
      exact⟨a,rfl,e6,c,λ i hi hl=>d i e6 hl⟩
theorem Ed {l:List bH} (h:R7 (· <= ·) (s5 bH.aN l)) (i j:Nat) (hij:i<=j) (hj:j < l.length):(C0 l i default).aN<=(C0 l j default).aN:=by
  rcases Nat.lt_or_eq_of_le hij with a | rfl
  . have:=List.pairwise_iff_getElem.1 h i j i9 i9 a
    rw [S7,S7] at this
    rw [L4,L4,s2 e6,s2 hj]
    exact this
  . exact o3 _
theorem Ee {l:List bH} {n:Nat} {r:Int × Bool} (hr:bM l n=r) (h:R7 (· <= ·) (s5 bH.aN l)):(∀ x ∈ q7 (D0 r.1) (s5 bH.aN l),x<=n)/\(∀ x ∈ r3 (D0 r.1) (s5 bH.aN l),n<=x):=by
  obtain⟨q,e,hl,a,c⟩:=Bg (Ed h) ((l.length - 0)+1) 0 l.length (Lg _) (o3 _) e6 (λ i hi=>e6) (λ i hi hl=>e6)
  have hq:D0 r.1=q:=by
    rw [<- hr]; unfold bM
    simp only [bnd]
    rw [e]
    split <;> rfl
  rw [hq]
  have at_:∀ i (hi:i < l.length),(s5 bH.aN l)[i]'(by rw [s3]; exact hi)=(C0 l i default).aN:=λ i hi=>by
    rw [S7,L4,s2 hi]; rfl
  refine⟨λ x hx=> ?_,λ x hx=> ?_⟩
  . obtain⟨i,hi,rfl⟩:=List.mem_take_iff_getElem.1 hx
    rw [s3] at hi
    rw [at_ i e6]
    exact Nat.le_of_lt (a i e6)
  . obtain⟨i,hi,rfl⟩:=List.mem_drop_iff_getElem.1 hx
    rw [s3] at hi
    rw [at_ (q+i) e6]
    exact c _ e6 e6
def mZ (m:aA) (i j:Nat) (d:bH) (L:List eD):aA:= { m with aa:=cZ.mk m.aa.au m.aa.av m.aa.aV m.aa.aL (E2 m.aa.ag.ls) (E2 (q7 j m.aa.aj.ls++(d::r3 j m.aa.aj.ls))) (E2 L),ay:=E2 (q7 i m.ay.ls++r3 (i+1) m.ay.ls) }
theorem Tr.com (p:bI) (m:aA) {i j:Nat} {d:bH} {L:List eD} (hi:i < m.ay.ls.length) (hd:d.aN=(C0 m.ay.ls i default).aR) (hL:r8 L<=r8 m.aa.aF.ls+1)
    (hj:R7 (· <= ·) (nD m)->(∀ x ∈ q7 j (nD m),x<=d.aN)/\(∀ x ∈ r3 j (nD m),d.aN<=x)):Tr 1 p m p (mZ m i j d L):=by
  have hA:nA (mZ m i j d L)=q7 i (nA m)++r3 (i+1) (nA m):=by simp only [nA,mZ,v5,S5,S6]
  have hD:nD (mZ m i j d L)=q7 j (nD m)++d.aN::r3 j (nD m):=by simp only [nD,mZ,v5,List.map_cons,S5,S6]
  have hm:d.aN ∈ nA m:=by rw [hd]; exact List.mem_map.2 ⟨_,D3 (getD_at hi),rfl⟩
  refine⟨rfl,rfl,λ h=> ?_,hL,λ k _ hl h=> ?_⟩
  . simp only [mZ,o1,m9,o0,s0]; omega
  . have a:=h.2.ins (h.2.lA _ hm) (hj h.2.sD).1 (hj h.2.sD).2 (h.2.le.1 _ hm) (nA (mZ m i j d L)) (hA ▸ nW (nA m) i)
    rw [<- hD] at a
    exact⟨⟨hl,a.1.mono (S8 k)⟩, [],(s6 _).symm,a.2⟩
theorem Mk.com {m:aA} (M:Mk m) {i j:Nat} {d:bH} {L:List eD} (hd:ky d.aN/\ky d.av/\ky d.aP/\r8 d.au.ls<=1000) (hL:∀ x ∈ L,ky x.av/\ky x.aP/\nI x.ai.ls):Mk (mZ m i j d L):=
  ⟨M.oz,M.sV,M.qF,M.ug,λ x hx=>by
    rcases v6.1 hx with h | h
    . exact M.dec x (G0 h)
    . rcases u9.1 h with rfl | h
      . exact hd
      . exact M.dec x (S2 h),hL,λ x hx=>M.act x ((nW _ _).subset hx),M.mU,M.lT,M.nu,M.ny,M.nz⟩
theorem xx {p t:bI} {i:Int} {m m':aA} (hi:D0 i < m.ay.ls.length) (h:jQ p i m=(t,m')):Tr 1 p m t m'/\(Mk m->Mk m'):=by
  unfold jQ at h
  simp only [bnd,jM] at h
  have hT:=λ M:Mk m=>tY M hi
  generalize hy:C0 m.ay.ls (D0 i) default=y at h hT
  rcases eg:lM y.bV.ls y.aG.ls y.af.ls with ⟨rs,ge⟩
  rw [eg] at h
  have hgr:=λ M:Mk m=>yA eg (hT M).ops.1 (hT M).ops.2 (hT M).Cs
  rcases es:bM m.aa.aj.ls y.aR with ⟨j,oj⟩
  rcases el:fH m.aa.aF.ls y.aM with ⟨q,oq⟩
  rw [es,el] at h
  obtain⟨sl,hsl⟩:∃ sl,gu y.aG.ls []=sl:=⟨_,rfl⟩
  rw [hsl] at h
  have hds:=λ M:Mk m=>(show ky y.aR/\ky m.aa.av/\ky y.aS/\r8 sl<=1000 from ⟨(hT M).num,M.oz,(hT M).sU,by have:=(hT M).len; rw [<- hsl,yE]; omega⟩)
  have go:∀ {L:List eD} {f:bI} {c:aA},dC p y.aM y.aS 1 rs (mZ m (D0 i) (D0 j) (bH.mk y.aR y.aM m.aa.av y.aS (E2 sl)) L)=(f,c)->r8 L<=r8 m.aa.aF.ls+1->(Mk m->∀ x ∈ L,ky x.av/\ky x.aP/\nI x.ai.ls)->Tr 1 p m (dZ f y.aR sl true) c/\(Mk m->Mk c):=λ {L f c} e hL hM=>by
    have ha:=mP e
    have hc:Tr 1 p m p (mZ m (D0 i) (D0 j) (bH.mk y.aR y.aM m.aa.av y.aS (E2 sl)) L):=Tr.com p m hi (by rw [hy]) hL λ hp=>Ee es hp
    exact⟨hc.trans ((Tr.answer e).trans (Tr.decide _ _ _ _ _)),λ M=>ha.2.2.2.2 (hgr M) (hT M).sU (M.com (hds M) (hM M))⟩
  split at h
  . split at h
    . rcases e:dC p y.aM y.aS 1 rs (mZ m (D0 i) (D0 j) (bH.mk y.aR y.aM m.aa.av y.aS (E2 sl)) (u2 m.aa.aF.ls (D0 q) (eD.mk y.aM m.aa.av y.aS (E2 rs)))) with ⟨f,c⟩
      have ha:=mP e
      have e':=e
      unfold mZ at e'
      rw [e'] at h
      obtain⟨rfl,a⟩:=Prod.mk.inj h
      obtain rfl:=oG a (by rw [ha.1]; rfl) (by rw [ha.1]; rfl) (by rw [ha.1]; rfl) (by rw [ha.2.1]; rfl)
      refine go e (by rw [H1]; omega) λ M x hx=> ?_
      rcases O0 hx with d | rfl
      . exact M.mH x d
      . exact⟨M.oz,(hT M).sU,hgr M⟩
    . rcases e:dC p y.aM y.aS 1 rs (mZ m (D0 i) (D0 j) (bH.mk y.aR y.aM m.aa.av y.aS (E2 sl)) (q7 (D0 q) m.aa.aF.ls++((eD.mk y.aM m.aa.av y.aS (E2 rs))::r3 (D0 q) m.aa.aF.ls))) with ⟨f,c⟩
      have ha:=mP e
      have e':=e
      unfold mZ at e'
      rw [e'] at h
      obtain⟨rfl,a⟩:=Prod.mk.inj h
      obtain rfl:=oG a (by rw [ha.1]; rfl) (by rw [ha.1]; rfl) (by rw [ha.1]; rfl) (by rw [ha.2.1]; rfl)
      refine go e (by rw [o1,s0,m9,o0]; omega) λ M x hx=> ?_
      rcases v6.1 hx with d | d
      . exact M.mH x (G0 d)
      . rcases u9.1 d with rfl | d
        . exact⟨M.oz,(hT M).sU,hgr M⟩
        . exact M.mH x (S2 d)
  . rcases e:fq p i m with ⟨f,c⟩
    rw [e] at h
    have ha:=qf hi e
    obtain⟨rfl,a⟩:=Prod.mk.inj h
    obtain rfl:=oG a (by rw [ha.1]) (by rw [ha.1]) (by rw [ha.1]) rfl
    exact⟨ha.2.1.one,ha.2.2.1⟩
def oh (m:aA) (i:Nat) (y:dK):aA:= { m with ay:=E2 (u2 m.ay.ls i y) }
theorem vB {l:List dK} {i:Nat} {y:dK} (hy:y.aR=(C0 l i default).aR):s5 dK.aR (u2 l i y)=s5 dK.aR l:=by
  rw [List.map_set]
  by_cases h:i < l.length
  . have:(s5 dK.aR l)[i]'(by rw [s3]; exact h)=y.aR:=by rw [S7,hy,L4,s2 h]; rfl
    rw [<- this]; exact S9 _
  . exact T0 i9
theorem Tr.set (p:bI) (m:aA) {i:Nat} {y:dK} (hy:y.aR=(C0 m.ay.ls i default).aR):Tr 0 p m p (oh m i y):=Tr.of rfl (vB hy) rfl (s6 _).symm (λ x hx=>by cases hx)
theorem Mk.set {m:aA} (M:Mk m) {i:Nat} {y:dK} (hy:Tok y):Mk (oh m i y):=⟨M.oz,M.sV,M.qF,M.ug,M.dec,M.mH,nJ M.act hy,M.mU,M.lT,M.nu,M.ny,M.nz⟩
theorem yG {l:List dK} {n:Nat} {r:Int × Bool} (hr:bW l n=r) (h:r.2=true):D0 r.1 < l.length:=by
  unfold bW at hr
  simp only [bnd] at hr
  split at hr
  . subst hr; simp only [K2]; omega
  . subst hr; cases h
theorem zB {p t:bI} {x:bL} {m m':aA} (h:kg p x m=(t,m')):Tr 1 p m t m'/\(nI x.ai.ls->Mk m->Mk m'):=by
  have same:(p,m)=(t,m')->Tr 1 p m t m'/\(nI x.ai.ls->Mk m->Mk m'):=λ h=>by
    obtain⟨rfl,rfl⟩:=Prod.mk.inj h
    exact⟨(Tr.same p m).one,λ _ M=>M⟩
  unfold kg jh at h
  simp only [bnd] at h
  rcases ef:bW m.ay.ls x.aN with ⟨i,ok⟩
  rw [ef] at h
  split at h
  case isFalse=>exact same h
  rename_i hok
  have hi:=yG ef hok
  split at h
  . exact same h
  split at h
  . exact same h
  have ab:∀ {d:bI} {a:aA},fq p i m=(d,a)->(d,aA.mk (cZ.mk a.aa.au a.aa.av a.aa.aV a.aa.aL (E2 m.aa.ag.ls) (E2 m.aa.aj.ls) (E2 m.aa.aF.ls)) a.bP (E2 a.ay.ls) a.bK a.bA a.bz a.bv a.bq a.dP a.dH a.dI a.dG a.dJ)=(t,m')->Tr 1 p m t m'/\(nI x.ai.ls->Mk m->Mk m'):=λ e h=>by
    have ha:=qf hi e
    obtain⟨rfl,c⟩:=Prod.mk.inj h
    obtain rfl:=oG c (by rw [ha.1]) (by rw [ha.1]) (by rw [ha.1]) rfl
    exact⟨ha.2.1.one,λ _=>ha.2.2.1⟩
  split at h
  . split at h
    . split at h
      . obtain⟨rfl,rfl⟩:=Prod.mk.inj h
        refine⟨Tr.one ?_,λ hr M=>M.set (i:=D0 i) (o7 (tY M hi) hr)⟩
        refine Tr.set p m (i:=D0 i) ?_
        rfl
      . rcases e:jQ p i (oh m (D0 i) (dK.mk (C0 m.ay.ls (D0 i) default).aR (C0 m.ay.ls (D0 i) default).aM (C0 m.ay.ls (D0 i) default).aS (C0 m.ay.ls (D0 i) default).dh (E2 (C0 m.ay.ls (D0 i) default).bV.ls) (E2 (C0 m.ay.ls (D0 i) default).aG.ls) (E2 (u2 (C0 m.ay.ls (D0 i) default).bD.ls (D0 (gT (C0 m.ay.ls (D0 i) default).aG.ls x)) true)) (E2 (u2 (C0 m.ay.ls (D0 i) default).af.ls (D0 (gT (C0 m.ay.ls (D0 i) default).aG.ls x)) (E2 x.ai.ls))) (C0 m.ay.ls (D0 i) default).eO)) with ⟨d,a⟩
        have e':=e
        unfold oh at e'
        rw [e'] at h
        have hc:=xx (by unfold oh; simp only [H1]; exact hi) e
        obtain⟨rfl,c⟩:=Prod.mk.inj h
        obtain rfl:=oG c (by rw [hc.1.own]; rfl) rfl rfl rfl
        refine⟨Nat.zero_add 1 ▸ Tr.trans ?_ hc.1,λ hr M=>hc.2 (M.set (o7 (tY M hi) hr))⟩
        refine Tr.set p m (i:=D0 i) ?_
        rfl
    . rcases e:fq p i m with ⟨d,a⟩
      rw [e] at h; exact ab e h
  . rcases e:fq p i m with ⟨d,a⟩
    rw [e] at h; exact ab e h
def sdX (m:aA) (D:List bH):aA:= { m with aa:=cZ.mk m.aa.au m.aa.av m.aa.aV m.aa.aL (E2 m.aa.ag.ls) (E2 D) (E2 m.aa.aF.ls) }
theorem Tr.sdX (p:bI) (m:aA) {D:List bH} (h:(s5 bH.aN D).Sublist (nD m)):Tr 1 p m p (sdX m D):=by
  have hl:=h.length_le
  simp only [nD,s3] at hl
  refine⟨rfl,rfl,λ h=> ?_,S8 _,λ k _ hk c=> ?_⟩
  . show r8 m.ay.ls+r8 D<=8; omega
  . have a:=c.2.sub (S4.refl _) h
    exact⟨⟨hk,a.1.mono (S8 k)⟩, [],(s6 _).symm,a.2⟩
theorem Ef {l:List bH} {i:Nat} {y:bH} (hy:y.aN=(C0 l i default).aN):s5 bH.aN (u2 l i y)=s5 bH.aN l:=by
  rw [List.map_set]
  by_cases h:i < l.length
  . have:(s5 bH.aN l)[i]'(by rw [s3]; exact h)=y.aN:=by rw [S7,hy,L4,s2 h]; rfl
    rw [<- this]; exact S9 _
  . exact T0 i9
theorem xQ (l:List Int) (c:bL):∀ (f:Nat) (a b:Int) (q:List Int),r8 (iF l c f a b q).2<=r8 q
  | 0,a,b,q=>Lg _
  | f+1,a,b,q=>by
    simp only [iF,bnd]
    split
    . split
      . exact xQ l c f _ _ _
      . exact L5 (xQ l c f _ _ _) (by rw [H1]; exact o3 _)
    . exact o3 _
theorem EY (l:List Int) (c:bL):r8 (iP l c)<=r8 l:=by
  unfold iP
  simp only [bnd]
  split
  . exact o3 _
  . rw [m9]; exact L5 (R8 _ _) (xQ _ _ _ _ _ _)
theorem F9 {l:List bH} {n:Nat} {r:Int × Bool} (hr:bM l n=r) (h:r.2=true):D0 r.1 < l.length:=by
  unfold bM at hr
  simp only [bnd] at hr
  split at hr
  . subst hr; simp only [K2]; omega
  . subst hr; cases h
theorem pg {p t:bI} {x:bL} {m m':aA} (h:mf p x m=(t,m')):(∃ D,m'=sdX m D)/\Tr 1 p m t m'/\(Mk m->Mk m'):=by
  unfold mf at h
  simp only [bnd] at h
  rcases ef:bM m.aa.aj.ls x.aN with ⟨i,ok⟩
  rw [ef] at h
  split at h
  . rename_i hok
    have hi:=F9 ef hok
    have a:=λ M:Mk m=>M.dec _ (D3 (getD_at hi))
    generalize hy:C0 m.aa.aj.ls (D0 i) default=y at h a
    have hD:Mk m->Dk (u2 m.aa.aj.ls (D0 i) (bH.mk y.aN y.aK y.av y.aP (E2 (iP y.au.ls x)))):=λ M z hz=>by
      rcases O0 hz with d | rfl
      . exact M.dec z d
      . have c:=a M
        exact⟨c.1,c.2.1,c.2.2.1,L5 (EY _ _) c.2.2.2⟩
    have hmap:s5 bH.aN (u2 m.aa.aj.ls (D0 i) (bH.mk y.aN y.aK y.av y.aP (E2 (iP y.au.ls x))))=nD m:=Ef (by rw [hy])
    generalize u2 m.aa.aj.ls (D0 i) (bH.mk y.aN y.aK y.av y.aP (E2 (iP y.au.ls x)))=D at h hD hmap
    split at h
    . obtain⟨rfl,rfl⟩:=Prod.mk.inj h
      exact⟨⟨_,rfl⟩,Tr.sdX p m (hmap ▸ (nW D (D0 i)).map bH.aN),λ M=>⟨M.oz,M.sV,M.qF,M.ug,λ y hy=>hD M y ((nW _ _).subset hy),M.mH,M.act,M.mU,M.lT,M.nu,M.ny,M.nz⟩⟩
    . obtain⟨rfl,rfl⟩:=Prod.mk.inj h
      exact⟨⟨_,rfl⟩,Tr.sdX p m (hmap ▸ S4.refl _),λ M=>⟨M.oz,M.sV,M.qF,M.ug,hD M,M.mH,M.act,M.mU,M.lT,M.nu,M.ny,M.nz⟩⟩
  . obtain⟨rfl,rfl⟩:=Prod.mk.inj h
    exact⟨⟨_,rfl⟩,(Tr.same p m).one,id⟩
theorem EZ (p:bI) (x:bL) (m:aA):Tr 1 p m (lH p x m) m:=by
  unfold lH
  simp only [bnd]
  split
  . exact(Tr.decide _ _ _ _ _).one
  . split
    . exact(Tr.same p m).one
    . exact(Tr.decide _ _ _ _ _).one
theorem Lw.all {w n b:Nat} (hn:w<=n) (hb:w<=b):∀ {l:List bL} {a:Nat},a<=w->(∀ x ∈ l,x.aD=3/\x.dY=w/\x.aN=n)->Lw a b l
  | [],a,ha,_=>L5 ha hb
  | x::l,a,ha,h=>by
    have hx:=h x b1
    unfold Lw
    rw [if_pos hx.1,hx.2.1,hx.2.2]
    exact⟨ha,hn,Lw.all hn hb (o3 _) λ y hy=>h y (.tail _ hy)⟩
theorem zf (m:aA) (i:Int) (y:dK) (x:dK):∀ (f k:Nat) (o:List bL), ∃ q,iw m i y x f k o=o++q/\r8 q<=f/\∀ z ∈ q,z.aD=3/\z.dY=il (oh m (D0 i) (dK.mk y.aR y.aM y.aS y.dh (E2 y.bV.ls) (E2 y.aG.ls) (E2 y.bD.ls) (E2 y.af.ls) (C5.wrap (y.eO+1))))/\z.aN=x.aR
  | 0,k,o=>⟨[],(s6 _).symm,o3 _,λ z hz=>by cases hz⟩
  | f+1,k,o=>by
    simp only [iw,bnd]
    split
    . obtain⟨q,e,hl,hq⟩:=zf m i y x f (k+1) o
      exact⟨q,e,S3 hl,hq⟩
    . obtain⟨q,e,hl,hq⟩:=zf m i y x f (k+1) (o++ [bL.mk 3 0 (C0 x.aG.ls k default).eG 0 0 0 0 0 x.aR (il (oh m (D0 i) (dK.mk y.aR y.aM y.aS y.dh (E2 y.bV.ls) (E2 y.aG.ls) (E2 y.bD.ls) (E2 y.af.ls) (C5.wrap (y.eO+1))))) 0 x.dh 0 0 0 false (bC.mk [] []) (E2 (C0 x.aG.ls k default).aH.ls) (E2 []) (E2 [])])
      refine⟨_::q,e.trans (by rw [q4]; rfl),by rw [s0]; omega,λ z hz=> ?_⟩
      rcases u9.1 hz with rfl | hz
      . exact⟨rfl,rfl,rfl⟩
      . exact hq z hz
theorem Tr.tells {p t:bI} {m m':aA} {j n:Nat} {q:List bL} (h:Tr j p m p m') (ho:t.aX.ls=p.aX.ls++q) (hq:∀ z ∈ q,z.aD=3/\z.dY=il m'/\z.aN=n) (hn:∀ k,Im k m->k+j<=1000000->n ∈ nA m'):Tr j p m t m':=
  ⟨h.own,h.sh,h.ad,h.la,λ k c hl hk=>by
    obtain⟨a,o,e,d⟩:=h.lw k c hl hk
    have f:lo m<=lo m':=by
      have:o= []:=by have:=congrArg r8 e; rw [o1] at this; exact List.length_eq_zero_iff.1 e6
      subst this; exact d
    exact⟨a,q,ho,Lw.all (a.2.le.1 n (hn k hk hl)) (o3 _) f λ z hz=>⟨(hq z hz).1,(hq z hz).2.1.trans (Ec a),(hq z hz).2.2⟩⟩⟩
theorem uq {p t:bI} {n:Nat} {m m':aA} (h:jJ p n m=(t,m')):m'.aa=m.aa/\Tr 0 p m t m'/\(Mk m->Mk m')/\(Mk m->r8 t.aX.ls<=r8 p.aX.ls+6):=by
  unfold jJ at h
  simp only [bnd] at h
  rcases ef:bW m.ay.ls n with ⟨i,ok⟩
  rw [ef] at h
  split at h
  case isFalse=>
    obtain⟨rfl,rfl⟩:=Prod.mk.inj h
    exact⟨rfl,Tr.same p m,id,λ _=>Nat.le_add_right _ _⟩
  rename_i hok
  have hi:=yG ef hok
  generalize hy:C0 m.ay.ls (D0 i) default=y at h
  have hg:C0 (u2 m.ay.ls (D0 i) (dK.mk y.aR y.aM y.aS y.dh (E2 y.bV.ls) (E2 y.aG.ls) (E2 y.bD.ls) (E2 y.af.ls) (C5.wrap (y.eO+1)))) (D0 i) default=dK.mk y.aR y.aM y.aS y.dh (E2 y.bV.ls) (E2 y.aG.ls) (E2 y.bD.ls) (E2 y.af.ls) (C5.wrap (y.eO+1)):=by
    rw [L4,T1 hi]; rfl
  rw [hg] at h
  have hs:=Tr.set p m (i:=D0 i) (y:=dK.mk y.aR y.aM y.aS y.dh (E2 y.bV.ls) (E2 y.aG.ls) (E2 y.bD.ls) (E2 y.af.ls) (C5.wrap (y.eO+1))) (by rw [hy])
  have hm:=λ M:Mk m=>M.set (i:=D0 i) (qN (hy ▸ tY M hi) (C5.wrap (y.eO+1)))
  split at h
  . rcases e:fq p i (oh m (D0 i) (dK.mk y.aR y.aM y.aS y.dh (E2 y.bV.ls) (E2 y.aG.ls) (E2 y.bD.ls) (E2 y.af.ls) (C5.wrap (y.eO+1)))) with ⟨d,f⟩
    have e':=e
    unfold oh at e'
    rw [e'] at h
    have ha:=qf (by unfold oh; simp only [H1]; exact hi) e
    obtain⟨rfl,a⟩:=Prod.mk.inj h
    obtain rfl:=oG a (by rw [ha.1]; rfl) (by rw [ha.1]; rfl) (by rw [ha.1]; rfl) rfl
    refine⟨ha.1,hs.trans ha.2.1,λ M=>ha.2.2.1 (hm M),λ M=> ?_⟩
    rw [ha.2.2.2]
    have c:=(tY (hm M) (i:=D0 i) (by unfold oh; simp only [H1]; exact hi)).len
    exact Nat.add_le_add_left c (r8 p.aX.ls+1)
  . obtain⟨rfl,rfl⟩:=Prod.mk.inj h
    obtain⟨q,e,hl,hq⟩:=zf m i y (dK.mk y.aR y.aM y.aS y.dh (E2 y.bV.ls) (E2 y.aG.ls) (E2 y.bD.ls) (E2 y.af.ls) (C5.wrap (y.eO+1))) (r8 y.aG.ls) 0 p.aX.ls
    refine⟨rfl,hs.tells e hq λ k _ _=>List.mem_map.2 ⟨_,D3 (T1 hi),rfl⟩,hm,λ M=> ?_⟩
    show r8 (iw _ _ _ _ _ _ _)<=_
    rw [e,o1]
    have c:=(tY M hi).len
    rw [hy] at c; omega
section
open Go.RowKit
def iG (g:Nat) (m:aA):HP:=Fw (λ x:(Option Addr) × Nat × (Option Addr) × Nat × (List aC) × (Option Addr) × Nat × (List aU) × (Option Addr) × Nat × (List bB) × (Option Addr) × Nat × (List ae) × (Option Addr) × Nat × (List ae) × (Option Addr) × Nat × (List ae) × (Option Addr) × Nat × (List ae) × (Option Addr) × Nat × (List ae)=>s5 aC.abs x.2.2.2.2.1=m.aa.aj.ls/\s5 aU.abs x.2.2.2.2.2.2.2.1=m.aa.aF.ls/\s5 bB.abs x.2.2.2.2.2.2.2.2.2.2.1=m.ay.ls/\s5 ae.abs x.2.2.2.2.2.2.2.2.2.2.2.2.2.1=m.bK.af.ls/\s5 ae.abs x.2.2.2.2.2.2.2.2.2.2.2.2.2.2.2.2.1=m.bA.af.ls/\s5 ae.abs x.2.2.2.2.2.2.2.2.2.2.2.2.2.2.2.2.2.2.2.1=m.bz.af.ls/\s5 ae.abs x.2.2.2.2.2.2.2.2.2.2.2.2.2.2.2.2.2.2.2.2.2.2.1=m.bv.af.ls/\s5 ae.abs x.2.2.2.2.2.2.2.2.2.2.2.2.2.2.2.2.2.2.2.2.2.2.2.2.2=m.bq.af.ls) (λ x=> [mK g m x.1 m.aa.ag.ls.length x.2.1 x.2.2.1 x.2.2.2.1 x.2.2.2.2.2.1 x.2.2.2.2.2.2.1 x.2.2.2.2.2.2.2.2.1 x.2.2.2.2.2.2.2.2.2.1 x.2.2.2.2.2.2.2.2.2.2.2.1 x.2.2.2.2.2.2.2.2.2.2.2.2.1 x.2.2.2.2.2.2.2.2.2.2.2.2.2.2.1 x.2.2.2.2.2.2.2.2.2.2.2.2.2.2.2.1 x.2.2.2.2.2.2.2.2.2.2.2.2.2.2.2.2.2.1 x.2.2.2.2.2.2.2.2.2.2.2.2.2.2.2.2.2.2.1 x.2.2.2.2.2.2.2.2.2.2.2.2.2.2.2.2.2.2.2.2.1 x.2.2.2.2.2.2.2.2.2.2.2.2.2.2.2.2.2.2.2.2.2.1 x.2.2.2.2.2.2.2.2.2.2.2.2.2.2.2.2.2.2.2.2.2.2.2.1 x.2.2.2.2.2.2.2.2.2.2.2.2.2.2.2.2.2.2.2.2.2.2.2.2.1,row x.1 m.aa.ag.ls.length x.2.1 (q3 aY.cells m.aa.ag.ls) 89 2,row x.2.2.1 m.aa.aj.ls.length x.2.2.2.1 (q3 aC.cells x.2.2.2.2.1) 60 5,sepL (q3 aC.own x.2.2.2.2.1),row x.2.2.2.2.2.1 m.aa.aF.ls.length x.2.2.2.2.2.2.1 (q3 aU.cells x.2.2.2.2.2.2.2.1) 56 4,sepL (q3 aU.own x.2.2.2.2.2.2.2.1),row x.2.2.2.2.2.2.2.2.1 m.ay.ls.length x.2.2.2.2.2.2.2.2.2.1 (q3 bB.cells x.2.2.2.2.2.2.2.2.2.2.1) 107 9,sepL (q3 bB.own x.2.2.2.2.2.2.2.2.2.2.1),row x.2.2.2.2.2.2.2.2.2.2.2.1 m.bK.af.ls.length x.2.2.2.2.2.2.2.2.2.2.2.2.1 (q3 ae.cells x.2.2.2.2.2.2.2.2.2.2.2.2.2.1) 149 3,sepL (q3 ae.own x.2.2.2.2.2.2.2.2.2.2.2.2.2.1),row x.2.2.2.2.2.2.2.2.2.2.2.2.2.2.1 m.bA.af.ls.length x.2.2.2.2.2.2.2.2.2.2.2.2.2.2.2.1 (q3 ae.cells x.2.2.2.2.2.2.2.2.2.2.2.2.2.2.2.2.1) 149 3,sepL (q3 ae.own x.2.2.2.2.2.2.2.2.2.2.2.2.2.2.2.2.1),row x.2.2.2.2.2.2.2.2.2.2.2.2.2.2.2.2.2.1 m.bz.af.ls.length x.2.2.2.2.2.2.2.2.2.2.2.2.2.2.2.2.2.2.1 (q3 ae.cells x.2.2.2.2.2.2.2.2.2.2.2.2.2.2.2.2.2.2.2.1) 149 3,sepL (q3 ae.own x.2.2.2.2.2.2.2.2.2.2.2.2.2.2.2.2.2.2.2.1),row x.2.2.2.2.2.2.2.2.2.2.2.2.2.2.2.2.2.2.2.2.1 m.bv.af.ls.length x.2.2.2.2.2.2.2.2.2.2.2.2.2.2.2.2.2.2.2.2.2.1 (q3 ae.cells x.2.2.2.2.2.2.2.2.2.2.2.2.2.2.2.2.2.2.2.2.2.2.1) 149 3,sepL (q3 ae.own x.2.2.2.2.2.2.2.2.2.2.2.2.2.2.2.2.2.2.2.2.2.2.1),row x.2.2.2.2.2.2.2.2.2.2.2.2.2.2.2.2.2.2.2.2.2.2.2.1 m.bq.af.ls.length x.2.2.2.2.2.2.2.2.2.2.2.2.2.2.2.2.2.2.2.2.2.2.2.2.1 (q3 ae.cells x.2.2.2.2.2.2.2.2.2.2.2.2.2.2.2.2.2.2.2.2.2.2.2.2.2) 149 3,sepL (q3 ae.own x.2.2.2.2.2.2.2.2.2.2.2.2.2.2.2.2.2.2.2.2.2.2.2.2.2)])
theorem iZ {w0 w:World} {D:Nat->Prop} {L:List HP} {g:Nat} {m:aA} (H:Own w0 D w (iG g m::L)):∃ (q:Option Addr) (a:Nat) (r:Option Addr) (c1:Nat) (b:List aC) (s:Option Addr) (c2:Nat) (c:List aU) (t:Option Addr) (c3:Nat) (d:List bB) (u:Option Addr) (c4:Nat) (e:List ae) (v:Option Addr) (f:Nat) (h:List ae) (x:Option Addr) (j:Nat) (k:List ae) (y:Option Addr) (l:Nat) (n:List ae) (z:Option Addr) (o:Nat) (p:List ae),s5 aC.abs b=m.aa.aj.ls/\s5 aU.abs c=m.aa.aF.ls/\s5 bB.abs d=m.ay.ls/\s5 ae.abs e=m.bK.af.ls/\s5 ae.abs h=m.bA.af.ls/\s5 ae.abs k=m.bz.af.ls/\s5 ae.abs n=m.bv.af.ls/\s5 ae.abs p=m.bq.af.ls/\(b.length=m.aa.aj.ls.length/\c.length=m.aa.aF.ls.length/\d.length=m.ay.ls.length/\e.length=m.bK.af.ls.length/\h.length=m.bA.af.ls.length/\k.length=m.bz.af.ls.length/\n.length=m.bv.af.ls.length/\p.length=m.bq.af.ls.length/\(m.aa.ag.ls.length<=a/\a<=9223372036854775807)/\(m.aa.aj.ls.length<=c1/\c1<=9223372036854775807)/\(m.aa.aF.ls.length<=c2/\c2<=9223372036854775807)/\(m.ay.ls.length<=c3/\c3<=9223372036854775807)/\(m.bK.af.ls.length<=c4/\c4<=9223372036854775807)/\(m.bA.af.ls.length<=f/\f<=9223372036854775807)/\(m.bz.af.ls.length<=j/\j<=9223372036854775807)/\(m.bv.af.ls.length<=l/\l<=9223372036854775807)/\(m.bq.af.ls.length<=o/\o<=9223372036854775807))/\Own w0 D w (mK g m q m.aa.ag.ls.length a r c1 s c2 t c3 u c4 v f x j y l z o::row q m.aa.ag.ls.length a (q3 aY.cells m.aa.ag.ls) 89 2::row r m.aa.aj.ls.length c1 (q3 aC.cells b) 60 5::sepL (q3 aC.own b)::row s m.aa.aF.ls.length c2 (q3 aU.cells c) 56 4::sepL (q3 aU.own c)::row t m.ay.ls.length c3 (q3 bB.cells d) 107 9::sepL (q3 bB.own d)::row u m.bK.af.ls.length c4 (q3 ae.cells e) 149 3::sepL (q3 ae.own e)::row v m.bA.af.ls.length f (q3 ae.cells h) 149 3::sepL (q3 ae.own h)::row x m.bz.af.ls.length j (q3 ae.cells k) 149 3::sepL (q3 ae.own k)::row y m.bv.af.ls.length l (q3 ae.cells n) 149 3::sepL (q3 ae.own n)::row z m.bq.af.ls.length o (q3 ae.cells p) 149 3::sepL (q3 ae.own p)::L):=by
 obtain⟨⟨q,a,r,c1,b,s,c2,c,t,c3,d,u,c4,e,v,f,h,x,j,k,y,l,n,z,o,p⟩,⟨A,B,C,E,F,G,I,J⟩,H⟩:=Km H
 have H:Own w0 D w (mK g m q m.aa.ag.ls.length a r c1 s c2 t c3 u c4 v f x j y l z o::row q m.aa.ag.ls.length a (q3 aY.cells m.aa.ag.ls) 89 2::row r m.aa.aj.ls.length c1 (q3 aC.cells b) 60 5::sepL (q3 aC.own b)::row s m.aa.aF.ls.length c2 (q3 aU.cells c) 56 4::sepL (q3 aU.own c)::row t m.ay.ls.length c3 (q3 bB.cells d) 107 9::sepL (q3 bB.own d)::row u m.bK.af.ls.length c4 (q3 ae.cells e) 149 3::sepL (q3 ae.own e)::row v m.bA.af.ls.length f (q3 ae.cells h) 149 3::sepL (q3 ae.own h)::row x m.bz.af.ls.length j (q3 ae.cells k) 149 3::sepL (q3 ae.own k)::row y m.bv.af.ls.length l (q3 ae.cells n) 149 3::sepL (q3 ae.own n)::row z m.bq.af.ls.length o (q3 ae.cells p) 149 3::sepL (q3 ae.own p)::L):=H
 refine⟨q,a,r,c1,b,s,c2,c,t,c3,d,u,c4,e,v,f,h,x,j,k,y,l,n,z,o,p,A,B,C,E,F,G,I,J,⟨aB A,aB B,aB C,aB E,aB F,aB G,aB I,aB J,H.rowC (i:=1) rfl,H.rowC (i:=2) rfl,H.rowC (i:=4) rfl,H.rowC (i:=6) rfl,H.rowC (i:=8) rfl,H.rowC (i:=10) rfl,H.rowC (i:=12) rfl,H.rowC (i:=14) rfl,H.rowC (i:=16) rfl⟩,H⟩
theorem fe {w0 w:World} {D:Nat->Prop} {L:List HP} {g:Nat} {y0:Int} {y1:Nat} {y2:Nat} {y3:Nat} {f:List aY} {B:List bH} {C:List eD} {y7:Nat} {E:List dK} {y9:Bool} {h:Nat} {i:Int} {a:List aQ} {j:Bool} {k:Nat} {l:Int} {b:List aQ} {m:Bool} {n:Nat} {o:Int} {c:List aQ} {p:Bool} {q:Nat} {r:Int} {d:List aQ} {s:Bool} {t:Nat} {u:Int} {e:List aQ} {v:Nat} {x:Nat} {y:Nat} {z:Nat} {A:Nat} {P:Option Addr} {Q:Nat} {R:Option Addr} {c1:Nat} {F:List aC} {S:Option Addr} {c2:Nat} {G:List aU} {T:Option Addr} {c3:Nat} {I:List bB} {U:Option Addr} {c4:Nat} {J:List ae} {V:Option Addr} {W:Nat} {K:List ae} {X:Option Addr} {Y:Nat} {M:List ae} {Z:Option Addr} {c7:Nat} {N:List ae} {A8:Option Addr} {c8:Nat} {O:List ae} (ax:s5 aC.abs F=B) (ay:s5 aU.abs G=C) (az:s5 bB.abs I=E) (aB:s5 ae.abs J=a) (aD:s5 ae.abs K=b) (aF:s5 ae.abs M=c) (aG:s5 ae.abs N=d) (aH:s5 ae.abs O=e) (H:Own w0 D w (blk g [.int .i64 y0, .int .u64 ((y1:Nat):Int), .int .u64 ((y2:Nat):Int), .int .u64 ((y3:Nat):Int), .slice P f.length Q, .slice R B.length c1, .slice S C.length c2, .int .u64 ((y7:Nat):Int), .slice T E.length c3, .bool y9, .int .u64 ((h:Nat):Int), .int .i64 i, .slice U a.length c4, .bool j, .int .u64 ((k:Nat):Int), .int .i64 l, .slice V b.length W, .bool m, .int .u64 ((n:Nat):Int), .int .i64 o, .slice X c.length Y, .bool p, .int .u64 ((q:Nat):Int), .int .i64 r, .slice Z d.length c7, .bool s, .int .u64 ((t:Nat):Int), .int .i64 u, .slice A8 e.length c8, .int .u64 ((v:Nat):Int), .int .u64 ((x:Nat):Int), .int .u64 ((y:Nat):Int), .int .u64 ((z:Nat):Int), .int .u64 ((A:Nat):Int), .pointer none] 86::row P f.length Q (q3 aY.cells f) 89 2::row R B.length c1 (q3 aC.cells F) 60 5::sepL (q3 aC.own F)::row S C.length c2 (q3 aU.cells G) 56 4::sepL (q3 aU.own G)::row T E.length c3 (q3 bB.cells I) 107 9::sepL (q3 bB.own I)::row U a.length c4 (q3 ae.cells J) 149 3::sepL (q3 ae.own J)::row V b.length W (q3 ae.cells K) 149 3::sepL (q3 ae.own K)::row X c.length Y (q3 ae.cells M) 149 3::sepL (q3 ae.own M)::row Z d.length c7 (q3 ae.cells N) 149 3::sepL (q3 ae.own N)::row A8 e.length c8 (q3 ae.cells O) 149 3::sepL (q3 ae.own O)::L)):Own w0 D w (iG g (aA.mk (cZ.mk y0 y1 y2 y3 (E2 f) (E2 B) (E2 C)) y7 (E2 E) (df.mk y9 h i (E2 a)) (df.mk j k l (E2 b)) (df.mk m n o (E2 c)) (df.mk p q r (E2 d)) (df.mk s t u (E2 e)) v x y z A)::L):=
 Ko (P,Q,R,c1,F,S,c2,G,T,c3,I,U,c4,J,V,W,K,X,Y,M,Z,c7,N,A8,c8,O) ⟨ax,ay,az,aB,aD,aF,aG,aH⟩ (show Own w0 D w ([blk g [vI y0,vU y1,vU y2,vU y3, .slice P f.length Q, .slice R B.length c1, .slice S C.length c2,vU y7, .slice T E.length c3, .bool y9,vU h,vI i, .slice U a.length c4, .bool j,vU k,vI l, .slice V b.length W, .bool m,vU n,vI o, .slice X c.length Y, .bool p,vU q,vI r, .slice Z d.length c7, .bool s,vU t,vI u, .slice A8 e.length c8,vU v,vU x,vU y,vU z,vU A, .pointer none] 86,row P f.length Q (q3 aY.cells f) 89 2,row R B.length c1 (q3 aC.cells F) 60 5,sepL (q3 aC.own F),row S C.length c2 (q3 aU.cells G) 56 4,sepL (q3 aU.own G),row T E.length c3 (q3 bB.cells I) 107 9,sepL (q3 bB.own I),row U a.length c4 (q3 ae.cells J) 149 3,sepL (q3 ae.own J),row V b.length W (q3 ae.cells K) 149 3,sepL (q3 ae.own K),row X c.length Y (q3 ae.cells M) 149 3,sepL (q3 ae.own M),row Z d.length c7 (q3 ae.cells N) 149 3,sepL (q3 ae.own N),row A8 e.length c8 (q3 ae.cells O) 149 3,sepL (q3 ae.own O)]++L) from H)
theorem zg {w0 w:World} {D:Nat->Prop} {L:List HP} {g:Nat} {m r:aA} (e:m=r) (H:Own w0 D w (iG g m::L)):Own w0 D w (iG g r::L):=e ▸ H
theorem Bh {r:aA} {o:List aY} {d:List bH} {l:List eD} {a:List dK} {b c e f g:List aQ} (h:r.aa.ag.ls=o) (i:r.aa.aj.ls=d) (j:r.aa.aF.ls=l) (k:r.ay.ls=a) (m:r.bK.af.ls=b) (n:r.bA.af.ls=c) (k2:r.bz.af.ls=e) (p:r.bv.af.ls=f) (q:r.bq.af.ls=g):
    aA.mk (cZ.mk r.aa.au r.aa.av r.aa.aV r.aa.aL (E2 o) (E2 d) (E2 l)) r.bP (E2 a) (df.mk r.bK.cO r.bK.aS r.bK.dA (E2 b)) (df.mk r.bA.cO r.bA.aS r.bA.dA (E2 c)) (df.mk r.bz.cO r.bz.aS r.bz.dA (E2 e)) (df.mk r.bv.cO r.bv.aS r.bv.dA (E2 f)) (df.mk r.bq.cO r.bq.aS r.bq.dA (E2 g)) r.dP r.dH r.dI r.dG r.dJ=r:=by
 subst h i j k m n k2 p q; rfl
theorem uQ (w D g0) (V:bI) (n o g) (a:bL) (p F h q G j k r I l e) (b:aA) (W:bI) (r1:aA) (H:Own w D w [blk g0 [.pointer (some ⟨e,0,none⟩), .slice n V.aX.ls.length o] 98,row n V.aX.ls.length o (q3 bf.cells g) 42 21,sepL (q3 bf.own g),iG e b]) (s:s5 bf.abs g=V.aX.ls) (P:F=a.aH.ls.length) (Q:Ro w D λ w'=>bE w' 6 p a.aH.ls.length (q3 bi.cells a.aH.ls)) (aG:a.aH.ls.length<=h/\a.aH.ls.length<=9223372036854775807) (t:s5 ae.abs k=a.ai.ls) (R:G=a.ai.ls.length) (S:Ro w D λ w'=>bE w' 3 q a.ai.ls.length (q3 ae.cells k)) (aH:a.ai.ls.length<=j/\a.ai.ls.length<=9223372036854775807) (u:∀ x ∈ k,Ro w D (λ w'=>bE w' 2 x.ak.A x.ak.ls.length (q3 aI.cells x.ak.ls))/\(x.ak.ls.length<=x.ak.c/\x.ak.ls.length<=9223372036854775807)) (T:I=a.ag.ls.length) (U:Ro w D λ w'=>bE w' 2 r a.ag.ls.length (q3 aY.cells a.ag.ls)) (aJ:a.ag.ls.length<=l/\a.ag.ls.length<=9223372036854775807) (dA:b.aa.ag.ls.length<=1000/\b.aa.aj.ls.length<=1000/\b.aa.aF.ls.length<=1000/\b.ay.ls.length<=1000/\V.aX.ls.length<=100000) (dB:Mk b) (dC:b.bK.af.ls.length<=1000/\b.bA.af.ls.length<=1000/\b.bz.af.ls.length<=1000/\b.bv.af.ls.length<=1000/\b.bq.af.ls.length<=1000) (dD:11<=a.aJ/\a.aJ<=14) (dE:a.aH.ls.length<=24/\a.ag.ls.length<=1000/\a.ai.ls.length<=1000/\ky a.aP) (hr:ji V a b=(W,r1)):
    Calls v8 56 #[vP g0 0, .agg (gU a.aD a.aJ a.fI a.aK a.dz a.eH a.aP a.av a.aN a.dY a.aV a.aL a.dL a.cu a.xN a.cz a.bU.bF a.bU.bT p F h q G j r I l).toArray] w (d9 λ v w'=> ∃ y z f,v= .tuple #[]/\Own w D w' [blk g0 [vP e 0, .slice y W.aX.ls.length z] 98,row y W.aX.ls.length z (q3 bf.cells f) 42 21,sepL (q3 bf.own f),iG e r1]/\(s5 bf.abs f=W.aX.ls)):=by
 subst P R T
 have aC:=aB s
 have aD:=aB t
 have aK:=zr 1 H
 have aL:=H.pf [3]
 obtain⟨aM,aN,aO,aP,aQ,aR,aS,aT,aU,aV,aW,aX,aZ,bg,bn,bq,bu,bv,bz,bA,bB,bC,bD,bF,bG,bH,X,Y,Z,aa,af,ag,ah,ai,di,bJ⟩:=iZ aL
 have bK:=bJ.pf [18,19,20]
 obtain⟨dF,aj,m,ak,dm⟩:=I6 bK
 refine(uP _ _ g0 V n o g a p a.aH.ls.length h q a.ai.ls.length j k r a.ag.ls.length l e b aM aN aO aP aQ aR aS aT aU aV aW aX aZ bg bn bq bu bv bz bA bB bC bD bF bG bH W r1 aj s rfl (m _ Q) e6 t rfl (m _ S) e6 (λ x9 h9=>⟨m _ (u x9 h9).1,(u x9 h9).2⟩) rfl (m _ U) e6 X Y Z aa af ag ah ai e8 f5 j9 e8 e8 hr).mono ?_
 rintro _ dG ⟨_,rfl,bM,bN,bO,dH,dI,dJ,dK,dL,dM,dN,dO,dP,dQ,dR,dS,dU,dV,dW,dX,dY,dZ,ed,ek,eu,eB,dx,eD,eF,dz,rfl,au,J,K,L,M,N,O,B,C,E⟩
 have d:=ak _ _ au
 have bP:=aB J
 have bQ:=aB K
 have bR:=aB L
 have bS:=aB M
 have bT:=aB N
 have bU:=aB O
 have bV:=aB B
 have bW:=aB C
 have bX:=aB E
 have bY:=zr 1 d
 have bZ:=zr 4 d
 have cu:=zr 5 d
 have cz:=zr 7 d
 have cB:=zr 9 d
 have cK:=zr 11 d
 have cO:=zr 13 d
 have cZ:=zr 15 d
 have df:=zr 17 d
 have dh:=zr 19 d
 have av:=d.pb [0,1,2]
 have ax:=fe K L M N O B C E av
 have ay:=ax.pb [0]
 exact⟨_,rfl,bM,bN,bO,rfl,ay,J⟩
theorem wK (w D g0) (V:bI) (n o g) (a:bL) (p F h q G j k r I l e) (b:aA) (W:bI) (r1:aA) (H:Own w D w [blk g0 [.pointer (some ⟨e,0,none⟩), .slice n V.aX.ls.length o] 98,row n V.aX.ls.length o (q3 bf.cells g) 42 21,sepL (q3 bf.own g),iG e b]) (s:s5 bf.abs g=V.aX.ls) (P:F=a.aH.ls.length) (Q:Ro w D λ w'=>bE w' 6 p a.aH.ls.length (q3 bi.cells a.aH.ls)) (aH:a.aH.ls.length<=h/\a.aH.ls.length<=9223372036854775807) (t:s5 ae.abs k=a.ai.ls) (R:G=a.ai.ls.length) (S:Ro w D λ w'=>bE w' 3 q a.ai.ls.length (q3 ae.cells k)) (aJ:a.ai.ls.length<=j/\a.ai.ls.length<=9223372036854775807) (u:∀ x ∈ k,Ro w D (λ w'=>bE w' 2 x.ak.A x.ak.ls.length (q3 aI.cells x.ak.ls))/\(x.ak.ls.length<=x.ak.c/\x.ak.ls.length<=9223372036854775807)) (T:I=a.ag.ls.length) (U:Ro w D λ w'=>bE w' 2 r a.ag.ls.length (q3 aY.cells a.ag.ls)) (aK:a.ag.ls.length<=l/\a.ag.ls.length<=9223372036854775807) (dA:b.aa.ag.ls.length<=1000/\b.aa.aj.ls.length<=1000/\b.aa.aF.ls.length<=1000/\b.ay.ls.length<=1000/\V.aX.ls.length<=100000) (dB:Ak b.ay.ls) (dC:a.aH.ls.length<=24/\a.ag.ls.length<=1000/\a.ai.ls.length<=1000/\ky a.aP) (dD:nI a.ai.ls) (hr:kg V a b=(W,r1)):
    Calls v8 57 #[vP g0 0, .agg (gU a.aD a.aJ a.fI a.aK a.dz a.eH a.aP a.av a.aN a.dY a.aV a.aL a.dL a.cu a.xN a.cz a.bU.bF a.bU.bT p F h q G j r I l).toArray] w (d9 λ v w'=> ∃ y z f,v= .tuple #[]/\Own w D w' [blk g0 [vP e 0, .slice y W.aX.ls.length z] 98,row y W.aX.ls.length z (q3 bf.cells f) 42 21,sepL (q3 bf.own f),iG e r1]/\(s5 bf.abs f=W.aX.ls)):=by
 subst P R T
 have aD:=aB s
 have aF:=aB t
 have aL:=zr 1 H
 have aM:=H.pf [3]
 obtain⟨aN,aO,aP,aQ,aR,aS,aT,aU,aV,aW,aX,aZ,bg,bn,bq,bu,bv,bz,bA,bB,bC,bD,bF,bG,bH,bJ,X,Y,Z,aa,af,ag,ah,ai,di,bK⟩:=iZ aM
 have bM:=bK.px [18,19,20] [] [1]
 obtain⟨dE,aj,m,ak,dm⟩:=JI bM
 refine(wH _ _ g0 V n o g a p a.aH.ls.length h q a.ai.ls.length j k r a.ag.ls.length l e b aN aO aP aQ aR aS aT aU aV aW aX aZ bg bn bq bu bv bz bA bB bC bD bF bG bH bJ W r1 aj s rfl (m _ Q) e6 t rfl (m _ S) e6 (λ x9 h9=>⟨m _ (u x9 h9).1,(u x9 h9).2⟩) rfl (m _ U) e6 X Y Z aa af ag ah ai e8 f8 e8 f5 hr).mono ?_
 rintro _ dF ⟨_,rfl,bN,bO,bP,dG,dH,dI,dJ,dK,dL,dM,dN,dO,dP,dQ,dR,dS,dU,dV,dW,dX,dY,dZ,ed,dx,ek,eu,dz,rfl,au,J,K,L,M,N,O,B,C,E⟩
 have d:=ak _ _ au
 have bQ:=aB J
 have bR:=aB K
 have bS:=aB L
 have bT:=aB M
 have bU:=aB N
 have bV:=aB O
 have bW:=aB B
 have bX:=aB C
 have bY:=aB E
 have bZ:=zr 1 d
 have cu:=zr 4 d
 have cz:=zr 6 d
 have cB:=zr 8 d
 have cK:=zr 10 d
 have cO:=zr 12 d
 have cZ:=zr 14 d
 have df:=zr 16 d
 have dh:=zr 18 d
 have av:=d.px [3,20] [] [0,1,2]
 have ax:=fe K L M N O B C E av
 have ay:=zg (Bh (zB hr).1.own rfl rfl rfl rfl rfl rfl rfl rfl) ax
 have az:=ay.pb [0]
 exact⟨_,rfl,bN,bO,bP,rfl,az,J⟩
theorem xk (w D g0) (O:bI) (m n f) (a:bL) (o z g p B h j q C k d) (b:aA) (P:bI) (r1:aA) (H:Own w D w [blk g0 [.pointer (some ⟨d,0,none⟩), .slice m O.aX.ls.length n] 98,row m O.aX.ls.length n (q3 bf.cells f) 42 21,sepL (q3 bf.own f),iG d b]) (r:s5 bf.abs f=O.aX.ls) (G:z=a.aH.ls.length) (I:Ro w D λ w'=>bE w' 6 o a.aH.ls.length (q3 bi.cells a.aH.ls)) (aj:a.aH.ls.length<=g/\a.aH.ls.length<=9223372036854775807) (s:s5 ae.abs j=a.ai.ls) (J:B=a.ai.ls.length) (K:Ro w D λ w'=>bE w' 3 p a.ai.ls.length (q3 ae.cells j)) (ak:a.ai.ls.length<=h/\a.ai.ls.length<=9223372036854775807) (t:∀ x ∈ j,Ro w D (λ w'=>bE w' 2 x.ak.A x.ak.ls.length (q3 aI.cells x.ak.ls))/\(x.ak.ls.length<=x.ak.c/\x.ak.ls.length<=9223372036854775807)) (L:C=a.ag.ls.length) (M:Ro w D λ w'=>bE w' 2 q a.ag.ls.length (q3 aY.cells a.ag.ls)) (au:a.ag.ls.length<=k/\a.ag.ls.length<=9223372036854775807) (bJ:b.aa.ag.ls.length<=1000/\b.aa.aj.ls.length<=1000/\b.aa.aF.ls.length<=1000/\b.ay.ls.length<=1000/\O.aX.ls.length<=100000) (bK:Dk b.aa.aj.ls) (hr:mf O a b=(P,r1)):
    Calls v8 58 #[vP g0 0, .agg (gU a.aD a.aJ a.fI a.aK a.dz a.eH a.aP a.av a.aN a.dY a.aV a.aL a.dL a.cu a.xN a.cz a.bU.bF a.bU.bT o z g p B h q C k).toArray] w (d9 λ v w'=> ∃ u y e,v= .tuple #[]/\Own w D w' [blk g0 [vP d 0, .slice u P.aX.ls.length y] 98,row u P.aX.ls.length y (q3 bf.cells e) 42 21,sepL (q3 bf.own e),iG d r1]/\(s5 bf.abs e=P.aX.ls)):=by
 subst G J L
 have ag:=aB r
 have ah:=aB s
 have av:=zr 1 H
 have ax:=H.pf [3]
 obtain⟨ay,az,aC,aD,aF,aG,aH,bM,aJ,aK,bN,aL,aM,bO,aN,aO,bP,aP,aQ,bQ,aR,aS,bR,aT,aU,bS,Q,R,S,T,U,V,W,X,bz,aV⟩:=iZ ax
 have aW:=aV.pf [18,19,20,0,2,3]
 obtain⟨bT,Y,l,Z,bA⟩:=Kr aW
 refine(xh _ _ g0 O m n f a o a.aH.ls.length g p a.ai.ls.length h j q a.ag.ls.length k d b ay az aC aD aF aG aH aJ aK aL aM aN aO aP aQ aR aS aT aU P r1 Y r rfl (l _ I) e6 s rfl (l _ K) e6 (λ x9 h9=>⟨l _ (t x9 h9).1,(t x9 h9).2⟩) rfl (l _ M) e6 Q e8 j8 hr).mono ?_
 rintro _ bU ⟨_,rfl,aX,aZ,bg,bV,bW,bX,rfl,aa,E,F⟩
 have N:=Z _ _ aa
 have bD:=aB E
 have bF:=aB F
 have bG:=zr 1 N
 have bH:=zr 4 N
 have bn:=N.px [3,6] [] [0,1,2]
 have bq:=fe F R S T U V W X bn
 have bu:=zg (Bh (by obtain⟨⟨_,rfl⟩,_⟩:=pg hr; rfl) rfl (by obtain⟨⟨_,rfl⟩,_⟩:=pg hr; rfl) (by obtain⟨⟨_,rfl⟩,_⟩:=pg hr; rfl) (by obtain⟨⟨_,rfl⟩,_⟩:=pg hr; rfl) (by obtain⟨⟨_,rfl⟩,_⟩:=pg hr; rfl) (by obtain⟨⟨_,rfl⟩,_⟩:=pg hr; rfl) (by obtain⟨⟨_,rfl⟩,_⟩:=pg hr; rfl) (by obtain⟨⟨_,rfl⟩,_⟩:=pg hr; rfl)) bq
 have bv:=bu.pb [0]
 exact⟨_,rfl,aX,aZ,bg,rfl,bv,E⟩
theorem xm (w D g0) (U:bI) (q r k) (a:bL) (s I l t J m n u K o h) (b:aA) (V:bI) (H:Own w D w [blk g0 [.pointer (some ⟨h,0,none⟩), .slice q U.aX.ls.length r] 98,row q U.aX.ls.length r (q3 bf.cells k) 42 21,sepL (q3 bf.own k),iG h b]) (y:s5 bf.abs k=U.aX.ls) (O:I=a.aH.ls.length) (P:Ro w D λ w'=>bE w' 6 s a.aH.ls.length (q3 bi.cells a.aH.ls)) (aC:a.aH.ls.length<=l/\a.aH.ls.length<=9223372036854775807) (z:s5 ae.abs n=a.ai.ls) (Q:J=a.ai.ls.length) (R:Ro w D λ w'=>bE w' 3 t a.ai.ls.length (q3 ae.cells n)) (aD:a.ai.ls.length<=m/\a.ai.ls.length<=9223372036854775807) (B:∀ x ∈ n,Ro w D (λ w'=>bE w' 2 x.ak.A x.ak.ls.length (q3 aI.cells x.ak.ls))/\(x.ak.ls.length<=x.ak.c/\x.ak.ls.length<=9223372036854775807)) (S:K=a.ag.ls.length) (T:Ro w D λ w'=>bE w' 2 u a.ag.ls.length (q3 aY.cells a.ag.ls)) (aF:a.ag.ls.length<=o/\a.ag.ls.length<=9223372036854775807) (bP:b.aa.ag.ls.length<=1000/\b.aa.aj.ls.length<=1000/\b.aa.aF.ls.length<=1000/\b.ay.ls.length<=1000/\U.aX.ls.length<=100000) (hr:lH U a b=V):
    Calls v8 59 #[vP g0 0, .agg (gU a.aD a.aJ a.fI a.aK a.dz a.eH a.aP a.av a.aN a.dY a.aV a.aL a.dL a.cu a.xN a.cz a.bU.bF a.bU.bT s I l t J m u K o).toArray] w (d9 λ v w'=> ∃ C E j,v= .tuple #[]/\Own w D w' [blk g0 [vP h 0, .slice C V.aX.ls.length E] 98,row C V.aX.ls.length E (q3 bf.cells j) 42 21,sepL (q3 bf.own j),iG h b]/\(s5 bf.abs j=V.aX.ls)):=by
 subst O Q S
 have ay:=aB y
 have az:=aB z
 have aG:=zr 1 H
 have aH:=H.pf [3]
 obtain⟨aJ,aK,aL,W,aM,aN,aP,bQ,aQ,X,aR,aS,aT,bR,aU,aV,bS,aX,bg,bT,bn,bq,bU,bu,bv,bV,L,Y,M,Z,aa,af,ag,ah,bH,bz⟩:=iZ aH
 have e:=bz.pf [18,19,20]
 have bJ:=zr 5 e
 have bK:=zr 9 e
 obtain⟨bW,ai,p,aj,d⟩:=I5 e
 refine(xg _ _ g0 U q r k a s a.aH.ls.length l t a.ai.ls.length m n u a.ag.ls.length o h b aJ aK aL W aM aN aP aQ X aR aS aT aU aV aX bg bn bq bu bv V ai y rfl (p _ P) e6 z rfl (p _ R) e6 (λ f g=>⟨p _ (B f g).1,(B f g).2⟩) rfl (p _ T) e6 L (d _ 1 _ rfl aO) e6 (λ f g=>⟨d _ 2 _ rfl (ax (Q3.2 ⟨f,g,b1⟩) aO),aZ (φ:=λ _=>_) e (i:=6) rfl (ax (Q3.2 ⟨f,g,b1⟩) aW)⟩) M (d _ 5 _ rfl aO) e6 (λ f g=>⟨d _ 6 _ rfl (ax (Q3.2 ⟨f,g,b1⟩) aO),aZ (φ:=λ _=>_) e (i:=10) rfl (ax (Q3.2 ⟨f,g,b1⟩) aW),d _ 6 _ rfl (ax (Q3.2 ⟨f,g, .tail _ b1⟩) aO),aZ (φ:=λ _=>_) e (i:=10) rfl (ax (Q3.2 ⟨f,g, .tail _ b1⟩) aW),(λ F G=>⟨d _ 6 _ rfl (ax (Q3.2 ⟨f,g, .tail _ b4⟩) (ax (Q3.2 ⟨F,G,b1⟩) aO)),aZ (φ:=λ _=>_) e (i:=10) rfl (ax (Q3.2 ⟨f,g, .tail _ b4⟩) (ax (Q3.2 ⟨F,G,b1⟩) aW)),d _ 6 _ rfl (ax (Q3.2 ⟨f,g, .tail _ b4⟩) (ax (Q3.2 ⟨F,G, .tail _ b1⟩) aO)),aZ (φ:=λ _=>_) e (i:=10) rfl (ax (Q3.2 ⟨f,g, .tail _ b4⟩) (ax (Q3.2 ⟨F,G, .tail _ b1⟩) aW))⟩),d _ 6 _ rfl (ax (Q3.2 ⟨f,g, .tail _ b2⟩) aO),aZ (φ:=λ _=>_) e (i:=10) rfl (ax (Q3.2 ⟨f,g, .tail _ b2⟩) aW),d _ 6 _ rfl (ax (Q3.2 ⟨f,g, .tail _ b3⟩) aO),aZ (φ:=λ _=>_) e (i:=10) rfl (ax (Q3.2 ⟨f,g, .tail _ b3⟩) aW),(λ F G=>⟨d _ 6 _ rfl (ax (Q3.2 ⟨f,g, .tail _ b5⟩) (ax (Q3.2 ⟨F,G,b1⟩) aO)),aZ (φ:=λ _=>_) e (i:=10) rfl (ax (Q3.2 ⟨f,g, .tail _ b5⟩) (ax (Q3.2 ⟨F,G,b1⟩) aW)),(λ y2 k2=>⟨d _ 6 _ rfl (ax (Q3.2 ⟨f,g, .tail _ b5⟩) (ax (Q3.2 ⟨F,G, .tail _ b1⟩) (ax (Q3.2 ⟨y2,k2,b1⟩) aO))),aZ (φ:=λ _=>_) e (i:=10) rfl (ax (Q3.2 ⟨f,g, .tail _ b5⟩) (ax (Q3.2 ⟨F,G, .tail _ b1⟩) (ax (Q3.2 ⟨y2,k2,b1⟩) aW)))⟩)⟩)⟩) e8 hr).mono ?_
 rintro _ bX ⟨_,rfl,bA,bB,bC,rfl,ak,N⟩
 have au:=aj _ _ ak
 have bN:=aB N
 have bO:=zr 1 au
 have bD:=au.pb [0,1,2]
 have bF:=fe L Y M Z aa af ag ah bD
 have bG:=bF.pb [0]
 exact⟨_,rfl,bA,bB,bC,rfl,bG,N⟩
theorem wL (w D Q) (x:bI) (f g e S b) (a:aA) (y:bI) (T:aA) (H:Own w D w [blk Q [.pointer (some ⟨b,0,none⟩), .slice f x.aX.ls.length g] 98,row f x.aX.ls.length g (q3 bf.cells e) 42 21,sepL (q3 bf.own e),iG b a]) (h:s5 bf.abs e=x.aX.ls) (bF:a.aa.ag.ls.length<=1000/\a.aa.aj.ls.length<=1000/\a.aa.aF.ls.length<=1000/\a.ay.ls.length<=1000/\x.aX.ls.length<=100000) (bG:Ak a.ay.ls) (hr:jJ x S a=(y,T)):
    Calls v8 26 #[vP Q 0,vU S] w (d9 λ v w'=> ∃ j k d,v= .tuple #[]/\Own w D w' [blk Q [vP b 0, .slice j y.aX.ls.length k] 98,row j y.aX.ls.length k (q3 bf.cells d) 42 21,sepL (q3 bf.own d),iG b T]/\(s5 bf.abs d=y.aX.ls)):=by
 have R:=aB h
 have U:=zr 1 H
 have V:=H.pf [3]
 obtain⟨W,X,Y,z,Z,aa,ae,bH,af,ag,ah,ai,aj,ak,au,av,ay,az,aC,aD,aF,aG,aH,aI,aJ,aK,m,A,B,C,E,F,G,I,bz,aL⟩:=iZ V
 have u:=aL.px [18,19,20] [] [1,2,3,4,5]
 have bA:=zr 17 u
 obtain⟨bJ,J,bB,K,n⟩:=Jg u
 refine(wI _ _ Q x f g e S b a W X Y z Z aa ae af ag ah ai aj ak au av ay az aC aD aF aG aH aI aJ aK y T J h m (n _ 1 _ rfl aO) e6 (λ x9 h9=>⟨n _ 2 _ rfl (ax (Q3.2 ⟨x9,h9,b1⟩) aO),aZ (φ:=λ _=>_) u (i:=18) rfl (ax (Q3.2 ⟨x9,h9,b1⟩) aW)⟩) B C E F G I e8 f8 hr).mono ?_
 rintro _ bK ⟨_,rfl,aM,aN,aP,bL,bM,bN,bO,bP,bQ,bR,bS,bT,bU,bV,bW,bX,bY,bZ,cu,cz,bE,rfl,L,o,p,q,r,s,t,l⟩
 have c:=K _ _ L
 have aQ:=aB o
 have aR:=aB p
 have aS:=aB q
 have aT:=aB r
 have aU:=aB s
 have aV:=aB t
 have aX:=aB l
 have aY:=zr 1 c
 have bg:=zr 4 c
 have bi:=zr 6 c
 have bn:=zr 8 c
 have bq:=zr 10 c
 have bu:=zr 12 c
 have bv:=zr 14 c
 have M:=c.px [3,16,17,18,19,20] [] [0,1,2]
 have N:=fe m A p q r s t l M
 have O:=zg (Bh (by rw [(uq hr).1]) (by rw [(uq hr).1]) (by rw [(uq hr).1]) rfl rfl rfl rfl rfl rfl) N
 have P:=O.pb [0]
 exact⟨_,rfl,aM,aN,aP,rfl,P,o⟩
end
open _root_.Go.Proofs.Tryz renaming sizeOf28->N7
section
open Go.RowKit
def iR (c:bI) (b:bL) (a:aA):bI × aA:=
 if b.aD=1 then bnd (ji c b a) λ d=>(d.1,d.2) else if b.aD=4 then bnd (kg c b a) λ e=>(e.1,e.2) else if b.aD=6 then bnd (mf c b a) λ f=>(f.1,f.2) else if b.aD=7 then bnd (lH c b a) λ g=>(g,a) else if b.aD=9 then if b.aJ=1 then(c,(aA.mk a.aa a.bP (E2 a.ay.ls) a.bK a.bA a.bz a.bv a.bq a.dP (max a.dH b.aV) a.dI a.dG a.dJ)) else if b.aJ=2 then(c,(aA.mk a.aa a.bP (E2 a.ay.ls) a.bK a.bA a.bz a.bv a.bq a.dP a.dH (max a.dI b.aV) a.dG a.dJ)) else if b.aJ=3 then(c,(aA.mk a.aa a.bP (E2 a.ay.ls) a.bK a.bA a.bz a.bv a.bq a.dP a.dH a.dI (max a.dG b.aV) a.dJ)) else(c,(aA.mk a.aa a.bP (E2 a.ay.ls) a.bK a.bA a.bz a.bv a.bq a.dP a.dH a.dI a.dG (max a.dJ b.aV))) else if b.aD=13 then(c,a) else if b.aD=14 then(c,a) else(c,a)
theorem sF (w D U) (I:bI) (r s p) (b:bL) (j aC f l aD g C m aF h d) (a:aA) (r0:bI) (r1:aA) (H:Own w D w [blk U [.pointer (some ⟨d,0,none⟩), .slice r I.aX.ls.length s] 98,row r I.aX.ls.length s (q3 bf.cells p) 42 21,sepL (q3 bf.own p),iG d a]) (n:List.map bf.abs p=I.aX.ls) (aQ:aC=b.aH.ls.length) (J:Ro w D λ w'=>bE w' 6 j b.aH.ls.length (q3 bi.cells b.aH.ls)) (ek:b.aH.ls.length<=f/\b.aH.ls.length<=9223372036854775807) (E:List.map ae.abs C=b.ai.ls) (aR:aD=b.ai.ls.length) (K:Ro w D λ w'=>bE w' 3 l b.ai.ls.length (q3 ae.cells C)) (eu:b.ai.ls.length<=g/\b.ai.ls.length<=9223372036854775807) (t:∀ x ∈ C,Ro w D (λ w'=>bE w' 2 x.ak.A x.ak.ls.length (q3 aI.cells x.ak.ls))/\(x.ak.ls.length<=x.ak.c/\x.ak.ls.length<=9223372036854775807)) (aS:aF=b.ag.ls.length) (L:Ro w D λ w'=>bE w' 2 m b.ag.ls.length (q3 aY.cells b.ag.ls)) (eB:b.ag.ls.length<=h/\b.ag.ls.length<=9223372036854775807) (j5:a.aa.ag.ls.length<=1000/\a.aa.aj.ls.length<=1000/\a.aa.aF.ls.length<=1000/\a.ay.ls.length<=1000/\I.aX.ls.length<=100000) (j6:Mk a) (ko:b.aH.ls.length<=24/\b.ag.ls.length<=1000/\b.ai.ls.length<=1000/\ky b.aP) (kr:nI b.ai.ls) (ku:(¬ (b.aD=1)\/11<=b.aJ/\b.aJ<=14)/\(¬ (b.aD=9)\/1<=b.aJ/\b.aJ<=4)) (hr:iR I b a=(r0,r1)):
    Calls Tryz.prog 24 #[vP U 0, .agg (gU b.aD b.aJ b.fI b.aK b.dz b.eH b.aP b.av b.aN b.dY b.aV b.aL b.dL b.cu b.xN b.cz b.bU.bF b.bU.bT j aC f l aD g m aF h).toArray] w (d9 λ v w'=> ∃ ak au W,v= .tuple #[]/\Own w D w' [blk U [vP d 0, .slice ak r0.aX.ls.length au] 98,row ak r0.aX.ls.length au (q3 bf.cells W) 42 21,sepL (q3 bf.own W),iG d r1]/\(List.map bf.abs W=r0.aX.ls)):=by
 unfold iR at hr
 subst aQ aR aS
 have dZ:=aB n
 have ed:=aB E
 have eD:=zr 1 H
 refine cb Tryz.func24 ?_
 refine sr ?_
 refine dV (iH b j f l g m h) 42 H ?_
 intro X kv u
 refine ns (Kz (vP X 0) (Lz (vI b.aD) u 0 C4 (nt (bo (sr (Kz (.bool (decide (b.aD=1))) (An rfl ?_)))))))
 by_cases z:b.aD=1
 refine jT (dT z) (Ib (Mz rfl (La (iH b j f l g m h) u 0 N5 N6 ?_)))
 have eF:=u.pb [0]
 obtain⟨⟨bF,bG⟩,aG⟩:∃ q:bI × aA,ji I b a=q:=⟨_,rfl⟩
 obtain⟨kw,bH,Y,bJ,fK⟩:=I5 eF
 refine cl Tryz.call56 (uQ _ _ U I r s p b j b.aH.ls.length f l b.ai.ls.length g C m b.ag.ls.length h d a bF bG bH n rfl (Y _ J) e6 E rfl (Y _ K) e6 (λ x9 h9=>⟨Y _ (t x9 h9).1,(t x9 h9).2⟩) rfl (Y _ L) e6 e8 f5 j9 e8 e8 aG) ?_
 rintro _ kz ⟨eG,eH,eO,rfl,bK,aH⟩
 have bM:=bJ _ _ bK
 have fM:=aB aH
 have fO:=zr 1 bM
 refine C6 (bN (IA (res0 rfl) ?_))
 have eP:=bM.px [] [4] []
 obtain⟨rfl,rfl⟩:=ic (zj hr zq2)
 exact⟨eG,eH,eO,rfl,eP,aH⟩
 refine jF (dF z) (sr (Kz (.bool (decide (b.aD=4))) (An rfl ?_)))
 by_cases B:b.aD=4
 refine jT (dT B) (Ib (Mz rfl (La (iH b j f l g m h) u 0 N5 N6 ?_)))
 have eQ:=u.pb [0]
 obtain⟨⟨bO,bP⟩,aJ⟩:∃ q:bI × aA,kg I b a=q:=⟨_,rfl⟩
 obtain⟨kC,bR,Z,bS,fP⟩:=I5 eQ
 refine cl Tryz.call57 (wK _ _ U I r s p b j b.aH.ls.length f l b.ai.ls.length g C m b.ag.ls.length h d a bO bP bR n rfl (Z _ J) e6 E rfl (Z _ K) e6 (λ x9 h9=>⟨Z _ (t x9 h9).1,(t x9 h9).2⟩) rfl (Z _ L) e6 e8 f8 e8 f5 aJ) ?_
 rintro _ kD ⟨eT,eU,eX,rfl,bT,aK⟩
 have bU:=bS _ _ bT
 have fQ:=aB aK
 have fT:=zr 1 bU
 refine C6 (bN (IA (res0 rfl) ?_))
 have eY:=bU.px [] [4] []
 obtain⟨rfl,rfl⟩:=ic (zj hr zq3)
 exact⟨eT,eU,eX,rfl,eY,aK⟩
 refine jF (dF B) (sr (Kz (.bool (decide (b.aD=6))) (An rfl ?_)))
 by_cases F:b.aD=6
 refine jT (dT F) (Ib (Mz rfl (La (iH b j f l g m h) u 0 N5 N6 ?_)))
 have eZ:=u.pb [0]
 obtain⟨⟨bV,bW⟩,aL⟩:∃ q:bI × aA,mf I b a=q:=⟨_,rfl⟩
 obtain⟨kE,bX,aa,bY,fU⟩:=I5 eZ
 refine cl Tryz.call58 (xk _ _ U I r s p b j b.aH.ls.length f l b.ai.ls.length g C m b.ag.ls.length h d a bV bW bX n rfl (aa _ J) e6 E rfl (aa _ K) e6 (λ x9 h9=>⟨aa _ (t x9 h9).1,(t x9 h9).2⟩) rfl (aa _ L) e6 e8 j8 aL) ?_
 rintro _ kF ⟨fo,fq,fu,rfl,bZ,aM⟩
 have cu:=bY _ _ bZ
 have fV:=aB aM
 have fZ:=zr 1 cu
 refine C6 (bN (IA (res0 rfl) ?_))
 have fw:=cu.px [] [4] []
 obtain⟨rfl,rfl⟩:=ic (zj hr zq4)
 exact⟨fo,fq,fu,rfl,fw,aM⟩
 refine jF (dF F) (sr (Kz (.bool (decide (b.aD=7))) (An rfl ?_)))
 by_cases G:b.aD=7
 refine jT (dT G) (Ib (Mz rfl (La (iH b j f l g m h) u 0 N5 N6 ?_)))
 have fA:=u.pb [0]
 obtain⟨cz,aN⟩:∃ q,lH I b a=q:=⟨_,rfl⟩
 obtain⟨kG,cB,af,cK,gm⟩:=I5 fA
 refine cl Tryz.call59 (xm _ _ U I r s p b j b.aH.ls.length f l b.ai.ls.length g C m b.ag.ls.length h d a cz cB n rfl (af _ J) e6 E rfl (af _ K) e6 (λ x9 h9=>⟨af _ (t x9 h9).1,(t x9 h9).2⟩) rfl (af _ L) e6 e8 aN) ?_
 rintro _ kH ⟨fB,fC,fD,rfl,cO,aO⟩
 have cZ:=cK _ _ cO
 have fE:=aB aO
 have fF:=zr 1 cZ
 refine C6 (bN (IA (res0 rfl) ?_))
 have df:=cZ.px [] [4] []
 obtain⟨rfl,rfl⟩:=ic (zj hr zq5)
 exact⟨fB,fC,fD,rfl,df,aO⟩
 refine jF (dF G) (sr (Kz (.bool (decide (b.aD=9))) (An rfl ?_)))
 by_cases y:b.aD=9
 refine jT (dT y) ?_
 have dh:=u.pf [4]
 obtain⟨gp,gq,gu,gy,gz,gB,gD,gF,gG,gH,gI,gJ,gK,gL,gM,gN,gP,gQ,gT,gV,gW,gX,gY,gZ,ib,ig,M,N,O,P,Q,R,S,T,fG,di⟩:=iZ dh
 refine pU 22 [22] (bQ.block IC) di ?_
 intro ik ag
 refine qv 0 rfl rfl (qp U 0 1 rfl (qp U 0 2 rfl (ql 3 rfl 19 P3 rfl rfl rfl (qp X 1 4 rfl (ql 5 rfl 18 C4 rfl rfl rfl (qv 6 rfl rfl (qp U 0 7 rfl (qp U 0 8 rfl (ql 9 rfl 19 P3 rfl rfl rfl (qp X 1 10 rfl (ql 11 rfl 18 C4 rfl rfl rfl (qp d 0 12 rfl (qp d 29 13 rfl ?_)))))))))))))
 by_cases ai:b.aJ=1
 refine qt (v:=vP d 30) 14 rfl (λ _ _=>by rw [show b.aJ=1 from by omega]; exact yk) (ql 15 rfl 0 D4 rfl rfl rfl (qp X 10 16 rfl (ql 17 rfl 18 D4 rfl rfl rfl (qt (v:=vU (max a.dH b.aV)) 18 rfl (λ _ _=>Ie (e:=if(b.aV:Int) > (a.dH:Int) then(b.aV:Int) else(a.dH:Int)) yk e6) (qp d 0 19 rfl (qp d 29 20 rfl (qt (v:=vP d 30) 21 rfl (λ _ _=>by rw [show b.aJ=1 from by omega]; exact yk) ?_)))))))
 refine qe 22 rfl (Do.store (vs:= [vU (max a.dH b.aV)]) (o:=30) ag rfl rfl N7 rfl rfl rfl rfl ?_)
 intro il dm
 refine⟨.inl e7, ?_⟩
 refine qn (bN (IA (res0 rfl) ?_))
 have dn:=fe M N O P Q R S T dm
 have dw:=dn.px [] [1] [0]
 obtain⟨rfl,rfl⟩:=ic (zj hr zq6)
 exact⟨r,s,p,rfl,dw,n⟩
 by_cases ay:b.aJ=2
 refine qt (v:=vP d 31) 14 rfl (λ _ _=>by rw [show b.aJ=2 from by omega]; exact yk) (ql 15 rfl 0 D4 rfl rfl rfl (qp X 10 16 rfl (ql 17 rfl 18 D4 rfl rfl rfl (qt (v:=vU (max a.dI b.aV)) 18 rfl (λ _ _=>Ie (e:=if(b.aV:Int) > (a.dI:Int) then(b.aV:Int) else(a.dI:Int)) yk e6) (qp d 0 19 rfl (qp d 29 20 rfl (qt (v:=vP d 31) 21 rfl (λ _ _=>by rw [show b.aJ=2 from by omega]; exact yk) ?_)))))))
 refine qe 22 rfl (Do.store (vs:= [vU (max a.dI b.aV)]) (o:=31) ag rfl rfl N7 rfl rfl rfl rfl ?_)
 intro iq dx
 refine⟨.inl e7, ?_⟩
 refine qn (bN (IA (res0 rfl) ?_))
 have dz:=fe M N O P Q R S T dx
 have dA:=dz.px [] [1] [0]
 obtain⟨rfl,rfl⟩:=ic (zj hr zq7)
 exact⟨r,s,p,rfl,dA,n⟩
 by_cases aP:b.aJ=3
 refine qt (v:=vP d 32) 14 rfl (λ _ _=>by rw [show b.aJ=3 from by omega]; exact yk) (ql 15 rfl 0 D4 rfl rfl rfl (qp X 10 16 rfl (ql 17 rfl 18 D4 rfl rfl rfl (qt (v:=vU (max a.dG b.aV)) 18 rfl (λ _ _=>Ie (e:=if(b.aV:Int) > (a.dG:Int) then(b.aV:Int) else(a.dG:Int)) yk e6) (qp d 0 19 rfl (qp d 29 20 rfl (qt (v:=vP d 32) 21 rfl (λ _ _=>by rw [show b.aJ=3 from by omega]; exact yk) ?_)))))))
 refine qe 22 rfl (Do.store (vs:= [vU (max a.dG b.aV)]) (o:=32) ag rfl rfl N7 rfl rfl rfl rfl ?_)
 intro iw dB
 refine⟨.inl e7, ?_⟩
 refine qn (bN (IA (res0 rfl) ?_))
 have dC:=fe M N O P Q R S T dB
 have dD:=dC.px [] [1] [0]
 obtain⟨rfl,rfl⟩:=ic (zj hr zq8)
 exact⟨r,s,p,rfl,dD,n⟩
 refine qt (v:=vP d 33) 14 rfl (λ _ _=>by rw [show b.aJ=4 from by omega]; exact yk) (ql 15 rfl 0 D4 rfl rfl rfl (qp X 10 16 rfl (ql 17 rfl 18 D4 rfl rfl rfl (qt (v:=vU (max a.dJ b.aV)) 18 rfl (λ _ _=>Ie (e:=if(b.aV:Int) > (a.dJ:Int) then(b.aV:Int) else(a.dJ:Int)) yk e6) (qp d 0 19 rfl (qp d 29 20 rfl (qt (v:=vP d 33) 21 rfl (λ _ _=>by rw [show b.aJ=4 from by omega]; exact yk) ?_)))))))
 refine qe 22 rfl (Do.store (vs:= [vU (max a.dJ b.aV)]) (o:=33) ag rfl rfl N7 rfl rfl rfl rfl ?_)
 intro iy dE
 refine⟨.inl e7, ?_⟩
 refine qn (bN (IA (res0 rfl) ?_))
 have dG:=fe M N O P Q R S T dE
 have dH:=dG.px [] [1] [0]
 obtain⟨rfl,rfl⟩:=ic (zj hr zq8)
 exact⟨r,s,p,rfl,dH,n⟩
 refine jF (dF y) (sr (Kz (.bool (decide (b.aD=13))) (An rfl ?_)))
 by_cases V:b.aD=13
 refine jT (dT V) (sr (Mz rfl (La (iH b j f l g m h) u 0 N5 N6 ?_)))
 refine WL.do rfl (Iz Tryz.call60 rfl ?_ (λ _ _ k=>k))
 refine cb Tryz.func60 ?_
 refine sr ?_
 refine dV (iH b j f l g m h) 42 u ?_
 intro iA iB dI
 refine An rfl (Ic ?_)
 have dJ:=dI.pf [5]
 obtain⟨iC,iD,iE,iF,iI,iJ,iK,iL,iM,iO,iP,iQ,iT,iU,iV,iW,iX,iY,ja,jb,jc,jd,je,jg,jh,jk,aT,aU,aV,aW,aX,aZ,bg,bn,fH,dK⟩:=iZ dJ
 refine pU 23 [] (Iu IC) dK ?_
 intro jl dL
 refine qv 0 rfl rfl (qp U 0 1 rfl (qp U 0 2 rfl (ql 3 rfl 20 P3 rfl rfl rfl (qp d 0 4 rfl (qp d 34 5 rfl (ql 6 rfl 0 Tryz.isAgg84 rfl rfl rfl (qk (.bool false) 7 rfl (qv 8 rfl rfl (Ik (rs:= []) 9 rfl rfl rfl rfl e7 (Ik (rs:= []) 10 rfl rfl rfl rfl e7 (Ik (rs:= []) 11 rfl rfl rfl rfl e7 (Ik (rs:= []) 12 rfl rfl rfl rfl e7 (Ik (rs:= []) 13 rfl rfl rfl rfl e7 (Ik (rs:= []) 14 rfl rfl rfl rfl e7 (Ik (rs:= []) 15 rfl rfl rfl rfl e7 (Ik (rs:= []) 16 rfl rfl rfl rfl e7 (Ik (rs:= []) 17 rfl rfl rfl rfl e7 (Ik (rs:= []) 18 rfl rfl rfl rfl e7 (Ik (rs:= []) 19 rfl rfl rfl rfl e7 (Ik (rs:= []) 20 rfl rfl rfl rfl e7 (Ik (rs:= []) 21 rfl rfl rfl rfl e7 (qt (v:= .bool false) 22 rfl (λ _ _=>Ih rfl rfl rfl) (qv 23 rfl rfl (Ik (rs:= []) 24 rfl rfl rfl rfl e7 (Ik (rs:= []) 25 rfl rfl rfl rfl e7 (Ik (rs:= []) 26 rfl rfl rfl rfl e7 (Ik (rs:= []) 27 rfl rfl rfl rfl e7 (Ik (rs:= []) 28 rfl rfl rfl rfl e7 (Ik (rs:= []) 29 rfl rfl rfl rfl e7 (Ik (rs:= []) 30 rfl rfl rfl rfl e7 (Ik (rs:= []) 31 rfl rfl rfl rfl e7 (Ik (rs:= []) 32 rfl rfl rfl rfl e7 (Ik (rs:= []) 33 rfl rfl rfl rfl e7 (Ik (rs:= []) 34 rfl rfl rfl rfl e7 (Ik (rs:= []) 35 rfl rfl rfl rfl e7 (Ik (rs:= []) 36 rfl rfl rfl rfl e7 (qt (v:= .bool false) 37 rfl (λ _ _=>Ih rfl rfl rfl) (qa 38 rfl rfl (qn ?_)))))))))))))))))))))))))))))))))))))))
 refine Ig (rt (rs (nt (jf (IE (bN (IA (res0 rfl) ?_)))))))
 have dM:=fe aT aU aV aW aX aZ bg bn dL
 have dN:=dM.pk [3,4,5,0]
 obtain⟨rfl,rfl⟩:=ic (zj hr zq6)
 exact⟨r,s,p,rfl,dN,n⟩
 refine jF (dF V) (sr (Kz (.bool (decide (b.aD=14))) (An rfl ?_)))
 by_cases aj:b.aD=14
 refine jT (dT aj) (Ib (Mz rfl (La (iH b j f l g m h) u 0 N5 N6 ?_)))
 refine WL.do rfl (Iz Tryz.call61 rfl ?_ (λ _ _ k=>k))
 refine cb Tryz.func61 ?_
 refine sr ?_
 refine dV [vP U 0] 94 u ?_
 intro jm jo dO
 refine dV (iH b j f l g m h) 42 dO ?_
 intro jq jr az
 refine nt (Ic (sr (Lz (vP U 0) az 1 Tryz.isAgg94 (La (iH b j f l g m h) az 0 N5 N6 ?_))))
 refine WL.do rfl (Iz Tryz.call60 rfl ?_ (λ _ _ k=>k))
 refine cb Tryz.func60 ?_
 refine sr ?_
 refine dV (iH b j f l g m h) 42 az ?_
 intro jv jw dP
 refine An rfl (Ic ?_)
 have dQ:=dP.pf [7]
 obtain⟨jy,jA,jB,jC,jD,jE,jG,jH,jI,jJ,jK,jL,jM,jN,jO,jP,jQ,jR,jS,jU,jV,jW,jX,jY,jZ,j3,bq,bu,bv,bz,bA,bB,bC,bD,fI,dR⟩:=iZ dQ
 refine pU 25 [] (Iu IC) dR ?_
 intro j4 dS
 refine qv 0 rfl rfl (qp U 0 1 rfl (qp U 0 2 rfl (ql 3 rfl 22 P3 rfl rfl rfl (qp d 0 4 rfl (qp d 34 5 rfl (ql 6 rfl 0 Tryz.isAgg84 rfl rfl rfl (qk (.bool false) 7 rfl (qv 8 rfl rfl (Ik (rs:= []) 9 rfl rfl rfl rfl e7 (Ik (rs:= []) 10 rfl rfl rfl rfl e7 (Ik (rs:= []) 11 rfl rfl rfl rfl e7 (Ik (rs:= []) 12 rfl rfl rfl rfl e7 (Ik (rs:= []) 13 rfl rfl rfl rfl e7 (Ik (rs:= []) 14 rfl rfl rfl rfl e7 (Ik (rs:= []) 15 rfl rfl rfl rfl e7 (Ik (rs:= []) 16 rfl rfl rfl rfl e7 (Ik (rs:= []) 17 rfl rfl rfl rfl e7 (Ik (rs:= []) 18 rfl rfl rfl rfl e7 (Ik (rs:= []) 19 rfl rfl rfl rfl e7 (Ik (rs:= []) 20 rfl rfl rfl rfl e7 (Ik (rs:= []) 21 rfl rfl rfl rfl e7 (qt (v:= .bool false) 22 rfl (λ _ _=>Ih rfl rfl rfl) (qv 23 rfl rfl (Ik (rs:= []) 24 rfl rfl rfl rfl e7 (Ik (rs:= []) 25 rfl rfl rfl rfl e7 (Ik (rs:= []) 26 rfl rfl rfl rfl e7 (Ik (rs:= []) 27 rfl rfl rfl rfl e7 (Ik (rs:= []) 28 rfl rfl rfl rfl e7 (Ik (rs:= []) 29 rfl rfl rfl rfl e7 (Ik (rs:= []) 30 rfl rfl rfl rfl e7 (Ik (rs:= []) 31 rfl rfl rfl rfl e7 (Ik (rs:= []) 32 rfl rfl rfl rfl e7 (Ik (rs:= []) 33 rfl rfl rfl rfl e7 (Ik (rs:= []) 34 rfl rfl rfl rfl e7 (Ik (rs:= []) 35 rfl rfl rfl rfl e7 (Ik (rs:= []) 36 rfl rfl rfl rfl e7 (qt (v:= .bool false) 37 rfl (λ _ _=>Ih rfl rfl rfl) (qa 38 rfl rfl (qn ?_)))))))))))))))))))))))))))))))))))))))
 refine Ig (rt (rs (Kz (.bool true) (nt (jt (rt (tR (Fin.res (res0 rfl) (C6 (bN (IA (res0 rfl) ?_)))))))))))
 have dU:=fe bq bu bv bz bA bB bC bD dS
 have dW:=dU.pk [5,6,7,0]
 obtain⟨rfl,rfl⟩:=ic (zj hr zq7)
 exact⟨r,s,p,rfl,dW,n⟩
 refine jF (dF aj) (IE (bN (IA (res0 rfl) ?_)))
 have dX:=u.px [] [0] []
 obtain⟨rfl,rfl⟩:=ic (zj hr zq7)
 exact⟨r,s,p,rfl,dX,n⟩
end
open Int renaming reduceEq->T2
open List renaming length_eq_zero_iff->v7
def p8 (m:aA):aA:= { m with bP:=Int.toNat (IntKind.u64.wrap (((m.bP:Nat):Int)+1)) }
theorem CE {k:Nat} {m:aA} (h:Im k m):(p8 m).bP=m.bP+1:=by
  have a:=h.1
  have b:=h.2.bg
  show Int.toNat (IntKind.u64.wrap ((m.bP:Int)+1))=_
  rw [IntWalk.u64_in _ e6]; omega
theorem Mk.bu {m:aA} (M:Mk m):Mk (p8 m):=⟨M.oz,M.sV,M.qF,by unfold p8; dsimp only; exact mh _,M.dec,M.mH,M.act,M.mU,M.lT,M.nu,M.ny,M.nz⟩
theorem Tr.bu (p:bI) (m:aA):Tr 1 p m p (p8 m):=⟨rfl,rfl,id,Nat.le_succ _,λ k _ hl h=>by
  have a:=h.2.more
  have e:=CE h
  refine⟨⟨hl, ?_⟩, [],(s6 _).symm, ?_⟩
  . show Iv (k+1) m.aa.av (p8 m).bP (nA m) (nD m); rw [e]; exact a.2.1
  . show lo m<=sS m.aa.av (p8 m).bP (nA m) (nD m); rw [e]; exact a.2.2.2⟩
def zC (m:aA) (x:dK):aA:= { p8 m with ay:=E2 (m.ay.ls++ [x]) }
theorem KW (p:bI) (m:aA) {x:dK} (hx:x.aR=fT m) (hs:r8 m.ay.ls+r8 m.aa.aj.ls < 8):Tr 1 p m p (zC m x):=⟨rfl,rfl,λ _=>by
    show r8 (m.ay.ls++ [x])+r8 m.aa.aj.ls<=8
    rw [List.length_append,List.length_singleton]; omega,Nat.le_succ _,λ k _ hl h=>by
  have a:=h.2.more
  have e:=CE h
  have b:nA (zC m x)=nA m++ [m.aa.av *4294967296+m.bP+1]:=by
    show List.map dK.aR (m.ay.ls++ [x])=_
    rw [List.map_append,List.map_cons,List.map_nil,hx,wJ h]; rfl
  refine⟨⟨hl, ?_⟩, [],(s6 _).symm, ?_⟩
  . show Iv (k+1) m.aa.av (p8 m).bP (nA (zC m x)) (nD m); rw [e,b]; exact a.1
  . show lo m<=sS m.aa.av (p8 m).bP (nA (zC m x)) (nD m); rw [e,b]; exact a.2.2.1⟩
theorem yH (c:Int) (x:bL) (m:aA) (n:Nat) (ps:List gF):∀ (l:List gF) (k:Nat) (o:List bL), ∃ q,iO c x m n ps l k o=o++q/\∀ z ∈ q,z.aD=3/\z.dY=il (zC m (dK.mk n c x.aP m.aa.aL (E2 x.aH.ls) (E2 ps) (E2 (r6 (r8 ps) false)) (E2 (r6 (r8 ps) (E2 []:Ll aQ))) 0))/\z.aN=n
  | [],k,o=>⟨[],(s6 _).symm,λ z hz=>by cases hz⟩
  | y::l,k,o=>by
    simp only [iO,bnd]
    split
    . exact yH c x m n ps l (k+1) o
    . obtain⟨q,e,hq⟩:=yH c x m n ps l (k+1) (o++ [bL.mk 3 0 y.eG 0 0 0 0 0 n (il (zC m (dK.mk n c x.aP m.aa.aL (E2 x.aH.ls) (E2 ps) (E2 (r6 (r8 ps) false)) (E2 (r6 (r8 ps) (E2 []:Ll aQ))) 0))) 0 m.aa.aL 0 0 0 false (bC.mk [] []) (E2 y.aH.ls) (E2 []) (E2 [])])
      refine⟨_::q,e.trans (by rw [List.append_assoc]; rfl),λ z hz=> ?_⟩
      rcases u9.1 hz with rfl | hz
      . exact⟨rfl,rfl,rfl⟩
      . exact hq z hz
theorem Eg {o:bi} (h:kH o=0):o.bS<=1000:=by
  have z:∀ {a:bi},a.bS=0->(a.aD=o.aD/\a.bY=o.bY/\a.aT=o.aT/\a.bF=o.bF/\a.bT=o.bT/\a.bS=o.bS)->o.bS<=1000:=λ c b=>by
    have:=b.2.2.2.2.2; omega
  unfold kH at h
  simp only [bnd] at h
  split at h
  . split at h
    . rename_i b; exact z rfl b
    . cases h
  split at h
  . split at h
    . rename_i b; exact z rfl b
    . cases h
  split at h
  . split at h
    . rename_i b; exact z rfl b
    . cases h
  split at h
  . split at h
    . unfold pW at h
      simp only [bnd] at h
      split at h
      . split at h
        . cases h
        . split at h
          . cases h
          . omega
      . rename_i b c; exact absurd h c
    . cases h
  split at h
  . split at h
    . rename_i b; exact z rfl b
    . cases h
  . cases h
theorem zh:∀ {l:List bi} {r:Int},lp (j6 l) (λ _=>0)=r->r=0->∀ o ∈ l,kH o=0
  | [],_,_,_,o,ho=>by cases ho
  | y::l,r,h,hr,o,ho=>by
    simp only [j6,bnd] at h
    by_cases e:kH y=0
    . rw [if_pos e] at h
      rcases u9.1 ho with rfl | ho
      . exact e
      . exact zh h hr o ho
    . rw [if_neg e] at h
      simp only [lp] at h
      omega
theorem Dv {l:List bi} (h:oo l=0):r8 l<=4/\∀ o ∈ l,o.bS<=1000:=by
  unfold oo pX at h
  simp only [bnd] at h
  split at h
  . cases h
  split at h
  . cases h
  . exact⟨e6,λ o ho=>Eg (zh rfl h o ho)⟩
theorem Dw {l:List bi} (h:oo l=0):∀ o ∈ l,o.bS<=1000:=(Dv h).2
theorem Dx {a:List aY} {l:List bi} {r:List gF} (h:lF a l=(r,0)):oo l=0:=by
  unfold lF at h
  simp only [bnd] at h
  split at h
  . split at h
    . assumption
    . rename_i b; exact absurd (Prod.mk.inj h).2 b
  . rename_i b; exact absurd (Prod.mk.inj h).2 b
theorem CF {p t:bI} {c:Int} {x:bL} {m m':aA} (h:dQ p c x m=(t,m')):Tr 1 p m t m'/\((1<=c/\c<=4)->r8 x.aH.ls<=24->ky x.aP->r8 m.aa.ag.ls<=1000->Mk m->Mk m'):=by
  unfold dQ at h
  simp only [bnd] at h
  rcases ec:lF m.aa.ag.ls x.aH.ls with ⟨ps,e⟩
  rw [ec] at h
  have no:∀ {d:bI} {a:aA},dC p c x.aP 2 [] (p8 m)=(d,a)->(d,aA.mk (cZ.mk a.aa.au a.aa.av a.aa.aV a.aa.aL (E2 m.aa.ag.ls) (E2 m.aa.aj.ls) (E2 m.aa.aF.ls)) a.bP (E2 m.ay.ls) a.bK a.bA a.bz a.bv a.bq a.dP a.dH a.dI a.dG a.dJ)=(t,m')->Tr 1 p m t m'/\((1<=c/\c<=4)->r8 x.aH.ls<=24->ky x.aP->r8 m.aa.ag.ls<=1000->Mk m->Mk m'):=λ {d a} e h=>by
    have ha:=mP e
    obtain⟨rfl,f⟩:=Prod.mk.inj h
    obtain rfl:=oG f (by rw [ha.1]; rfl) (by rw [ha.1]; rfl) (by rw [ha.1]; rfl) (by rw [ha.2.1]; rfl)
    exact⟨(Tr.bu p m).trans (Tr.answer e),λ _ _ hq _ M=>ha.2.2.2.2 mE hq M.bu⟩
  rcases b:dC p c x.aP 2 [] (p8 m) with ⟨d,a⟩
  have e':=b
  unfold p8 at e'
  rw [e'] at h
  split at h
  . exact no b h
  split at h
  . exact no b h
  split at h
  . exact no b h
  split at h
  . rename_i j l _ i
    obtain⟨q,eq,hq⟩:=yH c x m (fT m) ps ps 0 p.aX.ls
    obtain⟨rfl,rfl⟩:=Prod.mk.inj h
    have hb:=KW p m (x:=dK.mk (fT m) c x.aP m.aa.aL (E2 x.aH.ls) (E2 ps) (E2 (r6 (r8 ps) false)) (E2 (r6 (r8 ps) (E2 []:Ll aQ))) 0) rfl e6
    refine⟨hb.tells eq hq λ k _ _=>List.mem_map.2 ⟨_,List.mem_append_right _ b1,rfl⟩,λ hc hl hr ho M=>⟨M.oz,M.sV,M.qF,by dsimp only; exact mh _,M.dec,M.mH,λ y hy=> ?_,M.mU,M.lT,M.nu,M.ny,M.nz⟩⟩
    rcases List.mem_append.1 hy with g | g
    . exact M.act y g
    . rw [m4.1 g]
      have h0':e=0:=i
      subst h0'
      exact⟨by dsimp only; unfold fT; exact mh _,hr,M.qF,H2,H2,Ca ec,hc,⟨hl,Dw (Dx ec)⟩,Cc ec ho hl,λ r hr=>by rw [(List.mem_replicate.1 hr).2]; exact mE⟩
  . exact no b h
theorem rW (p:bI) (c:Int) (x:bL) (m:aA):∀ l:List eD,dW p c x m l= .inl ()\/∃ t z,dW p c x m l= .inr t/\t.aX.ls=p.aX.ls++ [z]/\z.aD=2
  | []=> .inl rfl
  | y::l=>by
    simp only [dW,bnd]
    split
    . split
      . split
        . exact .inr ⟨_,_,rfl,rfl,rfl⟩
        . exact rW p c x m l
      . exact rW p c x m l
    . exact rW p c x m l
theorem Tr.two {p t:bI} {m:aA} {z:bL} (h:t.aX.ls=p.aX.ls++ [z]) (hz:z.aD=2):Tr 1 p m t m:=(Tr.of rfl rfl rfl h λ y hy=>by rw [m4.1 hy,hz]; decide).one
theorem Kb (p:bI) (c:Int) (x:bL) (m:aA):Tr 1 p m (kZ p c x m) m:=by
  unfold kZ
  rcases rW p c x m m.aa.aF.ls with h | ⟨t,z,h,ht,hz⟩
  . rw [nT h]; exact Tr.two rfl rfl
  . rw [jm h]; exact Tr.two ht hz
theorem Bi {p t:bI} {x:bL} {m m':aA} (h:ji p x m=(t,m')) (hf:11<=x.aJ/\x.aJ<=14):Tr 1 p m t m'/\(r8 x.aH.ls<=24->ky x.aP->r8 m.aa.ag.ls<=1000->Mk m->Mk m'):=by
  unfold ji at h
  simp only [bnd] at h
  have sa:∀ {a:bI},Tr 1 p m a m->(a,m)=(t,m')->Tr 1 p m t m'/\(r8 x.aH.ls<=24->ky x.aP->r8 m.aa.ag.ls<=1000->Mk m->Mk m'):=λ T h=>by
    obtain⟨rfl,rfl⟩:=Prod.mk.inj h
    exact⟨T,λ _ _ _ M=>M⟩
  have sn:∀ y,(dw p y,m)=(t,m')->y.aD=2->Tr 1 p m t m'/\(r8 x.aH.ls<=24->ky x.aP->r8 m.aa.ag.ls<=1000->Mk m->Mk m'):=λ y h hy=>by
    obtain⟨z,e,hk,_⟩:=Be p y
    exact sa (Tr.two e (hk.trans hy)) h
  have be:((dQ p (x.aJ - 10) x m).1,(dQ p (x.aJ - 10) x m).2)=(t,m')->Tr 1 p m t m'/\(r8 x.aH.ls<=24->ky x.aP->r8 m.aa.ag.ls<=1000->Mk m->Mk m'):=λ h=>by
    have hb:=CF (show dQ p (x.aJ - 10) x m=(t,m') from h)
    exact⟨hb.1,hb.2 e6⟩
  split at h
  . split at h
    . exact sa (Tr.same p m).one h
    split at h
    . split at h
      . split at h
        . split at h
          . exact sn _ h rfl
          . exact sa (Tr.same p m).one h
        . exact be h
      . exact be h
    split at h
    . split at h
      . split at h
        . split at h
          . exact sn _ h rfl
          . exact sa (Tr.same p m).one h
        . exact be h
      . exact be h
    split at h
    . split at h
      . split at h
        . split at h
          . exact sn _ h rfl
          . exact sa (Tr.same p m).one h
        . exact be h
      . exact be h
    . split at h
      . split at h
        . split at h
          . exact sn _ h rfl
          . exact sa (Tr.same p m).one h
        . exact be h
      . exact be h
  . exact sa (Kb _ _ _ _) h
structure Eh (x:bL):Prop where
  ops:r8 x.aH.ls<=24
  own:r8 x.ag.ls<=1000
  res:nI x.ai.ls
  sU:x.aD=1->11<=x.aJ/\x.aJ<=14
  map:x.aD=9->1<=x.aJ/\x.aJ<=4
theorem Bj {x:bL}:∀ {l:List Int},lp (kD x l) (λ _=>true)=true->∀ f ∈ l,oZ x f=true
  | [],_,f,hf=>by cases hf
  | y::l,h,f,hf=>by
    simp only [kD,bnd] at h
    by_cases e:oZ x y=true
    . rw [if_pos e] at h
      rcases u9.1 hf with rfl | hf
      . exact e
      . exact Bj h f hf
    . rw [if_neg e] at h; cases h
theorem Bl:∀ {l:List aQ},lp (gY l) (λ _=>true)=true->∀ x ∈ l,r8 x.ak.ls<=1000
  | [],_,x,hx=>by cases hx
  | y::l,h,x,hx=>by
    simp only [gY] at h
    split at h
    . cases h
    split at h
    . cases h
    . rename_i hp
      rcases e:iq y.ak.ls with u | b
      . rw [e] at h
        rcases u9.1 hx with rfl | hx
        . omega
        . exact Bl h x hx
      . rw [e] at h
        simp only [qU,lp] at h
        subst h
        exact absurd e (L1f _)
where L1f:∀ l:List aI,iq l≠ .inr true
  | []=>by intro h; cases h
  | y::l=>by
    simp only [iq,bnd]
    split
    . split
      . intro h; cases h
      . exact L1f l
    . intro h; cases h
theorem E5 (p:bL) (r:gZ) (x:Int) (q:List Int) (v w:Int) (y k2 z A B C D E F:Nat) (b:Bool) (G H:List UInt8) (lo:List bi) (lr:List aQ) (lw:List aY):∃ z1' z2' k1' k2' k3' k4' k5' k6' k7' k8' k9' b' s1' s2' lo' lr' lw',cB p r (x::q) v w y k2 z A B C D E F b G H lo lr lw=cB p r q z1' z2' k1' k2' k3' k4' k5' k6' k7' k8' k9' b' s1' s2' lo' lr' lw'/\(x≠7->lo'=lo)/\(x≠3->lr'=lr)/\(x≠11->lw'=lw):=by
  by_cases a:x=0
  . exact⟨_,_,_,_,_,_,_,_,_,_,_,_,_,_,_,_,_,ip a,λ _=>rfl,λ _=>rfl,λ _=>rfl⟩
  by_cases c:x=1
  . exact⟨_,_,_,_,_,_,_,_,_,_,_,_,_,_,_,_,_,et (iN a) (ip c),λ _=>rfl,λ _=>rfl,λ _=>rfl⟩
  by_cases d:x=2
  . exact⟨_,_,_,_,_,_,_,_,_,_,_,_,_,_,_,_,_,et (iN a) (et (iN c) (ip d)),λ _=>rfl,λ _=>rfl,λ _=>rfl⟩
  by_cases e:x=3
  . exact⟨_,_,_,_,_,_,_,_,_,_,_,_,_,_,_,_,_,et (iN a) (et (iN c) (et (iN d) (ip e))),λ _=>rfl,λ h=>absurd e h,λ _=>rfl⟩
  by_cases i:x=4
  . exact⟨_,_,_,_,_,_,_,_,_,_,_,_,_,_,_,_,_,et (iN a) (et (iN c) (et (iN d) (et (iN e) (ip i)))),λ _=>rfl,λ _=>rfl,λ _=>rfl⟩
  by_cases j:x=5
  . exact⟨_,_,_,_,_,_,_,_,_,_,_,_,_,_,_,_,_,et (iN a) (et (iN c) (et (iN d) (et (iN e) (et (iN i) (ip j))))),λ _=>rfl,λ _=>rfl,λ _=>rfl⟩
  by_cases k:x=6
  . exact⟨_,_,_,_,_,_,_,_,_,_,_,_,_,_,_,_,_,et (iN a) (et (iN c) (et (iN d) (et (iN e) (et (iN i) (et (iN j) (ip k)))))),λ _=>rfl,λ _=>rfl,λ _=>rfl⟩
  by_cases l:x=7
  . exact⟨_,_,_,_,_,_,_,_,_,_,_,_,_,_,_,_,_,et (iN a) (et (iN c) (et (iN d) (et (iN e) (et (iN i) (et (iN j) (et (iN k) (ip l))))))),λ h=>absurd l h,λ _=>rfl,λ _=>rfl⟩
  by_cases n:x=8
  . exact⟨_,_,_,_,_,_,_,_,_,_,_,_,_,_,_,_,_,et (iN a) (et (iN c) (et (iN d) (et (iN e) (et (iN i) (et (iN j) (et (iN k) (et (iN l) (ip n)))))))),λ _=>rfl,λ _=>rfl,λ _=>rfl⟩
  by_cases s:x=9
  . exact⟨_,_,_,_,_,_,_,_,_,_,_,_,_,_,_,_,_,et (iN a) (et (iN c) (et (iN d) (et (iN e) (et (iN i) (et (iN j) (et (iN k) (et (iN l) (et (iN n) (ip s))))))))),λ _=>rfl,λ _=>rfl,λ _=>rfl⟩
  by_cases f:x=10
  . exact⟨_,_,_,_,_,_,_,_,_,_,_,_,_,_,_,_,_,et (iN a) (et (iN c) (et (iN d) (et (iN e) (et (iN i) (et (iN j) (et (iN k) (et (iN l) (et (iN n) (et (iN s) (ip f)))))))))),λ _=>rfl,λ _=>rfl,λ _=>rfl⟩
  by_cases g:x=11
  . exact⟨_,_,_,_,_,_,_,_,_,_,_,_,_,_,_,_,_,et (iN a) (et (iN c) (et (iN d) (et (iN e) (et (iN i) (et (iN j) (et (iN k) (et (iN l) (et (iN n) (et (iN s) (et (iN f) (ip g))))))))))),λ _=>rfl,λ _=>rfl,λ h=>absurd g h⟩
  by_cases m:x=12
  . exact⟨_,_,_,_,_,_,_,_,_,_,_,_,_,_,_,_,_,et (iN a) (et (iN c) (et (iN d) (et (iN e) (et (iN i) (et (iN j) (et (iN k) (et (iN l) (et (iN n) (et (iN s) (et (iN f) (et (iN g) (ip m)))))))))))),λ _=>rfl,λ _=>rfl,λ _=>rfl⟩
  by_cases o:x=13
  . exact⟨_,_,_,_,_,_,_,_,_,_,_,_,_,_,_,_,_,et (iN a) (et (iN c) (et (iN d) (et (iN e) (et (iN i) (et (iN j) (et (iN k) (et (iN l) (et (iN n) (et (iN s) (et (iN f) (et (iN g) (et (iN m) (ip o))))))))))))),λ _=>rfl,λ _=>rfl,λ _=>rfl⟩
  by_cases t:x=14
  . exact⟨_,_,_,_,_,_,_,_,_,_,_,_,_,_,_,_,_,et (iN a) (et (iN c) (et (iN d) (et (iN e) (et (iN i) (et (iN j) (et (iN k) (et (iN l) (et (iN n) (et (iN s) (et (iN f) (et (iN g) (et (iN m) (et (iN o) (ip t)))))))))))))),λ _=>rfl,λ _=>rfl,λ _=>rfl⟩
  by_cases u:x=15
  . exact⟨_,_,_,_,_,_,_,_,_,_,_,_,_,_,_,_,_,et (iN a) (et (iN c) (et (iN d) (et (iN e) (et (iN i) (et (iN j) (et (iN k) (et (iN l) (et (iN n) (et (iN s) (et (iN f) (et (iN g) (et (iN m) (et (iN o) (et (iN t) (ip u))))))))))))))),λ _=>rfl,λ _=>rfl,λ _=>rfl⟩
  . exact⟨_,_,_,_,_,_,_,_,_,_,_,_,_,_,_,_,_,et (iN a) (et (iN c) (et (iN d) (et (iN e) (et (iN i) (et (iN j) (et (iN k) (et (iN l) (et (iN n) (et (iN s) (et (iN f) (et (iN g) (et (iN m) (et (iN o) (et (iN t) (iN u))))))))))))))),λ _=>rfl,λ _=>rfl,λ _=>rfl⟩
theorem CG (p:bL) (r:gZ):∀ (q:List Int) (c d:Int) (f k2 g i j k l m n:Nat) (b:Bool) (o s:List UInt8) (lo:List bi) (lr:List aQ) (lw:List aY),
    (7 ∉ q->(cB p r q c d f k2 g i j k l m n b o s lo lr lw).2.2.2.2.2.2.2.2.2.2.2.2.2.2.1=lo)/\(3 ∉ q->(cB p r q c d f k2 g i j k l m n b o s lo lr lw).2.2.2.2.2.2.2.2.2.2.2.2.2.2.2.1=lr)/\(11 ∉ q->(cB p r q c d f k2 g i j k l m n b o s lo lr lw).2.2.2.2.2.2.2.2.2.2.2.2.2.2.2.2=lw)
  | [],c,d,f,k2,g,i,j,k,l,m,n,b,o,s,lo,lr,lw=>⟨λ _=>rfl,λ _=>rfl,λ _=>rfl⟩
  | x::q,c,d,f,k2,g,i,j,k,l,m,n,b,o,s,lo,lr,lw=>by
    obtain⟨z1',z2',k1',k2',k3',k4',k5',k6',k7',k8',k9',b',s1',s2',lo',lr',lw',e,t,u,v⟩:=E5 p r x q c d f k2 g i j k l m n b o s lo lr lw
    have ih:=CG p r q z1' z2' k1' k2' k3' k4' k5' k6' k7' k8' k9' b' s1' s2' lo' lr' lw'
    rw [e]
    exact⟨λ h=>(ih.1 λ a=>h (.tail _ a)).trans (t λ a=>h (a ▸ .head _)),λ h=>(ih.2.1 λ a=>h (.tail _ a)).trans (u λ a=>h (a ▸ .head _)),λ h=>(ih.2.2 λ a=>h (.tail _ a)).trans (v λ a=>h (a ▸ .head _))⟩
theorem zD {x:bL} (h:ru x=true):x.aH.ls= []/\x.ai.ls= []/\x.ag.ls= []:=by
  unfold ru at h
  split at h
  . split at h
    . rename_i a
      exact⟨v7.1 e6,v7.1 e6,v7.1 e6⟩
    . cases h
  . cases h
theorem rR {x:bL} {r:Int} (h:lQ x=r) (b:r=0):Eh x:=by
  subst b
  unfold lQ qC at h
  simp only [bnd] at h
  rcases el:pu x.aD with ⟨y,ok⟩
  rw [el] at h
  split at h
  case isFalse=>cases h
  split at h
  case isFalse=>cases h
  rename_i _ hfrom
  split at h
  case isFalse=>cases h
  split at h
  case isFalse=>cases h
  rename_i hb
  split at h
  case isFalse=>cases h
  rename_i hm
  have hc:=CG x y y.cK.ls x.dz x.eH x.aP x.av x.aN x.dY x.aV x.aL x.dL x.cu x.xN x.cz x.bU.bF x.bU.bT x.aH.ls x.ai.ls x.ag.ls
  have hl:=zD hb
  simp only at hl
  have hf:=Bj hm
  refine⟨?_, ?_, ?_,λ hk=> ?_,λ hk=> ?_⟩
  . by_cases a:(7:Int) ∈ y.cK.ls
    . have:=hf 7 a
      simp only [oZ,rV,bnd,T2, ↓reduceIte] at this
      split at this
      . have:=(Dv (of_decide_eq_true this)).1; omega
      split at this
      . split at this
        . split at this
          . omega
          . cases this
        . cases this
      . split at this
        . omega
        . cases this
    . rw [<- hc.1 a,hl.1]; exact Lg _
  . by_cases a:(11:Int) ∈ y.cK.ls
    . have:=hf 11 a
      simp only [oZ,bnd,T2, ↓reduceIte] at this
      have:=of_decide_eq_true this
      unfold kR at this
      split at this
      . cases this
      split at this
      . cases this
      . omega
    . rw [<- hc.2.2 a,hl.2.2]; exact Lg _
  . by_cases a:(3:Int) ∈ y.cK.ls
    . have:=hf 3 a
      simp only [oZ,og,bnd,T2, ↓reduceIte] at this
      split at this
      . split at this
        . cases this
        . exact⟨e6,Bl this⟩
      . split at this
        . cases this
        . exact⟨e6,Bl this⟩
    . rw [<- hc.2.1 a,hl.2.1]; exact mE
  . rw [hk] at el
    have:y.mG=2:=by rw [<- (Prod.mk.inj el).1]
    rw [this] at hfrom
    unfold lN at hfrom
    rw [if_neg f4,if_pos rfl] at hfrom
    split at hfrom
    . have:=of_decide_eq_true hfrom; omega
    . cases hfrom
  . rw [hk] at el
    have:y.mG=1:=by rw [<- (Prod.mk.inj el).1]
    rw [this] at hfrom
    unfold lN at hfrom
    rw [if_pos rfl] at hfrom
    split at hfrom
    . have:=of_decide_eq_true hfrom; omega
    . cases hfrom
theorem zF {p t:bI} {x:bL} {m m':aA} (h:iR p x m=(t,m')) (hx:Eh x) (hq:ky x.aP) (ho:r8 m.aa.ag.ls<=1000):Tr 1 p m t m'/\(Mk m->Mk m'):=by
  unfold iR at h
  simp only [bnd] at h
  split at h
  . rename_i hk
    have hr:=Bi (show ji p x m=(t,m') from h) (hx.sU hk)
    exact⟨hr.1,hr.2 hx.ops hq ho⟩
  split at h
  . have hr:=zB (show kg p x m=(t,m') from h)
    exact⟨hr.1,hr.2 hx.res⟩
  split at h
  . exact(pg (show mf p x m=(t,m') from h)).2
  split at h
  . obtain⟨rfl,rfl⟩:=Prod.mk.inj h
    exact⟨EZ p x m,id⟩
  have mp:∀ {a:aA},(p,a)=(t,m')->a.aa=m.aa->a.ay.ls=m.ay.ls->a.bP=m.bP->(Mk m->Mk a)->Tr 1 p m t m'/\(Mk m->Mk m'):=λ h b c d e=>by
    obtain⟨rfl,rfl⟩:=Prod.mk.inj h
    exact⟨(Tr.of b (by unfold nA; rw [c]) d (s6 _).symm λ x hx=>by cases hx).one,e⟩
  split at h
  . split at h
    . exact mp h rfl rfl rfl (λ M=>⟨M.oz,M.sV,M.qF,M.ug,M.dec,M.mH,M.act,M.mU,M.lT,M.nu,M.ny,M.nz⟩)
    split at h
    . exact mp h rfl rfl rfl (λ M=>⟨M.oz,M.sV,M.qF,M.ug,M.dec,M.mH,M.act,M.mU,M.lT,M.nu,M.ny,M.nz⟩)
    split at h
    . exact mp h rfl rfl rfl (λ M=>⟨M.oz,M.sV,M.qF,M.ug,M.dec,M.mH,M.act,M.mU,M.lT,M.nu,M.ny,M.nz⟩)
    . exact mp h rfl rfl rfl (λ M=>⟨M.oz,M.sV,M.qF,M.ug,M.dec,M.mH,M.act,M.mU,M.lT,M.nu,M.ny,M.nz⟩)
  split at h
  . exact mp h rfl rfl rfl id
  split at h
  . exact mp h rfl rfl rfl id
  . exact mp h rfl rfl rfl id
theorem Dy {x:bL} {r:Int} (h:lQ x=r): ¬ (r=0)\/(r8 x.aH.ls<=24/\r8 x.ag.ls<=1000/\r8 x.ai.ls<=1000/\(¬ (x.aD=1)\/11<=x.aJ/\x.aJ<=14)/\(¬ (x.aD=9)\/1<=x.aJ/\x.aJ<=4)):=by
  by_cases a:r=0
  . have M:=rR h a
    refine .inr ⟨M.ops,M.own,M.res.1, ?_, ?_⟩
    . by_cases k:x.aD=1
      . exact .inr (M.sU k)
      . exact .inl k
    . by_cases k:x.aD=9
      . exact .inr (M.map k)
      . exact .inl k
  . exact .inl a
theorem JQ {j:Nat} {p t:bI} {m m':aA} (h:Tr j p m t m') (a:r8 m.ay.ls+r8 m.aa.aj.ls<=8):r8 m'.aa.ag.ls=r8 m.aa.ag.ls/\m'.aa.au=m.aa.au/\r8 m'.ay.ls+r8 m'.aa.aj.ls<=8/\r8 m'.aa.aF.ls<=r8 m.aa.aF.ls+j:=⟨by rw [h.own],h.sh,h.ad a,h.la⟩
theorem wM {p:aA} (h:Mk p):∀ x ∈ p.aa.aj.ls,r8 x.au.ls<=1000000:=λ x hx=>Nat.le_trans (h.dec x hx).2.2.2 f4
theorem wN {p:aA} (h:Mk p):∀ x ∈ p.aa.aF.ls,r8 x.ai.ls<=1000000/\∀ y ∈ x.ai.ls,r8 y.ak.ls<=1000000:=λ x hx=>⟨Nat.le_trans (h.mH x hx).2.2.1 f4,dM (h.mH x hx).2.2⟩
theorem j1 {p:Prop}(h:p:=by first | assumption | exact(rR (by assumption) (by assumption)).res):p:=h
open _root_.Go.Proofs.Tryz renaming call12->U8,call22->T6,call29->U5,call54->U2,call55->U4,func12->U9,func22->U0,func29->U6,isAgg29->U7,isAgg33->U1,isAgg45->U3,isAgg47->T5,isAgg84->V0,sizeOf33->H4,sizeOf47->T4,underlying134->O4,underlying5->T3,underlying9->B3
open Wp renaming exit->C7,loop->C3
section
open Go.RowKit
def bytes_Equal (l0:List UInt8) (l1:List UInt8):Bool:=
 decide (l0=l1)
theorem rT (w D h a k l0 i b c1 l1 j) (H:Own w D w []) (c:Ro w D λ w'=>bE w' 1 h a (q3 eB l0)) (d:a=l0.length) (m:l0.length *1<=211106232532992) (e:Ro w D λ w'=>bE w' 1 i b (q3 eB l1)) (f:b=l1.length) (n:l1.length *1<=211106232532992) (hr:bytes_Equal l0 l1=j):
    Calls v8 55 #[.slice h a k, .slice i b c1] w (d9 λ v w'=>v= .bool j/\Own w D w' []):=by
 subst d f
 refine cb Tryz.func55 ?_
 refine sr (Ar rfl (Mz rfl (fw (.string ⟨List.toArray l0⟩) (JF (l:=l0) O4 T3 B3 (H.ro c) rfl) (Mz rfl (fw (.string ⟨List.toArray l1⟩) (JF (l:=l1) O4 T3 B3 (H.ro e) rfl) (fw (.bool (decide (l0=l1))) (JJ rfl rfl) (An rfl (rt (rs ?_)))))))))
 have g:=H.pk []
 obtain rfl:_=decide (l0=l1):=zj hr rfl
 exact⟨rfl,g⟩
def eT (c:aA) (d:bL):kC × Int × aA:=
 if d.aJ<=10 then bnd (lQ d) λ k=>if k=0 then if d.fI=0 then if d.aJ > c.aa.au then(kC.mk (E2 []) false,180,c) else bnd (fA c.aa) λ l=>bnd (iR (bI.mk (E2 [])) d c) λ a=>bnd (fA a.2.aa) λ e=>bnd (bytes_Equal l.1 e.1) λ f=>(kC.mk (E2 a.1.aX.ls) (!f),0,a.2) else(kC.mk (E2 []) false,180,c) else(kC.mk (E2 []) false,180,c) else bnd (lQ d) λ g=>if g=0 then if d.fI=0 then bnd (fA c.aa) λ h=>bnd (iR (bI.mk (E2 [])) d c) λ b=>bnd (fA b.2.aa) λ i=>bnd (bytes_Equal h.1 i.1) λ j=>(kC.mk (E2 b.1.aX.ls) (!j),0,b.2) else(kC.mk (E2 []) false,180,c) else(kC.mk (E2 []) false,180,c)
theorem j5 (w D z) (f:aA) (a:bL) (l dB g n dC h P p dD j) (r0:kC) (r1) (r2:aA) (H:Own w D w [iG z f]) (fH:dB=a.aH.ls.length) (av:Ro w D λ w'=>bE w' 6 l a.aH.ls.length (q3 bi.cells a.aH.ls)) (ku:a.aH.ls.length<=g/\a.aH.ls.length<=9223372036854775807) (Q:s5 ae.abs P=a.ai.ls) (fI:dC=a.ai.ls.length) (ay:Ro w D λ w'=>bE w' 3 n a.ai.ls.length (q3 ae.cells P)) (kv:a.ai.ls.length<=h/\a.ai.ls.length<=9223372036854775807) (u:∀ x ∈ P,Ro w D (λ w'=>bE w' 2 x.ak.A x.ak.ls.length (q3 aI.cells x.ak.ls))/\(x.ak.ls.length<=x.ak.c/\x.ak.ls.length<=9223372036854775807)) (fJ:dD=a.ag.ls.length) (az:Ro w D λ w'=>bE w' 2 p a.ag.ls.length (q3 aY.cells a.ag.ls)) (kw:a.ag.ls.length<=j/\a.ag.ls.length<=9223372036854775807) (nP:f.aa.ag.ls.length<=1000/\f.ay.ls.length+f.aa.aj.ls.length<=8/\f.aa.aF.ls.length<=900/\ky a.aP/\a.aH.ls.length<=140737488355328/\a.ai.ls.length<=140737488355328/\a.ag.ls.length<=140737488355328) (nQ:Mk f) (hr:eT f a=(r0,r1,r2)):
    Calls v8 13 #[vP z 0, .agg (gU a.aD a.aJ a.fI a.aK a.dz a.eH a.aP a.av a.aN a.dY a.aV a.aL a.dL a.cu a.xN a.cz a.bU.bF a.bU.bT l dB g n dC h p dD j).toArray] w (d9 λ v w'=> ∃ dG dH bn,v= .tuple #[.agg #[.slice dG r0.fo.ls.length dH, .bool r0.jl],vI r1]/\Own w D w' [row dG r0.fo.ls.length dH (q3 bf.cells bn) 42 21,sepL (q3 bf.own bn),iG z r2]/\(s5 bf.abs bn=r0.fo.ls)/\(r2.aa.ag.ls.length=f.aa.ag.ls.length/\r2.aa.au=f.aa.au/\r2.ay.ls.length+r2.aa.aj.ls.length<=8/\r2.aa.aF.ls.length<=f.aa.aF.ls.length+1)/\(Mk r2)):=by
 subst fH fI fJ
 have kr:=aB Q
 refine cb Tryz.func13 ?_
 refine sr ?_
 refine dV (iH a l g n h p j) 42 H ?_
 intro G nR kz
 refine dV [.slice none 0 0, .bool false] 47 kz ?_
 intro aM nS kD
 refine An rfl (Ic ?_)
 have kE:=kD.pf [2]
 obtain⟨dn,aV,dw,aX,il,dx,bg,iq,nT,nU,nV,nW,nX,nY,nZ,og,oh,om,oo,oq,ou,ow,oz,oC,oD,oF,B,C,R,S,T,U,V,W,lJ,kF⟩:=iZ kE
 refine pU 20 [] (Iu IC) kF ?_
 intro oG dz
 refine qp G 1 0 rfl (ql 1 rfl 19 C4 rfl rfl rfl (qk (.bool (decide (a.aJ<=10))) 2 rfl (qv 3 rfl rfl ?_)))
 by_cases r:a.aJ<=10
 refine Ip (v:=vP G 1) (rs:= []) 4 rfl rfl rfl (dT r) e7 (λ _ _=>yk) (Ip (v:=vI a.aJ) (rs:= []) 5 rfl rfl rfl (dT r) e7 (λ _ ⟨_,H9⟩=>Io rfl (bZ.one C4 (jR.of (H9.cls (i:=19) rfl) rfl))) (Ip (v:=vP z 0) (rs:= []) 6 rfl rfl rfl (dT r) e7 (λ _ _=>Iq rfl) (Ip (v:=vP z 0) (rs:= []) 7 rfl rfl rfl (dT r) e7 (λ _ _=>yk) (Ip (v:=vP z 0) (rs:= []) 8 rfl rfl rfl (dT r) e7 (λ _ _=>yk) (Ip (v:=vP z 0) (rs:= []) 9 rfl rfl rfl (dT r) e7 (λ _ _=>yk) (Ip (v:=vI f.aa.au) (rs:= []) 10 rfl rfl rfl (dT r) e7 (λ _ ⟨_,H9⟩=>Io rfl (bZ.one C4 (jR.of (H9.cls (i:=0) rfl) rfl))) (Ip (v:= .bool (decide (a.aJ > f.aa.au))) (rs:= []) 11 rfl rfl rfl (dT r) e7 (λ _ _=>yk) (qt (v:= .bool (decide (a.aJ > f.aa.au))) 12 rfl (λ _ _=>Iw rfl (dT r) rfl) (qa 13 rfl rfl (qn (Ig (Ic (sr (La (iH a l g n h p j) dz 19 N5 N6 ?_))))))))))))))
 obtain⟨bq,ag⟩:∃ q,lQ a=q:=⟨_,rfl⟩
 obtain⟨oH,iw,aR,iy,lK⟩:=Ii dz
 refine cl Tryz.call21 (vK _ _ a l a.aH.ls.length g n a.ai.ls.length h P p a.ag.ls.length j bq iw rfl (aR _ av) e6 Q rfl (aR _ ay) e6 (λ s t=>⟨aR _ (u s t).1,(u s t).2⟩) rfl (aR _ az) e6 i3 ag) ?_
 rintro _ oI ⟨rfl,iA⟩
 have bu:=iy _ _ iA
 have lL: ¬ (bq=0)\/(a.aH.ls.length<=24/\a.ag.ls.length<=1000/\a.ai.ls.length<=1000/\(¬ (a.aD=1)\/11<=a.aJ/\a.aJ<=14)/\(¬ (a.aD=9)\/1<=a.aJ/\a.aJ<=4)):=Dy ag
 refine fw (.bool (decide (¬ (bq=0)))) (IG (e:= !(decide (bq=0))) yk decide_not.symm) (Mz rfl ?_)
 by_cases O:bq=0
 refine gw (vP G 2) (dF (Lh O)) yk (gw (vI a.fI) (dF (Lh O)) (Io rfl (bZ.one C4 (jR.of (bu.cls (i:=19) rfl) rfl))) (gw (.bool (decide (¬ (a.fI=0)))) (dF (Lh O)) (IG (e:= !(decide (a.fI=0))) yk decide_not.symm) (fw (.bool (decide (¬ (a.fI=0)))) (Ih rfl (dF (Lh O)) rfl) (Mz rfl ?_))))
 by_cases aN:a.fI=0
 refine gw (.bool (decide (a.aJ > f.aa.au))) (dF (Lh aN)) (Iq rfl) (fw (.bool (decide (a.aJ > f.aa.au))) (Ih rfl (dF (Lh aN)) rfl) (nt ?_))
 by_cases dA:a.aJ > f.aa.au
 refine jT (dT dA) (sr (Kz (.agg #[.slice none 0 0, .bool false]) ?_))
 have kH:=bu.pf [18]
 refine dS [.slice none 0 0, .bool false] 0 kH T4 ?_
 intro iB iC
 refine An rfl (rt (tR (Fin.res (kS (vs:= [.agg #[.slice none 0 0, .bool false],vI 180]) rfl (eu.cell rfl (Iy (cs:= [.slice none 0 0, .bool false]) T5 T4 ((iC.cls (i:=0) rfl).lit (k:=0) (m:=2) rfl)) (eu.tmp rfl eu.nil)) (Le rfl)) ?_)))
 have kI:=iC.pb [0,19]
 have kK:=fe B C R S T U V W kI
 have kL:Own w D iB [sepL (q3 bf.own []),iG z f,blk aM [.slice none 0 0, .bool false] 47,blk G (iH a l g n h p j) 42]:=kK.sepNil
 have kM:Own w D iB (row none 0 0 (q3 bf.cells []) 42 21::_):=kL.free (eZ 42 21)
 have kN:=kM.pk [0,1,2]
 obtain⟨rfl,rfl,rfl⟩:=Ae (zj hr (show _=(kC.mk (E2 []) false,180,f) from et (ip r) (et (ah ag) (et (ip O) (et (ip aN) (ip dA))))))
 exact⟨none,0, [],rfl,kN,rfl,i1,f5⟩
 refine jF (dF dA) (sk (sr (Mz rfl (Kz (.func (.func 23) #[] #[vP G 0]) ?_))))
 refine WL.do rfl (Iz T6 rfl ?_ (λ _ _ k=>k))
 refine cb U0 ?_
 refine sr ?_
 refine dV [.slice none 0 0, .bool false] 47 bu ?_
 intro kP oJ bv
 refine ns (Mz rfl (Kz (vP z 0) (Kz (vP z 0) (La ([vI f.aa.au,vU f.aa.av,vU f.aa.aV,vU f.aa.aL, .slice dn f.aa.ag.ls.length aV, .slice dw f.aa.aj.ls.length aX, .slice dx f.aa.aF.ls.length bg]) bv 1 U1 H4 ?_))))
 obtain⟨⟨aG,iD⟩,dI⟩:∃ q:(List UInt8) × Int,fA f.aa=q:=⟨_,rfl⟩
 obtain⟨oK,iE,lM,iF,ai⟩:=Ii bv
 refine cl U2 (kJ _ _ f.aa dn f.aa.ag.ls.length aV dw f.aa.aj.ls.length aX il dx f.aa.aF.ls.length bg iq aG iD iE rfl (ai _ 2 _ rfl aO) e6 B rfl (ai _ 3 _ rfl aO) e6 (λ s t=>⟨ai _ 4 _ rfl (ax (Q3.2 ⟨s,t,b1⟩) aO),aZ (φ:=λ _=>_) bv (i:=4) rfl (ax (Q3.2 ⟨s,t,b1⟩) aW)⟩) C rfl (ai _ 5 _ rfl aO) e6 (λ s t=>⟨ai _ 6 _ rfl (ax (Q3.2 ⟨s,t,b1⟩) aO),aZ (φ:=λ _=>_) bv (i:=6) rfl (ax (Q3.2 ⟨s,t,b1⟩) aW),(λ y1 k1=>⟨ai _ 6 _ rfl (ax (Q3.2 ⟨s,t, .tail _ b1⟩) (ax (Q3.2 ⟨y1,k1,b1⟩) aO)),aZ (φ:=λ _=>_) bv (i:=6) rfl (ax (Q3.2 ⟨s,t, .tail _ b1⟩) (ax (Q3.2 ⟨y1,k1,b1⟩) aW))⟩)⟩) e8 i4 dI) ?_
 rintro _ lN ⟨bB,bC,rfl,fK,bD⟩
 have dJ:=iF _ _ fK
 have kQ:=zr 0 dJ
 replace bD:aG.length<=100000:=bD
 refine Mz rfl (Kz (.slice bB aG.length bC) (Kz (vI iD) (Az rfl (Ar rfl (Mz rfl (Kz (.agg #[vP z 0, .slice none 0 0]) ?_))))))
 refine dV [vP z 0, .slice none 0 0] 98 dJ ?_
 intro aS dK dL
 refine Ar rfl (Mz rfl (Mz rfl ?_))
 refine WL.do rfl (IK Tryz.call23 rfl rfl ?_ (λ _ _ k=>k))
 refine cb Tryz.func23 ?_
 refine Ib (Mz rfl (La (iH a l g n h p j) dL 22 N5 N6 ?_))
 have iI:=dL.pb [0,1,2,21,22]
 have iJ:=fe B C R S T U V W iI
 have iK:Own w D dK [sepL (q3 bf.own []),iG z f,blk aS [vP z 0, .slice none 0 0] 98,row bB aG.length bC (q3 eB aG) 5 1,blk kP [.slice none 0 0, .bool false] 47,blk aM [.slice none 0 0, .bool false] 47,blk G (iH a l g n h p j) 42]:=iJ.sepNil
 have iL:Own w D dK (row none 0 0 (q3 bf.cells []) 42 21::_):=iK.free (eZ 42 21)
 have iM:=iL.pf [3]
 obtain⟨⟨L,b⟩,aP⟩:∃ q:bI × aA,iR (bI.mk (E2 [])) a f=q:=⟨_,rfl⟩
 obtain⟨lS,fM,aC,fO,kR⟩:=I5 iM
 refine cl Tryz.call24 (sF _ _ aS (bI.mk (E2 [])) none 0 [] a l a.aH.ls.length g n a.ai.ls.length h P p a.ag.ls.length j z f L b fM rfl rfl (aC _ av) e6 Q rfl (aC _ ay) e6 (λ s t=>⟨aC _ (u s t).1,(u s t).2⟩) rfl (aC _ az) e6 e8 f5 e8 j1 e8 aP) ?_
 rintro _ lT ⟨X,Y,iO,rfl,fP,bF⟩
 have dM:=fO _ _ fP
 have kT:=aB bF
 have kU:=zr 1 dM
 have bG:=zF aP (rR f5 f5) e6 e6
 have kV:Mk b:=bG.2 f5
 have kW:b.aa.ag.ls.length=f.aa.ag.ls.length/\b.aa.au=f.aa.au/\b.ay.ls.length+b.aa.aj.ls.length<=8/\b.aa.aF.ls.length<=f.aa.aF.ls.length+1:=JQ bG.1 e6
 refine C6 (IA (res0 rfl) (nt (Ic ?_)))
 have iP:=dM.pf [3]
 obtain⟨dN,bH,dO,bJ,iQ,dP,bK,iT,lU,lV,lW,lX,lY,lZ,l5,l6,l7,l8,l9,ma,mf,mg,mh,mi,mo,mq,bM,bN,fQ,fT,fU,fV,fZ,gm,kX,aH⟩:=iZ iP
 refine Ib (Mz rfl (Kz (vP z 0) (Kz (vP z 0) (La ([vI b.aa.au,vU b.aa.av,vU b.aa.aV,vU b.aa.aL, .slice dN b.aa.ag.ls.length bH, .slice dO b.aa.aj.ls.length bJ, .slice dP b.aa.aF.ls.length bK]) aH 0 U1 H4 ?_))))
 obtain⟨⟨aj,dQ⟩,bO⟩:∃ q:(List UInt8) × Int,fA b.aa=q:=⟨_,rfl⟩
 obtain⟨mr,gp,kY,gq,I⟩:=Ii aH
 refine cl U2 (kJ _ _ b.aa dN b.aa.ag.ls.length bH dO b.aa.aj.ls.length bJ iQ dP b.aa.aF.ls.length bK iT aj dQ gp rfl (I _ 1 _ rfl aO) e6 bM rfl (I _ 2 _ rfl aO) e6 (λ s t=>⟨I _ 3 _ rfl (ax (Q3.2 ⟨s,t,b1⟩) aO),aZ (φ:=λ _=>_) aH (i:=3) rfl (ax (Q3.2 ⟨s,t,b1⟩) aW)⟩) bN rfl (I _ 4 _ rfl aO) e6 (λ s t=>⟨I _ 5 _ rfl (ax (Q3.2 ⟨s,t,b1⟩) aO),aZ (φ:=λ _=>_) aH (i:=5) rfl (ax (Q3.2 ⟨s,t,b1⟩) aW),(λ y1 k1=>⟨I _ 5 _ rfl (ax (Q3.2 ⟨s,t, .tail _ b1⟩) (ax (Q3.2 ⟨y1,k1,b1⟩) aO)),aZ (φ:=λ _=>_) aH (i:=5) rfl (ax (Q3.2 ⟨s,t, .tail _ b1⟩) (ax (Q3.2 ⟨y1,k1,b1⟩) aW))⟩)⟩) e8 i4 bO) ?_
 rintro _ mD ⟨dR,dU,rfl,gu,bP⟩
 have dW:=gq _ _ gu
 have kZ:=zr 0 dW
 replace bP:aj.length<=100000:=bP
 refine Mz rfl (Kz (.slice dR aj.length dU) (Kz (vI dQ) (Az rfl (An rfl (Ic ?_)))))
 have iU:=dW.pb [23]
 refine pU 25 [] (Iu IC) iU ?_
 intro mE iV
 refine qv 0 rfl rfl (qp aS 0 1 rfl (qp aS 1 2 rfl (ql 3 rfl 19 U3 rfl rfl rfl (qv 4 rfl rfl (qv 5 rfl rfl ?_)))))
 obtain⟨E,bQ⟩:∃ q,bytes_Equal aG aj=q:=⟨_,rfl⟩
 obtain⟨mF,gy,lc,gz,bR⟩:=Ii iV
 refine qd 6 rfl (Iz U4 rfl (rT _ _ bB aG.length bC aG dR aj.length dU aj E gy (bR _ 22 _ rfl aO) rfl e6 (bR _ 0 _ rfl aO) rfl e6 bQ) ?_)
 rintro _ mG ⟨rfl,gB⟩
 have dX:=gz _ _ gB
 refine⟨.inr ⟨_,dX⟩, ?_⟩
 refine qk (.bool (!E)) 7 rfl (qk (.agg #[.slice X L.aX.ls.length Y, .bool (!E)]) 8 rfl ?_)
 have iW:=dX.pf [25]
 refine qe 9 rfl (Do.store (vs:= [.slice X L.aX.ls.length Y, .bool (!E)]) (o:=0) iW rfl rfl T4 rfl rfl rfl rfl ?_)
 intro mH iX
 have bS:=iX.pb [0]
 refine⟨.inr ⟨_,bS⟩, ?_⟩
 refine qn (Ig (rt (Fin.res (ol rfl rfl (Iy (cs:= [.slice X L.aX.ls.length Y, .bool (!E)]) T5 T4 ((bS.cls (i:=25) rfl).lit (k:=0) (m:=2) rfl))) ?_)))
 have iY:=bS.pf [23]
 refine dS [.slice X L.aX.ls.length Y, .bool (!E)] 0 iY T4 ?_
 intro mI dY
 refine An rfl (rt (Fin.res (kS (vs:= [.agg #[.slice X L.aX.ls.length Y, .bool (!E)],vI 0]) rfl (eu.cell rfl (Iy (cs:= [.slice X L.aX.ls.length Y, .bool (!E)]) T5 T4 ((dY.cls (i:=0) rfl).lit (k:=0) (m:=2) rfl)) (eu.tmp rfl eu.nil)) (Le rfl)) ?_))
 have ja:=dY.pb [0,1,20,21,22,23,24,25]
 have jb:=fe bM bN fQ fT fU fV fZ gm ja
 have jc:=jb.pk [4,5,0]
 obtain⟨rfl,rfl,rfl⟩:=Ae (zj hr (show _=(kC.mk (E2 L.aX.ls) (!E),0,b) from et (ip r) (et (ah ag) (et (ip O) (et (ip aN) (et (iN dA) (et (ah dI) (et (ah aP) (et (ah bO) (ah bQ))))))))))
 exact⟨X,Y,iO,rfl,jc,bF,i1,f5⟩
 refine Sz (dT aN) (fw (.bool true) (Iw rfl (dT aN) rfl) (nt (jt (sr (Kz (.agg #[.slice none 0 0, .bool false]) ?_)))))
 have jd:=bu.pf [18]
 refine dS [.slice none 0 0, .bool false] 0 jd T4 ?_
 intro dZ ed
 refine An rfl (rt (tR (Fin.res (kS (vs:= [.agg #[.slice none 0 0, .bool false],vI 180]) rfl (eu.cell rfl (Iy (cs:= [.slice none 0 0, .bool false]) T5 T4 ((ed.cls (i:=0) rfl).lit (k:=0) (m:=2) rfl)) (eu.tmp rfl eu.nil)) (Le rfl)) ?_)))
 have je:=ed.pb [0,19]
 have jg:=fe B C R S T U V W je
 have jh:Own w D dZ [sepL (q3 bf.own []),iG z f,blk aM [.slice none 0 0, .bool false] 47,blk G (iH a l g n h p j) 42]:=jg.sepNil
 have ji:Own w D dZ (row none 0 0 (q3 bf.cells []) 42 21::_):=jh.free (eZ 42 21)
 have jk:=ji.pk [0,1,2]
 obtain⟨rfl,rfl,rfl⟩:=Ae (zj hr (show _=(kC.mk (E2 []) false,180,f) from et (ip r) (et (ah ag) (et (ip O) (iN aN)))))
 exact⟨none,0, [],rfl,jk,rfl,i1,f5⟩
 refine Sz (dT O) (Sz (dT O) (Sz (dT O) (fw (.bool true) (Iw rfl (dT O) rfl) (Mz rfl (Sz rfl (fw (.bool true) (Iw rfl rfl rfl) (nt (jt (sr (Kz (.agg #[.slice none 0 0, .bool false]) ?_))))))))))
 have jl:=bu.pf [18]
 refine dS [.slice none 0 0, .bool false] 0 jl T4 ?_
 intro ek eD
 refine An rfl (rt (tR (Fin.res (kS (vs:= [.agg #[.slice none 0 0, .bool false],vI 180]) rfl (eu.cell rfl (Iy (cs:= [.slice none 0 0, .bool false]) T5 T4 ((eD.cls (i:=0) rfl).lit (k:=0) (m:=2) rfl)) (eu.tmp rfl eu.nil)) (Le rfl)) ?_)))
 have jm:=eD.pb [0,19]
 have jo:=fe B C R S T U V W jm
 have jq:Own w D ek [sepL (q3 bf.own []),iG z f,blk aM [.slice none 0 0, .bool false] 47,blk G (iH a l g n h p j) 42]:=jo.sepNil
 have jr:Own w D ek (row none 0 0 (q3 bf.cells []) 42 21::_):=jq.free (eZ 42 21)
 have jv:=jr.pk [0,1,2]
 obtain⟨rfl,rfl,rfl⟩:=Ae (zj hr (show _=(kC.mk (E2 []) false,180,f) from et (ip r) (et (ah ag) (iN O))))
 exact⟨none,0, [],rfl,jv,rfl,i1,f5⟩
 refine Ik (rs:= []) 4 rfl rfl rfl (dF r) e7 (Ik (rs:= []) 5 rfl rfl rfl (dF r) e7 (Ik (rs:= []) 6 rfl rfl rfl (dF r) e7 (Ik (rs:= []) 7 rfl rfl rfl (dF r) e7 (Ik (rs:= []) 8 rfl rfl rfl (dF r) e7 (Ik (rs:= []) 9 rfl rfl rfl (dF r) e7 (Ik (rs:= []) 10 rfl rfl rfl (dF r) e7 (Ik (rs:= []) 11 rfl rfl rfl (dF r) e7 (qt (v:= .bool false) 12 rfl (λ _ _=>Ih rfl (dF r) rfl) (qa 13 rfl rfl (qn (Ig (Ic (sr (La (iH a l g n h p j) dz 19 N5 N6 ?_))))))))))))))
 obtain⟨aJ,Z⟩:∃ q,lQ a=q:=⟨_,rfl⟩
 obtain⟨mJ,gD,aD,gF,lg⟩:=Ii dz
 refine cl Tryz.call21 (vK _ _ a l a.aH.ls.length g n a.ai.ls.length h P p a.ag.ls.length j aJ gD rfl (aD _ av) e6 Q rfl (aD _ ay) e6 (λ s t=>⟨aD _ (u s t).1,(u s t).2⟩) rfl (aD _ az) e6 i3 Z) ?_
 rintro _ mK ⟨rfl,gG⟩
 have aT:=gF _ _ gG
 have lh: ¬ (aJ=0)\/(a.aH.ls.length<=24/\a.ag.ls.length<=1000/\a.ai.ls.length<=1000/\(¬ (a.aD=1)\/11<=a.aJ/\a.aJ<=14)/\(¬ (a.aD=9)\/1<=a.aJ/\a.aJ<=4)):=Dy Z
 refine fw (.bool (decide (¬ (aJ=0)))) (IG (e:= !(decide (aJ=0))) yk decide_not.symm) (Mz rfl ?_)
 by_cases y:aJ=0
 refine gw (vP G 2) (dF (Lh y)) yk (gw (vI a.fI) (dF (Lh y)) (Io rfl (bZ.one C4 (jR.of (aT.cls (i:=19) rfl) rfl))) (gw (.bool (decide (¬ (a.fI=0)))) (dF (Lh y)) (IG (e:= !(decide (a.fI=0))) yk decide_not.symm) (fw (.bool (decide (¬ (a.fI=0)))) (Ih rfl (dF (Lh y)) rfl) (Mz rfl ?_))))
 by_cases ak:a.fI=0
 refine gw (.bool false) (dF (Lh ak)) (Iq rfl) (fw (.bool false) (Ih rfl (dF (Lh ak)) rfl) (nt (jf (sk (sr (Mz rfl (Kz (.func (.func 23) #[] #[vP G 0]) ?_)))))))
 refine WL.do rfl (Iz T6 rfl ?_ (λ _ _ k=>k))
 refine cb U0 ?_
 refine sr ?_
 refine dV [.slice none 0 0, .bool false] 47 aT ?_
 intro jw mM aK
 refine ns (Mz rfl (Kz (vP z 0) (Kz (vP z 0) (La ([vI f.aa.au,vU f.aa.av,vU f.aa.aV,vU f.aa.aL, .slice dn f.aa.ag.ls.length aV, .slice dw f.aa.aj.ls.length aX, .slice dx f.aa.aF.ls.length bg]) aK 1 U1 H4 ?_))))
 obtain⟨⟨M,eF⟩,bT⟩:∃ q:(List UInt8) × Int,fA f.aa=q:=⟨_,rfl⟩
 obtain⟨mO,gH,ll,gI,J⟩:=Ii aK
 refine cl U2 (kJ _ _ f.aa dn f.aa.ag.ls.length aV dw f.aa.aj.ls.length aX il dx f.aa.aF.ls.length bg iq M eF gH rfl (J _ 2 _ rfl aO) e6 B rfl (J _ 3 _ rfl aO) e6 (λ s t=>⟨J _ 4 _ rfl (ax (Q3.2 ⟨s,t,b1⟩) aO),aZ (φ:=λ _=>_) aK (i:=4) rfl (ax (Q3.2 ⟨s,t,b1⟩) aW)⟩) C rfl (J _ 5 _ rfl aO) e6 (λ s t=>⟨J _ 6 _ rfl (ax (Q3.2 ⟨s,t,b1⟩) aO),aZ (φ:=λ _=>_) aK (i:=6) rfl (ax (Q3.2 ⟨s,t,b1⟩) aW),(λ y1 k1=>⟨J _ 6 _ rfl (ax (Q3.2 ⟨s,t, .tail _ b1⟩) (ax (Q3.2 ⟨y1,k1,b1⟩) aO)),aZ (φ:=λ _=>_) aK (i:=6) rfl (ax (Q3.2 ⟨s,t, .tail _ b1⟩) (ax (Q3.2 ⟨y1,k1,b1⟩) aW))⟩)⟩) e8 i4 bT) ?_
 rintro _ mP ⟨bU,bV,rfl,gJ,bW⟩
 have eG:=gI _ _ gJ
 have lm:=zr 0 eG
 replace bW:M.length<=100000:=bW
 refine Mz rfl (Kz (.slice bU M.length bV) (Kz (vI eF) (Az rfl (Ar rfl (Mz rfl (Kz (.agg #[vP z 0, .slice none 0 0]) ?_))))))
 refine dV [vP z 0, .slice none 0 0] 98 eG ?_
 intro aU eH eO
 refine Ar rfl (Mz rfl (Mz rfl ?_))
 refine WL.do rfl (IK Tryz.call23 rfl rfl ?_ (λ _ _ k=>k))
 refine cb Tryz.func23 ?_
 refine Ib (Mz rfl (La (iH a l g n h p j) eO 22 N5 N6 ?_))
 have jy:=eO.pb [0,1,2,21,22]
 have jA:=fe B C R S T U V W jy
 have jB:Own w D eH [sepL (q3 bf.own []),iG z f,blk aU [vP z 0, .slice none 0 0] 98,row bU M.length bV (q3 eB M) 5 1,blk jw [.slice none 0 0, .bool false] 47,blk aM [.slice none 0 0, .bool false] 47,blk G (iH a l g n h p j) 42]:=jA.sepNil
 have jC:Own w D eH (row none 0 0 (q3 bf.cells []) 42 21::_):=jB.free (eZ 42 21)
 have jD:=jC.pf [3]
 obtain⟨⟨N,d⟩,aQ⟩:∃ q:bI × aA,iR (bI.mk (E2 [])) a f=q:=⟨_,rfl⟩
 obtain⟨mQ,gK,aF,gL,lq⟩:=I5 jD
 refine cl Tryz.call24 (sF _ _ aU (bI.mk (E2 [])) none 0 [] a l a.aH.ls.length g n a.ai.ls.length h P p a.ag.ls.length j z f N d gK rfl rfl (aF _ av) e6 Q rfl (aF _ ay) e6 (λ s t=>⟨aF _ (u s t).1,(u s t).2⟩) rfl (aF _ az) e6 e8 f5 e8 j1 e8 aQ) ?_
 rintro _ mR ⟨aa,af,jE,rfl,gM,bX⟩
 have eP:=gL _ _ gM
 have lu:=aB bX
 have lv:=zr 1 eP
 have bY:=zF aQ (rR f5 f5) e6 e6
 have lw:Mk d:=bY.2 f5
 have lC:d.aa.ag.ls.length=f.aa.ag.ls.length/\d.aa.au=f.aa.au/\d.ay.ls.length+d.aa.aj.ls.length<=8/\d.aa.aF.ls.length<=f.aa.aF.ls.length+1:=JQ bY.1 e6
 refine C6 (IA (res0 rfl) (nt (Ic ?_)))
 have jG:=eP.pf [3]
 obtain⟨eQ,cu,eU,cz,jH,eX,cB,jI,mU,mV,mW,mX,mY,mZ,ng,ni,nk,nu,ny,nz,nA,nC,nD,nE,nG,nH,cK,cO,gN,gP,gQ,gT,gV,gW,lD,aL⟩:=iZ jG
 refine Ib (Mz rfl (Kz (vP z 0) (Kz (vP z 0) (La ([vI d.aa.au,vU d.aa.av,vU d.aa.aV,vU d.aa.aL, .slice eQ d.aa.ag.ls.length cu, .slice eU d.aa.aj.ls.length cz, .slice eX d.aa.aF.ls.length cB]) aL 0 U1 H4 ?_))))
 obtain⟨⟨au,eY⟩,cZ⟩:∃ q:(List UInt8) × Int,fA d.aa=q:=⟨_,rfl⟩
 obtain⟨nI,gX,lF,gY,K⟩:=Ii aL
 refine cl U2 (kJ _ _ d.aa eQ d.aa.ag.ls.length cu eU d.aa.aj.ls.length cz jH eX d.aa.aF.ls.length cB jI au eY gX rfl (K _ 1 _ rfl aO) e6 cK rfl (K _ 2 _ rfl aO) e6 (λ s t=>⟨K _ 3 _ rfl (ax (Q3.2 ⟨s,t,b1⟩) aO),aZ (φ:=λ _=>_) aL (i:=3) rfl (ax (Q3.2 ⟨s,t,b1⟩) aW)⟩) cO rfl (K _ 4 _ rfl aO) e6 (λ s t=>⟨K _ 5 _ rfl (ax (Q3.2 ⟨s,t,b1⟩) aO),aZ (φ:=λ _=>_) aL (i:=5) rfl (ax (Q3.2 ⟨s,t,b1⟩) aW),(λ y1 k1=>⟨K _ 5 _ rfl (ax (Q3.2 ⟨s,t, .tail _ b1⟩) (ax (Q3.2 ⟨y1,k1,b1⟩) aO)),aZ (φ:=λ _=>_) aL (i:=5) rfl (ax (Q3.2 ⟨s,t, .tail _ b1⟩) (ax (Q3.2 ⟨y1,k1,b1⟩) aW))⟩)⟩) e8 i4 cZ) ?_
 rintro _ nJ ⟨fo,fq,rfl,gZ,df⟩
 have fu:=gY _ _ gZ
 have lG:=zr 0 fu
 replace df:au.length<=100000:=df
 refine Mz rfl (Kz (.slice fo au.length fq) (Kz (vI eY) (Az rfl (An rfl (Ic ?_)))))
 have jJ:=fu.pb [23]
 refine pU 25 [] (Iu IC) jJ ?_
 intro nK jK
 refine qv 0 rfl rfl (qp aU 0 1 rfl (qp aU 1 2 rfl (ql 3 rfl 19 U3 rfl rfl rfl (qv 4 rfl rfl (qv 5 rfl rfl ?_)))))
 obtain⟨F,dh⟩:∃ q,bytes_Equal M au=q:=⟨_,rfl⟩
 obtain⟨nL,ib,lH,ic,di⟩:=Ii jK
 refine qd 6 rfl (Iz U4 rfl (rT _ _ bU M.length bV M fo au.length fq au F ib (di _ 22 _ rfl aO) rfl e6 (di _ 0 _ rfl aO) rfl e6 dh) ?_)
 rintro _ nM ⟨rfl,ig⟩
 have fB:=ic _ _ ig
 refine⟨.inr ⟨_,fB⟩, ?_⟩
 refine qk (.bool (!F)) 7 rfl (qk (.agg #[.slice aa N.aX.ls.length af, .bool (!F)]) 8 rfl ?_)
 have jL:=fB.pf [25]
 refine qe 9 rfl (Do.store (vs:= [.slice aa N.aX.ls.length af, .bool (!F)]) (o:=0) jL rfl rfl T4 rfl rfl rfl rfl ?_)
 intro nN jM
 have dm:=jM.pb [0]
 refine⟨.inr ⟨_,dm⟩, ?_⟩
 refine qn (Ig (rt (Fin.res (ol rfl rfl (Iy (cs:= [.slice aa N.aX.ls.length af, .bool (!F)]) T5 T4 ((dm.cls (i:=25) rfl).lit (k:=0) (m:=2) rfl))) ?_)))
 have jN:=dm.pf [23]
 refine dS [.slice aa N.aX.ls.length af, .bool (!F)] 0 jN T4 ?_
 intro nO fC
 refine An rfl (rt (Fin.res (kS (vs:= [.agg #[.slice aa N.aX.ls.length af, .bool (!F)],vI 0]) rfl (eu.cell rfl (Iy (cs:= [.slice aa N.aX.ls.length af, .bool (!F)]) T5 T4 ((fC.cls (i:=0) rfl).lit (k:=0) (m:=2) rfl)) (eu.tmp rfl eu.nil)) (Le rfl)) ?_))
 have jO:=fC.pb [0,1,20,21,22,23,24,25]
 have jP:=fe cK cO gN gP gQ gT gV gW jO
 have jQ:=jP.pk [4,5,0]
 obtain⟨rfl,rfl,rfl⟩:=Ae (zj hr (show _=(kC.mk (E2 N.aX.ls) (!F),0,d) from et (iN r) (et (ah Z) (et (ip y) (et (ip ak) (et (ah bT) (et (ah aQ) (et (ah cZ) (ah dh)))))))))
 exact⟨aa,af,jE,rfl,jQ,bX,i1,f5⟩
 refine Sz (dT ak) (fw (.bool true) (Iw rfl (dT ak) rfl) (nt (jt (sr (Kz (.agg #[.slice none 0 0, .bool false]) ?_)))))
 have jS:=aT.pf [18]
 refine dS [.slice none 0 0, .bool false] 0 jS T4 ?_
 intro fD fE
 refine An rfl (rt (tR (Fin.res (kS (vs:= [.agg #[.slice none 0 0, .bool false],vI 180]) rfl (eu.cell rfl (Iy (cs:= [.slice none 0 0, .bool false]) T5 T4 ((fE.cls (i:=0) rfl).lit (k:=0) (m:=2) rfl)) (eu.tmp rfl eu.nil)) (Le rfl)) ?_)))
 have jU:=fE.pb [0,19]
 have jV:=fe B C R S T U V W jU
 have jW:Own w D fD [sepL (q3 bf.own []),iG z f,blk aM [.slice none 0 0, .bool false] 47,blk G (iH a l g n h p j) 42]:=jV.sepNil
 have jX:Own w D fD (row none 0 0 (q3 bf.cells []) 42 21::_):=jW.free (eZ 42 21)
 have jY:=jX.pk [0,1,2]
 obtain⟨rfl,rfl,rfl⟩:=Ae (zj hr (show _=(kC.mk (E2 []) false,180,f) from et (iN r) (et (ah Z) (et (ip y) (iN ak)))))
 exact⟨none,0, [],rfl,jY,rfl,i1,f5⟩
 refine Sz (dT y) (Sz (dT y) (Sz (dT y) (fw (.bool true) (Iw rfl (dT y) rfl) (Mz rfl (Sz rfl (fw (.bool true) (Iw rfl rfl rfl) (nt (jt (sr (Kz (.agg #[.slice none 0 0, .bool false]) ?_))))))))))
 have jZ:=aT.pf [18]
 refine dS [.slice none 0 0, .bool false] 0 jZ T4 ?_
 intro fF fG
 refine An rfl (rt (tR (Fin.res (kS (vs:= [.agg #[.slice none 0 0, .bool false],vI 180]) rfl (eu.cell rfl (Iy (cs:= [.slice none 0 0, .bool false]) T5 T4 ((fG.cls (i:=0) rfl).lit (k:=0) (m:=2) rfl)) (eu.tmp rfl eu.nil)) (Le rfl)) ?_)))
 have j3:=fG.pb [0,19]
 have j4:=fe B C R S T U V W j3
 have j6:Own w D fF [sepL (q3 bf.own []),iG z f,blk aM [.slice none 0 0, .bool false] 47,blk G (iH a l g n h p j) 42]:=j4.sepNil
 have kg:Own w D fF (row none 0 0 (q3 bf.cells []) 42 21::_):=j6.free (eZ 42 21)
 have ko:=kg.pk [0,1,2]
 obtain⟨rfl,rfl,rfl⟩:=Ae (zj hr (show _=(kC.mk (E2 []) false,180,f) from et (iN r) (et (ah Z) (iN y))))
 exact⟨none,0, [],rfl,ko,rfl,i1,f5⟩
def eQ (b:aA):cZ:=
 bnd (gW b.aa) λ a=>a
theorem kE (w D M) (b:aA) (d:cZ) (H:Own w D w [iG M b]) (aL:b.aa.ag.ls.length<=1000/\b.ay.ls.length+b.aa.aj.ls.length<=8/\b.aa.aF.ls.length<=900) (aM:Mk b) (hr:eQ b=d):
    Calls v8 11 #[vP M 0] w (d9 λ v w'=> ∃ l n o p r s e f,v= .agg #[vI d.au,vU d.av,vU d.aV,vU d.aL, .slice l d.ag.ls.length n, .slice o d.aj.ls.length p, .slice r d.aF.ls.length s]/\Own w D w' [row l d.ag.ls.length n (q3 aY.cells d.ag.ls) 89 2,row o d.aj.ls.length p (q3 aC.cells e) 60 5,sepL (q3 aC.own e),row r d.aF.ls.length s (q3 aU.cells f) 56 4,sepL (q3 aU.own f),iG M b]/\(s5 aC.abs e=d.aj.ls)/\(s5 aU.abs f=d.aF.ls)):=by
 unfold eQ at hr
 refine cb Tryz.func11 ?_
 obtain⟨N,A,O,B,aa,P,C,ae,aN,aP,aQ,aR,aS,aT,aV,aX,bf,bg,bi,bn,bq,bu,bv,bz,bA,bB,t,u,Q,R,S,T,U,V,ay,af⟩:=iZ H
 refine sr ?_
 refine dV [vI 0, .int .u64 0, .int .u64 0, .int .u64 0, .slice none 0 0, .slice none 0 0, .slice none 0 0] 33 af ?_
 intro bC bD g
 refine ns (Mz rfl (Kz (vP M 0) (Kz (vP M 0) (La ([vI b.aa.au,vU b.aa.av,vU b.aa.aV,vU b.aa.aL, .slice N b.aa.ag.ls.length A, .slice O b.aa.aj.ls.length B, .slice P b.aa.aF.ls.length C]) g 1 U1 H4 ?_))))
 obtain⟨a,x⟩:∃ q,gW b.aa=q:=⟨_,rfl⟩
 obtain⟨bE,W,az,X,c⟩:=Ii g
 refine cl Tryz.call20 (nN _ _ b.aa N b.aa.ag.ls.length A O b.aa.aj.ls.length B aa P b.aa.aF.ls.length C ae a W rfl (c _ 2 _ rfl aO) e6 t rfl (c _ 3 _ rfl aO) e6 (λ E h=>⟨c _ 4 _ rfl (ax (Q3.2 ⟨E,h,b1⟩) aO),aZ (φ:=λ _=>_) g (i:=4) rfl (ax (Q3.2 ⟨E,h,b1⟩) aW)⟩) u rfl (c _ 5 _ rfl aO) e6 (λ E h=>⟨c _ 6 _ rfl (ax (Q3.2 ⟨E,h,b1⟩) aO),aZ (φ:=λ _=>_) g (i:=6) rfl (ax (Q3.2 ⟨E,h,b1⟩) aW),(λ y1 k1=>⟨c _ 6 _ rfl (ax (Q3.2 ⟨E,h, .tail _ b1⟩) (ax (Q3.2 ⟨y1,k1,b1⟩) aO)),aZ (φ:=λ _=>_) g (i:=6) rfl (ax (Q3.2 ⟨E,h, .tail _ b1⟩) (ax (Q3.2 ⟨y1,k1,b1⟩) aW))⟩)⟩) e8 (by first | assumption | exact wM f5 | exact λ _ h=>absurd h y6) (by first | assumption | exact wN f5 | exact λ _ h=>absurd h y6) x) ?_
 rintro _ bF ⟨F,G,I,J,K,L,ag,ai,rfl,Y,y,z⟩
 have j:=X _ _ Y
 have aG:=aB y
 have aH:=aB z
 have aI:=zr 0 j
 have aJ:=zr 1 j
 have aK:=zr 3 j
 have aj:=j.pf [5]
 refine dS [vI a.au,vU a.av,vU a.aV,vU a.aL, .slice F a.ag.ls.length G, .slice I a.aj.ls.length J, .slice K a.aF.ls.length L] 0 aj H4 ?_
 intro bG Z
 refine nt (rt (Fin.res (ol rfl rfl (Iy (cs:= [vI a.au,vU a.av,vU a.aV,vU a.aL, .slice F a.ag.ls.length G, .slice I a.aj.ls.length J, .slice K a.aF.ls.length L]) U1 H4 ((Z.cls (i:=0) rfl).lit (k:=0) (m:=7) rfl))) ?_))
 have ak:=Z.pb [0,1,2,3,4,5]
 have au:=fe t u Q R S T U V ak
 have av:=au.px [] [1] [0]
 obtain rfl:=zj hr zq1
 exact⟨F,G,I,J,K,L,ag,ai,rfl,av,y,z⟩
def iM:List dK->List Nat->(List Nat)
  | [],a=>a
  | b::c,a=>iM c (a++ [b.aR])
def jK (a:aA):(List Nat):=
 bnd (iM a.ay.ls []) λ sLrL=>sLrL
theorem uk (w D X) (b:aA) (Z) (H:Own w D w [iG X b]) (bC:b.aa.ag.ls.length<=1000/\b.ay.ls.length+b.aa.aj.ls.length<=8/\b.aa.aF.ls.length<=900) (hr:jK b=Z):
    Calls v8 15 #[vP X 0] w (d9 λ v w'=> ∃ B0 b0,v= .slice B0 Z.length b0/\Own w D w' [row B0 Z.length b0 (q3 (eN .u64) Z) 28 1,iG X b]/\(Z.length<=b.ay.ls.length)):=by
 unfold jK at hr
 refine cb Tryz.func15 ?_
 obtain⟨p,r,t,u,x,z,A,B,h,l,n,C,E,F,G,I,J,K,L,M,N,O,P,Q,R,S,aa,af,V,ag,ai,aj,ak,au,bf,av⟩:=iZ H
 refine sr (Ar rfl (An rfl (Ic (sr (Mz rfl (Kz (vP X 0) (Kz (vP X 8) (Lz (.slice h b.ay.ls.length l) av 0 Tryz.isAgg79 (Kz (vJ b.ay.ls.length) (Mn rfl (bo ?_)))))))))))
 have aI:Own w D w [row none 0 0 (q3 (eN .u64) []) 28 1,mK X b p b.aa.ag.ls.length r t u z A h l C E G I K L N O Q R,row p b.aa.ag.ls.length r (q3 aY.cells b.aa.ag.ls) 89 2,row t b.aa.aj.ls.length u (q3 aC.cells x) 60 5,sepL (q3 aC.own x),row z b.aa.aF.ls.length A (q3 aU.cells B) 56 4,sepL (q3 aU.own B),row h b.ay.ls.length l (q3 bB.cells n) 107 9,sepL (q3 bB.own n),row C b.bK.af.ls.length E (q3 ae.cells F) 149 3,sepL (q3 ae.own F),row G b.bA.af.ls.length I (q3 ae.cells J) 149 3,sepL (q3 ae.own J),row K b.bz.af.ls.length L (q3 ae.cells M) 149 3,sepL (q3 ae.own M),row N b.bv.af.ls.length O (q3 ae.cells P) 149 3,sepL (q3 ae.own P),row Q b.bq.af.ls.length R (q3 ae.cells S) 149 3,sepL (q3 ae.own S)]:=av.free (eZ 28 1)
 have aJ:=aI.pb [0]
 obtain⟨aK,o⟩:=sQ λ T (U:Nat) f (d:Nat) w'=>Own w D w' [mK X b p b.aa.ag.ls.length r t u z A h l C E G I K L N O Q R,row p b.aa.ag.ls.length r (q3 aY.cells b.aa.ag.ls) 89 2,row t b.aa.aj.ls.length u (q3 aC.cells x) 60 5,sepL (q3 aC.own x),row z b.aa.aF.ls.length A (q3 aU.cells B) 56 4,sepL (q3 aU.own B),row h b.ay.ls.length l (q3 bB.cells n) 107 9,sepL (q3 bB.own n),row C b.bK.af.ls.length E (q3 ae.cells F) 149 3,sepL (q3 ae.own F),row G b.bA.af.ls.length I (q3 ae.cells J) 149 3,sepL (q3 ae.own J),row K b.bz.af.ls.length L (q3 ae.cells M) 149 3,sepL (q3 ae.own M),row N b.bv.af.ls.length O (q3 ae.cells P) 149 3,sepL (q3 ae.own P),row Q b.bq.af.ls.length R (q3 ae.cells S) 149 3,sepL (q3 ae.own S),row T f.length U (q3 (eN .u64) f) 28 1]/\d<=b.ay.ls.length/\f.length=d/\f.length<=d/\iM b.ay.ls []=iM (r3 d b.ay.ls) f
 refine C3 (λ i:(Option Addr) × Nat × (List Nat) × Nat=> [(3, .slice i.1 i.2.2.1.length i.2.1),(11,vJ i.2.2.2),(10,vJ b.ay.ls.length),(9, .slice h b.ay.ls.length l),(2, .slice none 0 0)]) aK (λ i=>b.ay.ls.length - i.2.2.2) (none,0, [],0) ⟨rfl,rfl,rfl,rfl,rfl,trivial⟩ (o.2 ⟨aJ,(show 0<=b.ay.ls.length/\0=0/\0<=0/\iM b.ay.ls []=iM (r3 0 b.ay.ls) [] from ⟨e6,e6,e6,rfl⟩)⟩) ?_
 rintro ⟨T,U,f,d⟩ bD ay
 obtain⟨j,bg,bi,bn,W⟩:=o.1 ay
 refine sr (Kz (.bool (decide ((d:Int) < (b.ay.ls.length:Int)))) (nt (Ic ?_)))
 by_cases az:(d:Int) < (b.ay.ls.length:Int)
 obtain⟨a,g⟩:=dN (ls:=n) (i:=d) bB.len f4 (j.rds (i:=6) rfl) e9
 have aB:=fF V g
 have bq:a.bV.ls.length<=a.bV.c/\a.bV.ls.length<=9223372036854775807:=aZ j (i:=7) rfl (φ:=λ _=>_) (ax (Q3.2 ⟨a,D3 g,b1⟩) aW)
 have bu:a.aG.ls.length<=a.aG.c/\a.aG.ls.length<=9223372036854775807:=aZ j (i:=7) rfl (φ:=λ _=>_) (ax (Q3.2 ⟨a,D3 g, .tail _ b1⟩) aW)
 have bv:a.bD.ls.length<=a.bD.c/\a.bD.ls.length<=9223372036854775807:=aZ j (i:=7) rfl (φ:=λ _=>_) (ax (Q3.2 ⟨a,D3 g, .tail _ b2⟩) aW)
 have bz:a.af.ls.length<=a.af.c/\a.af.ls.length<=9223372036854775807:=aZ j (i:=7) rfl (φ:=λ _=>_) (ax (Q3.2 ⟨a,D3 g, .tail _ b3⟩) aW)
 have aD:=drop_at aB
 refine jT (dT az) (sk (Ic (bo (sr (fw (.pointer (some ⟨ab h,ao h+d *9,none⟩)) (Ij (qh) rfl rfl ((j.rds (i:=6) rfl).addr (i:=d) e6) e6) (fw (.agg (bB.cells a).toArray) (Io rfl (Iy (cs:=(bB.cells a)) Tryz.isAgg107 Tryz.sizeOf107 ((j.rds (i:=6) rfl).elem bB.len g f4))) ?_))))))
 refine dV (rJ 0 0 0 0 none 0 0 none 0 0 none 0 0 none 0 0 0) 107 j ?_
 intro aL bE aM
 refine dS (bB.cells a) 0 aM Tryz.sizeOf107 ?_
 intro bF aF
 refine nt (Ib (Mz rfl (Kz (vP aL 0) (Lz (vU a.aR) aF 0 D4 ?_))))
 refine lg [vU a.aR] 28 1 1 aF ?_
 intro aN bG Y
 replace Y:=IL (y:=row aN 1 1 (q3 (eN .u64) ([a.aR])) 28 1) rfl Y
 have aG:=Y.pf [20]
 refine WL.do rfl (IM (k:=f.length) (m:=1) (uY) aG rfl rfl (jv Tryz.underlying61 (aG.rds (i:=1) rfl) (fU Fx ([a.aR]))) rfl e6 (s:=List.length (f++ [a.aR])) f7 (List.flatMap_append).symm ?_)
 intro aO aP bH aQ
 have bA:List.length (f++ [a.aR])=f.length+1:=by simp only [List.length_append,List.length_cons,List.length_nil]
 refine Az rfl (C6 (bN (Ig (Ib (fw (vJ (d+1)) (Ie (e:=C5.wrap ((d:Int)+1)) yk f0) (Mz rfl (C6 ?_)))))))
 have aR:=aQ.px [] [1,2] [0]
 exact Ir (aO,aP,(f++ [a.aR]),d+1) ⟨rfl,rfl,rfl,rfl,rfl,trivial⟩ (o.2 ⟨aR,e6,e6,e6,et (W) (et (congrArg (λ q=>iM q f) aD) rfl)⟩) (by show b.ay.ls.length - (d+1) < b.ay.ls.length - d; omega)
 refine jF (dF az) (C7 (Il ?_))
 have aH:iM b.ay.ls []=f:=et (W) (et (congrArg (λ q=>iM q f) (fB (ls:=b.ay.ls) (i:=d) e6)) rfl)
 refine Il (IB (Ig (sr (Mz rfl (An rfl (rt (rs ?_)))))))
 have aS:=fe aa af V ag ai aj ak au j
 have aT:=aS.pb [0]
 obtain rfl:=zj hr zq1
 exact⟨T,U,rfl,aT,i1⟩
def fV (g:aA) (f:List UInt8):List Nat->List bL->aA->(List bL) × aA
  | [],a,b=>(a,b)
  | d::e,a,b=>bnd (jJ (bI.mk (E2 a)) d b) λ c=>fV g f e c.1.aX.ls c.2
def jB (g:aA) (f:List UInt8) (d:aA):List bH->List bL->(List bL)
  | [],a=>a
  | b::e,a=>bnd (dZ (bI.mk (E2 a)) b.aN b.au.ls true) λ c=>jB g f d e c.aX.ls
def fK (e:List UInt8) (a:aA):Nat->Nat->List bL->(List bL)
  | 0,b,c=>default
  | d+1,b,c=>if(b:Int)<=a.aa.au then if(b:Int)=1 then if(a.dH:Int) >= (a.aa.aV:Int) then fK e a d (b+1) c else bnd (dw (bI.mk (E2 c)) (bL.mk 8 0 (b:Int) 0 0 0 0 0 0 0 a.aa.aV a.aa.aL 0 0 0 false (bC.mk [] []) (E2 []) (E2 []) (E2 a.aa.ag.ls))) λ f=>fK e a d (b+1) f.aX.ls else if(b:Int)=2 then if(a.dI:Int) >= (a.aa.aV:Int) then fK e a d (b+1) c else bnd (dw (bI.mk (E2 c)) (bL.mk 8 0 (b:Int) 0 0 0 0 0 0 0 a.aa.aV a.aa.aL 0 0 0 false (bC.mk [] []) (E2 []) (E2 []) (E2 a.aa.ag.ls))) λ g=>fK e a d (b+1) g.aX.ls else if(b:Int)=3 then if(a.dG:Int) >= (a.aa.aV:Int) then fK e a d (b+1) c else bnd (dw (bI.mk (E2 c)) (bL.mk 8 0 (b:Int) 0 0 0 0 0 0 0 a.aa.aV a.aa.aL 0 0 0 false (bC.mk [] []) (E2 []) (E2 []) (E2 a.aa.ag.ls))) λ h=>fK e a d (b+1) h.aX.ls else if(a.dJ:Int) >= (a.aa.aV:Int) then fK e a d (b+1) c else bnd (dw (bI.mk (E2 c)) (bL.mk 8 0 (b:Int) 0 0 0 0 0 0 0 a.aa.aV a.aa.aL 0 0 0 false (bC.mk [] []) (E2 []) (E2 []) (E2 a.aa.ag.ls))) λ i=>fK e a d (b+1) i.aX.ls else c
def jk (d:aA):kC × aA:=
 bnd (fA d.aa) λ a=>bnd (jK d) λ e=>bnd (fV d a.1 e [] d) λ sLrbbL=>bnd (jB d a.1 sLrbbL.2 sLrbbL.2.aa.aj.ls sLrbbL.1) λ sLrbbLaL=>bnd (fK a.1 sLrbbL.2 ((D0 (d.aa.au+1 - 1))+1) 1 sLrbbLaL) λ sLrbbLaLaL=>bnd (fA sLrbbL.2.aa) λ b=>bnd (bytes_Equal a.1 b.1) λ c=>(kC.mk (E2 sLrbbLaLaL) (!c),sLrbbL.2)
theorem uR (w D f) (j:aA) (r0:kC) (r1:aA) (H:Own w D w [iG f j]) (pK:j.aa.ag.ls.length<=1000/\j.ay.ls.length+j.aa.aj.ls.length<=8/\j.aa.aF.ls.length<=900/\j.aa.au<=4) (pM:Mk j) (hr:jk j=(r0,r1)):
    Calls v8 14 #[vP f 0] w (d9 λ v w'=> ∃ dI dJ bg,v= .agg #[.slice dI r0.fo.ls.length dJ, .bool r0.jl]/\Own w D w' [row dI r0.fo.ls.length dJ (q3 bf.cells bg) 42 21,sepL (q3 bf.own bg),iG f r1]/\(s5 bf.abs bg=r0.fo.ls)/\(r1.aa.ag.ls.length=j.aa.ag.ls.length/\r1.aa.au=j.aa.au/\r1.ay.ls.length+r1.aa.aj.ls.length<=8/\r1.aa.aF.ls.length<=j.aa.aF.ls.length+0)/\(Mk r1)):=by
 unfold jk at hr
 refine cb Tryz.func14 ?_
 refine sr ?_
 refine dV [.slice none 0 0, .bool false] 47 H ?_
 intro gB pO lY
 refine ns (Mz rfl ?_)
 refine WL.do rfl (Iz T6 rfl ?_ (λ _ _ k=>k))
 refine cb U0 ?_
 refine sr ?_
 refine dV [.slice none 0 0, .bool false] 47 lY ?_
 intro gD pQ lZ
 refine nt (Ic ?_)
 have l5:=lZ.pf [2]
 obtain⟨je,gF,jf,gG,l6,jg,gH,l7,pR,pV,pW,pX,pY,p8,p9,qb,qc,qf,qg,qh,qi,qj,qm,qo,qx,qy,dK,dL,jh,ji,jl,jm,jo,jq,nN,bi⟩:=iZ l5
 refine Ib (Mz rfl (Kz (vP f 0) (Kz (vP f 0) (La ([vI j.aa.au,vU j.aa.av,vU j.aa.aV,vU j.aa.aL, .slice je j.aa.ag.ls.length gF, .slice jf j.aa.aj.ls.length gG, .slice jg j.aa.aF.ls.length gH]) bi 0 U1 H4 ?_))))
 obtain⟨⟨n,jr⟩,dO⟩:∃ q:(List UInt8) × Int,fA j.aa=q:=⟨_,rfl⟩
 obtain⟨qz,jv,nO,jw,aa⟩:=Ii bi
 refine cl U2 (kJ _ _ j.aa je j.aa.ag.ls.length gF jf j.aa.aj.ls.length gG l6 jg j.aa.aF.ls.length gH l7 n jr jv rfl (aa _ 1 _ rfl aO) e6 dK rfl (aa _ 2 _ rfl aO) e6 (λ x9 Y=>⟨aa _ 3 _ rfl (ax (Q3.2 ⟨x9,Y,b1⟩) aO),aZ (φ:=λ _=>_) bi (i:=3) rfl (ax (Q3.2 ⟨x9,Y,b1⟩) aW)⟩) dL rfl (aa _ 4 _ rfl aO) e6 (λ x9 Y=>⟨aa _ 5 _ rfl (ax (Q3.2 ⟨x9,Y,b1⟩) aO),aZ (φ:=λ _=>_) bi (i:=5) rfl (ax (Q3.2 ⟨x9,Y,b1⟩) aW),(λ y1 k1=>⟨aa _ 5 _ rfl (ax (Q3.2 ⟨x9,Y, .tail _ b1⟩) (ax (Q3.2 ⟨y1,k1,b1⟩) aO)),aZ (φ:=λ _=>_) bi (i:=5) rfl (ax (Q3.2 ⟨x9,Y, .tail _ b1⟩) (ax (Q3.2 ⟨y1,k1,b1⟩) aW))⟩)⟩) e8 i4 dO) ?_
 rintro _ qA ⟨bn,bq,rfl,jC,dP⟩
 have jD:=jw _ _ jC
 have nP:=zr 0 jD
 replace dP:n.length<=100000:=dP
 refine Mz rfl (Kz (.slice bn n.length bq) (Kz (vI jr) (Az rfl (Ar rfl (Mz rfl (Kz (.agg #[vP f 0, .slice none 0 0]) ?_))))))
 refine dV [vP f 0, .slice none 0 0] 98 jD ?_
 intro d qB jE
 refine Ar rfl (Mz rfl (Mz rfl ?_))
 refine WL.do rfl (IK Tryz.call25 rfl rfl ?_ (λ _ _ k=>k))
 refine cb Tryz.func25 ?_
 refine Ic (sr (Mz rfl (Kz (vP d 0) (Kz (vP d 0) (Lz (vP f 0) jE 0 P3 ?_)))))
 have l8:=jE.pb [0,1,20,21]
 have l9:=fe dK dL jh ji jl jm jo jq l8
 obtain⟨u,dQ⟩:∃ q,jK j=q:=⟨_,rfl⟩
 obtain⟨qC,jG,nQ,jH,nR⟩:=II l9
 refine cl Tryz.call15 (uk _ _ f j u jG e8 dQ) ?_
 rintro _ jI ⟨bu,gI,rfl,jL,dR⟩
 have jM:=jH _ _ jL
 have nS:=zr 0 jM
 replace dR:u.length<=j.ay.ls.length:=dR
 refine Kz (vJ u.length) (Mn rfl (bo ?_))
 have ma:Own w D jI (sepL (q3 bf.own [])::_):=jM.sepNil
 have mf:Own w D jI (row none 0 0 (q3 bf.cells []) 42 21::_):=ma.free (eZ 42 21)
 have jN:=mf.pb [0,1]
 obtain⟨jO,aJ⟩:=GL λ (s:Nat) av (ay:Nat) af y (a:aA) w'=>Own w D w' [row bu u.length gI (q3 (eN .u64) u) 28 1,iG f a,blk d [vP f 0, .slice av y.length ay] 98,row bn n.length bq (q3 eB n) 5 1,blk gD [.slice none 0 0, .bool false] 47,blk gB [.slice none 0 0, .bool false] 47,row av y.length ay (q3 bf.cells af) 42 21,sepL (q3 bf.own af)]/\s5 bf.abs af=y/\s<=u.length/\y.length<=6 *s/\(a.aa.ag.ls.length=j.aa.ag.ls.length/\a.aa.au=j.aa.au/\a.ay.ls.length+a.aa.aj.ls.length<=8/\a.aa.aF.ls.length<=j.aa.aF.ls.length)/\Mk a/\fV j n u [] j=fV j n (r3 s u) y a
 refine C3 (λ i:Nat × (Option Addr) × Nat × (List bf) × (List bL) × aA=> [(13,vJ i.1),(12,vJ u.length),(11, .slice bu u.length gI),(0,vP d 0)]) jO (λ i=>u.length - i.1) (0,none,0, [], [],j) ⟨rfl,rfl,rfl,rfl,trivial⟩ (aJ.2 ⟨jN,(show s5 bf.abs []=[]/\0<=u.length/\0<=6 *0/\(j.aa.ag.ls.length=j.aa.ag.ls.length/\j.aa.au=j.aa.au/\j.ay.ls.length+j.aa.aj.ls.length<=8/\j.aa.aF.ls.length<=j.aa.aF.ls.length)/\Mk j/\fV j n u [] j=fV j n (r3 0 u) [] j from ⟨by exact rfl,e6,e6,e6,f5,rfl⟩)⟩) ?_
 rintro ⟨s,av,ay,af,y,a⟩ nT gJ
 obtain⟨az,aK,mg,mh,mi,mo,bv⟩:=aJ.1 gJ
 have mq:=aB aK
 refine sr (Kz (.bool (decide ((s:Int) < (u.length:Int)))) (nt (Ic ?_)))
 by_cases dU:(s:Int) < (u.length:Int)
 obtain⟨bz,bA⟩:=dN (ls:=u) (i:=s) qw f4 (az.rds (i:=0) rfl) e9
 have gK:=drop_at bA
 refine jT (dT dU) (sk (Ic (bo (sr (fw (.pointer (some ⟨ab bu,ao bu+s *1,none⟩)) (Ij (uY) rfl rfl ((az.rds (i:=0) rfl).addr (i:=s) e6) e6) (fw (vU bz) (Io rfl (bZ.one D4 (((az.rds (i:=0) rfl).elem qw bA f4).at_ (k:=0) rfl))) (An rfl (Ib (Mz rfl (Mz rfl ?_))))))))))
 have jP:=az.pf [2,6,7,1]
 obtain⟨⟨bD,U⟩,aL⟩:∃ q:bI × aA,jJ (bI.mk (E2 y)) bz a=q:=⟨_,rfl⟩
 obtain⟨nU,gL,mr,gM,mD⟩:=I5 jP
 refine cl Tryz.call26 (wL _ _ d (bI.mk (E2 y)) av ay af bz f a bD U gL aK e8 f8 aL) ?_
 rintro _ nV ⟨jQ,jR,jS,rfl,gN,bF⟩
 have dW:=gM _ _ gN
 have mE:=aB bF
 have mF:=zr 1 dW
 have aM:=uq aL
 have mG:Mk U:=aM.2.2.1 f5
 have mH:U.aa.ag.ls.length=a.aa.ag.ls.length/\U.aa.au=a.aa.au/\U.ay.ls.length+U.aa.aj.ls.length<=8/\U.aa.aF.ls.length<=a.aa.aF.ls.length+0:=JQ aM.2.1 e6
 have mI:bD.aX.ls.length<=y.length+6:=aM.2.2.2 f5
 refine C6 (bN (Ig (Ib (fw (vJ (s+1)) (Ie (e:=C5.wrap ((s:Int)+1)) yk f0) (Mz rfl (C6 ?_))))))
 have jU:=dW.px [4,3] [] [1,2]
 exact Ir (s+1,jQ,jR,jS,bD.aX.ls,U) ⟨rfl,rfl,rfl,rfl,trivial⟩ (aJ.2 ⟨jU,by exact bF,e6,e6,e6,f5,et (bv) (et (congrArg (λ q=>fV j n q y a) gK) (ah aL))⟩) (by show u.length - (s+1) < u.length - s; omega)
 refine jF (dF dU) (C7 (Il ?_))
 have gP:fV j n u [] j=(y,a):=et (bv) (et (congrArg (λ q=>fV j n q y a) (fB (ls:=u) (i:=s) e6)) rfl)
 refine Il (IB (Ig (Ic (Ic ?_))))
 have jV:=az.px [] [0] []
 obtain⟨dX,dY,Z,aD,bG,ed,ek,eu,eD,eF,eG,eH,eO,eP,eQ,eT,eU,eX,eY,fo,fq,fu,fC,fD,fE,fG,bH,gQ,gT,gV,gW,gX,gY,gZ,mJ,bJ⟩:=iZ jV
 refine Ib (Mz rfl (Kz (vP d 0) (Kz (vP d 0) (Lz (vP f 0) bJ 18 P3 (Kz (vP f 0) (Kz (vP f 0) (Kz (vP f 5) (Lz (.slice Z a.aa.aj.ls.length aD) bJ 0 Tryz.isAgg30 (Kz (vJ a.aa.aj.ls.length) (Mn rfl (bo ?_)))))))))))
 have jW:=bJ.pf []
 obtain⟨jX,aN⟩:=Au λ (t:Nat) aF (aG:Nat) ag z w'=>Own w D w' [mK f a dX a.aa.ag.ls.length dY Z aD ed ek eD eF eH eO eQ eT eX eY fq fu fD fE,row dX a.aa.ag.ls.length dY (q3 aY.cells a.aa.ag.ls) 89 2,row Z a.aa.aj.ls.length aD (q3 aC.cells bG) 60 5,sepL (q3 aC.own bG),row ed a.aa.aF.ls.length ek (q3 aU.cells eu) 56 4,sepL (q3 aU.own eu),row eD a.ay.ls.length eF (q3 bB.cells eG) 107 9,sepL (q3 bB.own eG),row eH a.bK.af.ls.length eO (q3 ae.cells eP) 149 3,sepL (q3 ae.own eP),row eQ a.bA.af.ls.length eT (q3 ae.cells eU) 149 3,sepL (q3 ae.own eU),row eX a.bz.af.ls.length eY (q3 ae.cells fo) 149 3,sepL (q3 ae.own fo),row fq a.bv.af.ls.length fu (q3 ae.cells fC) 149 3,sepL (q3 ae.own fC),row fD a.bq.af.ls.length fE (q3 ae.cells fG) 149 3,sepL (q3 ae.own fG),blk d [vP f 0, .slice aF z.length aG] 98,row bn n.length bq (q3 eB n) 5 1,blk gD [.slice none 0 0, .bool false] 47,blk gB [.slice none 0 0, .bool false] 47,row aF z.length aG (q3 bf.cells ag) 42 21,sepL (q3 bf.own ag)]/\s5 bf.abs ag=z/\t<=a.aa.aj.ls.length/\z.length<=100+1000 *t/\jB j n a a.aa.aj.ls y=jB j n a (r3 t a.aa.aj.ls) z
 refine C3 (λ i:Nat × (Option Addr) × Nat × (List bf) × (List bL)=> [(30,vJ i.1),(29,vJ a.aa.aj.ls.length),(28, .slice Z a.aa.aj.ls.length aD),(0,vP d 0)]) jX (λ i=>a.aa.aj.ls.length - i.1) (0,av,ay,af,y) ⟨rfl,rfl,rfl,rfl,trivial⟩ (aN.2 ⟨jW,by exact aK,e6,e6,rfl⟩) ?_
 rintro ⟨t,aF,aG,ag,z⟩ nW ib
 obtain⟨ai,aP,mM,mO,bK⟩:=aN.1 ib
 have mP:=aB aP
 refine sr (Kz (.bool (decide ((t:Int) < (a.aa.aj.ls.length:Int)))) (nt (Ic ?_)))
 by_cases fH:(t:Int) < (a.aa.aj.ls.length:Int)
 obtain⟨l,au⟩:=dN (ls:=bG) (i:=t) aC.len f4 (ai.rds (i:=2) rfl) e9
 have bM:=fF bH au
 have mQ:l.au.ls.length<=l.au.c/\l.au.ls.length<=9223372036854775807:=aZ ai (i:=3) rfl (φ:=λ _=>_) (ax (Q3.2 ⟨l,D3 au,b1⟩) aW)
 have mR:l.au.ls.length<=1000:=ED (Mk.dec f5) bM
 have ig:=drop_at bM
 refine jT (dT fH) (sk (Ic (bo (sr (fw (.pointer (some ⟨ab Z,ao Z+t *5,none⟩)) (Ij (kW) rfl rfl ((ai.rds (i:=2) rfl).addr (i:=t) e6) e6) (fw (.agg (aC.cells l).toArray) (Io rfl (Iy (cs:=(aC.cells l)) Tryz.isAgg60 Tryz.sizeOf60 ((ai.rds (i:=2) rfl).elem aC.len au f4))) ?_))))))
 refine dV [.int .u64 0,vI 0, .int .u64 0, .int .u64 0, .slice none 0 0] 60 ai ?_
 intro fI nX jY
 refine dS (aC.cells l) 0 jY Tryz.sizeOf60 ?_
 intro nY bO
 refine nt (Ib (Mz rfl (Kz (vP fI 0) (Lz (vU l.aN) bO 0 D4 (Kz (vP fI 4) (Lz (.slice l.au.A l.au.ls.length l.au.c) bO 0 Tryz.isAgg58 ?_))))))
 have jZ:=bO.pf [19,23,24]
 obtain⟨bP,aQ⟩:∃ q,dZ (bI.mk (E2 z)) l.aN l.au.ls true=q:=⟨_,rfl⟩
 obtain⟨nZ,ik,mU,il,iq⟩:=IU jZ
 refine cl Tryz.call27 (kV _ _ d (bI.mk (E2 z)) aF aG ag f l.aN l.au.A l.au.ls.length l.au.c l.au.ls true bP ik aP (iq _ 4 _ rfl (ax (Q3.2 ⟨l,D3 au,b1⟩) aO)) rfl e6 g7 aQ) ?_
 rintro _ og ⟨j3,j4,j5,rfl,iw,bQ⟩
 have fJ:=il _ _ iw
 have mV:=aB bQ
 have mW:=zr 1 fJ
 have mX:bP.aX.ls.length=z.length+l.au.ls.length:=yB aQ
 refine C6 (bN (Ig (Ib (fw (vJ (t+1)) (Ie (e:=C5.wrap ((t:Int)+1)) yk f0) (Mz rfl (C6 ?_))))))
 have j6:=fJ.px [] [3] [0,22,23,24,1,2]
 exact Ir (t+1,j3,j4,j5,bP.aX.ls) ⟨rfl,rfl,rfl,rfl,trivial⟩ (aN.2 ⟨j6,by exact bQ,e6,e6,et (bK) (et (congrArg (λ q=>jB j n a q z) ig) (ah aQ))⟩) (by show a.aa.aj.ls.length - (t+1) < a.aa.aj.ls.length - t; omega)
 refine jF (dF fH) (C7 (Il ?_))
 have iy:jB j n a a.aa.aj.ls y=z:=et (bK) (et (congrArg (λ q=>jB j n a q z) (fB (ls:=a.aa.aj.ls) (i:=t) e6)) rfl)
 refine Il (IB (Ig (Ic (sr (An rfl ?_)))))
 have kg:=fe bH gQ gT gV gW gX gY gZ ai
 refine bo ?_
 have ko:=kg.pf []
 obtain⟨kr,C⟩:=GL λ (b:Nat) p (r:Nat) I g (aH:Nat) w'=>Own w D w' [iG f a,blk d [vP f 0, .slice p g.length r] 98,row bn n.length bq (q3 eB n) 5 1,blk gD [.slice none 0 0, .bool false] 47,blk gB [.slice none 0 0, .bool false] 47,row p g.length r (q3 bf.cells I) 42 21,sepL (q3 bf.own I)]/\s5 bf.abs I=g/\(1<=b/\(g.length:Int)<=9000+b)/\D0 (j.aa.au+1 - b) < aH/\fK n a ((D0 (j.aa.au+1 - 1))+1) 1 z=fK n a aH b g
 refine C3 (λ i:Nat × (Option Addr) × Nat × (List bf) × (List bL) × Nat=> [(6,vJ i.1),(0,vP d 0)]) kr (λ i=>i.2.2.2.2.2) (1,aF,aG,ag,z,(D0 (j.aa.au+1 - 1))+1) ⟨rfl,rfl,trivial⟩ (C.2 ⟨ko,by exact aP,e6,e6,rfl⟩) ?_
 rintro ⟨b,p,r,I,g,aH⟩ oh iA
 obtain⟨ku,E,mY,mZ,J⟩:=C.1 iA
 have ng:=aB E
 obtain⟨h,iB⟩:∃ q,aH=q+1:=⟨aH - 1,e6⟩
 subst iB
 refine Ic (Ic ?_)
 obtain⟨S,B,fM,bR,kv,fO,bS,kw,om,oo,oq,ou,ow,oz,oC,oD,oF,oG,oH,oI,oJ,oK,oL,oM,oN,oO,F,G,K,L,M,N,O,P,ni,Q⟩:=iZ ku
 refine Ib (Mz rfl (Mz rfl (Kz (vP d 0) (Kz (vP d 0) (Lz (vP f 0) Q 18 P3 (Kz (vP f 0) (Kz (vP f 0) (Kz (vP f 0) (Lz (vI a.aa.au) Q 0 C4 (Kz (.bool (decide ((b:Int)<=a.aa.au))) (nt ?_)))))))))))
 by_cases R:(b:Int)<=a.aa.au
 refine jT (dT R) (sk (Ic (bo (sr (Mz rfl (Kz (vP d 0) (Kz (vP d 0) (Lz (vP f 0) Q 18 P3 (Mz rfl ?_)))))))))
 refine WL.do rfl (Iz Tryz.call28 rfl ?_ (λ _ _ k=>k))
 refine cb Tryz.func28 ?_
 refine sr (An rfl (Ic ?_))
 refine pU 24 [] (Iu IC) Q ?_
 intro oP V
 refine qv 0 rfl rfl (qv 1 rfl rfl (qp f 0 2 rfl (qp f 29 3 rfl ?_)))
 by_cases W:(b:Int)=1
 refine qt (v:=vP f 30) 4 rfl (λ _ _=>by(try unfold vJ); rw [show (b:Int)=1 from by omega]; exact yk) (ql 5 rfl 0 D4 rfl rfl rfl (qv 6 rfl rfl (qp f 0 7 rfl (qp f 0 8 rfl (qp f 2 9 rfl (ql 10 rfl 0 D4 rfl rfl rfl (qk (.bool (decide ((a.dH:Int) >= (a.aa.aV:Int)))) 11 rfl (qa 12 rfl rfl (qn (Ig (rt (rs (fw (.bool (decide (¬ ((a.dH:Int) >= (a.aa.aV:Int))))) (IG (e:= !(decide ((a.dH:Int) >= (a.aa.aV:Int)))) yk decide_not.symm) (nt ?_))))))))))))))
 by_cases aR:(a.dH:Int) >= (a.aa.aV:Int)
 refine jF (dF (Lh aR)) (IE (bN (Ig (Ib (Mz rfl (fw (vJ (b+1)) (Ie (e:=C5.wrap ((b:Int)+1)) yk f0) (Az rfl (C6 ?_))))))))
 have ky:=fe F G K L M N O P V
 have kz:=ky.pf []
 exact Ir (b+1,p,r,I,g,h) ⟨rfl,rfl,trivial⟩ (C.2 ⟨kz,by exact E,e6,e6,et (J) (et (ip R) (et (ip W) (ip aR)))⟩) (by show h < h+1; omega)
 refine jT (dT aR) (Ib (Mz rfl (Mz rfl ?_)))
 refine WL.do rfl (Iz U5 rfl ?_ (λ _ _ k=>k))
 refine cb U6 ?_
 have kD:=V.pf [0,18,20,21]
 refine vX [32] IC kD ?_
 intro oQ bT
 refine qv 0 rfl rfl (qv 1 rfl rfl (qv 2 rfl rfl (qp d 0 3 rfl (qp d 0 4 rfl (ql 5 rfl 1 P3 rfl rfl rfl (qp f 0 6 rfl (qp f 0 7 rfl (qp f 2 8 rfl (ql 9 rfl 0 D4 rfl rfl rfl (qv 10 rfl rfl (qp d 0 11 rfl (qp d 0 12 rfl (ql 13 rfl 1 P3 rfl rfl rfl (qp f 0 14 rfl (qp f 0 15 rfl (qp f 3 16 rfl (ql 17 rfl 0 D4 rfl rfl rfl (qv 18 rfl rfl (qp d 0 19 rfl (qp d 0 20 rfl (ql 21 rfl 1 P3 rfl rfl rfl (qv 23 rfl rfl (qp d 0 24 rfl (qp d 0 25 rfl (ql 26 rfl 1 P3 rfl rfl rfl (qp f 0 27 rfl (qp f 0 28 rfl (qp f 4 29 rfl (ql 30 rfl 0 U7 rfl rfl rfl ?_)))))))))))))))))))))))))))))
 refine GX.do 22 rfl e7 (Iz U8 rfl ?_ (λ _ _ k=>k))
 refine cb U9 ?_
 refine sr (An rfl (Ic (sr (Mz rfl (Kz (vP f 0) (Kz (vP f 34) (Lz (.pointer none) bT 0 V0 (Kz (.bool true) (nt (jt (sr (An rfl (rt (tR (rs ?_)))))))))))))))
 refine⟨.inr ⟨_,bT⟩, ?_⟩
 refine qk (.agg (gU 8 0 (b:Int) 0 0 0 0 0 0 0 a.aa.aV a.aa.aL 0 0 0 false [] [] none 0 0 none 0 0 S a.aa.ag.ls.length B).toArray) 31 rfl ?_
 have kE:=bT.pf [1,22,23]
 obtain⟨bU,bV⟩:∃ q,dw (bI.mk (E2 g)) (bL.mk 8 0 (b:Int) 0 0 0 0 0 0 0 a.aa.aV a.aa.aL 0 0 0 false (bC.mk [] []) (E2 []) (E2 []) (E2 a.aa.ag.ls))=q:=⟨_,rfl⟩
 obtain⟨oU,iC,nk,iD,iE⟩:=IU kE
 refine qd 32 rfl (Iz P6 rfl (gp _ _ d (bI.mk (E2 g)) p r I f (bL.mk 8 0 (b:Int) 0 0 0 0 0 0 0 a.aa.aV a.aa.aL 0 0 0 false (bC.mk [] []) (E2 []) (E2 []) (E2 a.aa.ag.ls)) none 0 0 none 0 0 [] S a.aa.ag.ls.length B bU iC E rfl (λ _ _=>bE.nil _ _ _) f2 rfl rfl (λ _ _=>bE.nil _ _ _) f2 (λ _ Y=>absurd Y y6) rfl (iE _ 3 _ rfl aO) e6 e8 (by first | assumption | exact dM f5 | exact λ x hx=>absurd hx y6 | exact dM (Mk.mU f5).1 | exact dM (Mk.lT f5).1 | exact dM (Mk.nu f5).1 | exact dM (Mk.ny f5).1 | exact dM (Mk.nz f5).1) bV) ?_)
 rintro _ oV ⟨kF,kG,kH,rfl,iF,bW,bX⟩
 have fP:=iD _ _ iF
 have nu:=aB bW
 have ny:=zr 1 fP
 replace bX:bU.aX.ls.length=g.length+1:=bX
 refine⟨.inl e7, ?_⟩
 refine qn (IA (res0 rfl) (C6 (bN (Ig (Ib (Mz rfl (fw (vJ (b+1)) (Ie (e:=C5.wrap ((b:Int)+1)) yk f0) (Az rfl (C6 ?_)))))))))
 have kI:=fP.pb [0,1,2,4,5,23]
 have kK:=fe F G K L M N O P kI
 have kL:=kK.pb [4,5,2,3]
 exact Ir (b+1,kF,kG,kH,bU.aX.ls,h) ⟨rfl,rfl,trivial⟩ (C.2 ⟨kL,by exact bW,e6,e6,et (J) (et (ip R) (et (ip W) (et (iN aR) (ah bV))))⟩) (by show h < h+1; omega)
 by_cases aj:(b:Int)=2
 refine qt (v:=vP f 31) 4 rfl (λ _ _=>by(try unfold vJ); rw [show (b:Int)=2 from by omega]; exact yk) (ql 5 rfl 0 D4 rfl rfl rfl (qv 6 rfl rfl (qp f 0 7 rfl (qp f 0 8 rfl (qp f 2 9 rfl (ql 10 rfl 0 D4 rfl rfl rfl (qk (.bool (decide ((a.dI:Int) >= (a.aa.aV:Int)))) 11 rfl (qa 12 rfl rfl (qn (Ig (rt (rs (fw (.bool (decide (¬ ((a.dI:Int) >= (a.aa.aV:Int))))) (IG (e:= !(decide ((a.dI:Int) >= (a.aa.aV:Int)))) yk decide_not.symm) (nt ?_))))))))))))))
 by_cases aS:(a.dI:Int) >= (a.aa.aV:Int)
 refine jF (dF (Lh aS)) (IE (bN (Ig (Ib (Mz rfl (fw (vJ (b+1)) (Ie (e:=C5.wrap ((b:Int)+1)) yk f0) (Az rfl (C6 ?_))))))))
 have kM:=fe F G K L M N O P V
 have kN:=kM.pf []
 exact Ir (b+1,p,r,I,g,h) ⟨rfl,rfl,trivial⟩ (C.2 ⟨kN,by exact E,e6,e6,et (J) (et (ip R) (et (iN W) (et (ip aj) (ip aS))))⟩) (by show h < h+1; omega)
 refine jT (dT aS) (Ib (Mz rfl (Mz rfl ?_)))
 refine WL.do rfl (Iz U5 rfl ?_ (λ _ _ k=>k))
 refine cb U6 ?_
 have kP:=V.pf [0,18,20,21]
 refine vX [32] IC kP ?_
 intro oW bY
 refine qv 0 rfl rfl (qv 1 rfl rfl (qv 2 rfl rfl (qp d 0 3 rfl (qp d 0 4 rfl (ql 5 rfl 1 P3 rfl rfl rfl (qp f 0 6 rfl (qp f 0 7 rfl (qp f 2 8 rfl (ql 9 rfl 0 D4 rfl rfl rfl (qv 10 rfl rfl (qp d 0 11 rfl (qp d 0 12 rfl (ql 13 rfl 1 P3 rfl rfl rfl (qp f 0 14 rfl (qp f 0 15 rfl (qp f 3 16 rfl (ql 17 rfl 0 D4 rfl rfl rfl (qv 18 rfl rfl (qp d 0 19 rfl (qp d 0 20 rfl (ql 21 rfl 1 P3 rfl rfl rfl (qv 23 rfl rfl (qp d 0 24 rfl (qp d 0 25 rfl (ql 26 rfl 1 P3 rfl rfl rfl (qp f 0 27 rfl (qp f 0 28 rfl (qp f 4 29 rfl (ql 30 rfl 0 U7 rfl rfl rfl ?_)))))))))))))))))))))))))))))
 refine GX.do 22 rfl e7 (Iz U8 rfl ?_ (λ _ _ k=>k))
 refine cb U9 ?_
 refine sr (An rfl (Ic (sr (Mz rfl (Kz (vP f 0) (Kz (vP f 34) (Lz (.pointer none) bY 0 V0 (Kz (.bool true) (nt (jt (sr (An rfl (rt (tR (rs ?_)))))))))))))))
 refine⟨.inr ⟨_,bY⟩, ?_⟩
 refine qk (.agg (gU 8 0 (b:Int) 0 0 0 0 0 0 0 a.aa.aV a.aa.aL 0 0 0 false [] [] none 0 0 none 0 0 S a.aa.ag.ls.length B).toArray) 31 rfl ?_
 have kQ:=bY.pf [1,22,23]
 obtain⟨cu,cz⟩:∃ q,dw (bI.mk (E2 g)) (bL.mk 8 0 (b:Int) 0 0 0 0 0 0 0 a.aa.aV a.aa.aL 0 0 0 false (bC.mk [] []) (E2 []) (E2 []) (E2 a.aa.ag.ls))=q:=⟨_,rfl⟩
 obtain⟨oZ,iH,nz,iI,iJ⟩:=IU kQ
 refine qd 32 rfl (Iz P6 rfl (gp _ _ d (bI.mk (E2 g)) p r I f (bL.mk 8 0 (b:Int) 0 0 0 0 0 0 0 a.aa.aV a.aa.aL 0 0 0 false (bC.mk [] []) (E2 []) (E2 []) (E2 a.aa.ag.ls)) none 0 0 none 0 0 [] S a.aa.ag.ls.length B cu iH E rfl (λ _ _=>bE.nil _ _ _) f2 rfl rfl (λ _ _=>bE.nil _ _ _) f2 (λ _ Y=>absurd Y y6) rfl (iJ _ 3 _ rfl aO) e6 e8 (by first | assumption | exact dM f5 | exact λ x hx=>absurd hx y6 | exact dM (Mk.mU f5).1 | exact dM (Mk.lT f5).1 | exact dM (Mk.nu f5).1 | exact dM (Mk.ny f5).1 | exact dM (Mk.nz f5).1) cz) ?_)
 rintro _ o5 ⟨kR,kS,kT,rfl,iK,cB,cK⟩
 have fQ:=iI _ _ iK
 have nA:=aB cB
 have nC:=zr 1 fQ
 replace cK:cu.aX.ls.length=g.length+1:=cK
 refine⟨.inl e7, ?_⟩
 refine qn (IA (res0 rfl) (C6 (bN (Ig (Ib (Mz rfl (fw (vJ (b+1)) (Ie (e:=C5.wrap ((b:Int)+1)) yk f0) (Az rfl (C6 ?_)))))))))
 have kU:=fQ.pb [0,1,2,4,5,23]
 have kX:=fe F G K L M N O P kU
 have kY:=kX.pb [4,5,2,3]
 exact Ir (b+1,kR,kS,kT,cu.aX.ls,h) ⟨rfl,rfl,trivial⟩ (C.2 ⟨kY,by exact cB,e6,e6,et (J) (et (ip R) (et (iN W) (et (ip aj) (et (iN aS) (ah cz)))))⟩) (by show h < h+1; omega)
 by_cases aT:(b:Int)=3
 refine qt (v:=vP f 32) 4 rfl (λ _ _=>by(try unfold vJ); rw [show (b:Int)=3 from by omega]; exact yk) (ql 5 rfl 0 D4 rfl rfl rfl (qv 6 rfl rfl (qp f 0 7 rfl (qp f 0 8 rfl (qp f 2 9 rfl (ql 10 rfl 0 D4 rfl rfl rfl (qk (.bool (decide ((a.dG:Int) >= (a.aa.aV:Int)))) 11 rfl (qa 12 rfl rfl (qn (Ig (rt (rs (fw (.bool (decide (¬ ((a.dG:Int) >= (a.aa.aV:Int))))) (IG (e:= !(decide ((a.dG:Int) >= (a.aa.aV:Int)))) yk decide_not.symm) (nt ?_))))))))))))))
 by_cases aV:(a.dG:Int) >= (a.aa.aV:Int)
 refine jF (dF (Lh aV)) (IE (bN (Ig (Ib (Mz rfl (fw (vJ (b+1)) (Ie (e:=C5.wrap ((b:Int)+1)) yk f0) (Az rfl (C6 ?_))))))))
 have kZ:=fe F G K L M N O P V
 have lc:=kZ.pf []
 exact Ir (b+1,p,r,I,g,h) ⟨rfl,rfl,trivial⟩ (C.2 ⟨lc,by exact E,e6,e6,et (J) (et (ip R) (et (iN W) (et (iN aj) (et (ip aT) (ip aV)))))⟩) (by show h < h+1; omega)
 refine jT (dT aV) (Ib (Mz rfl (Mz rfl ?_)))
 refine WL.do rfl (Iz U5 rfl ?_ (λ _ _ k=>k))
 refine cb U6 ?_
 have lg:=V.pf [0,18,20,21]
 refine vX [32] IC lg ?_
 intro o6 cO
 refine qv 0 rfl rfl (qv 1 rfl rfl (qv 2 rfl rfl (qp d 0 3 rfl (qp d 0 4 rfl (ql 5 rfl 1 P3 rfl rfl rfl (qp f 0 6 rfl (qp f 0 7 rfl (qp f 2 8 rfl (ql 9 rfl 0 D4 rfl rfl rfl (qv 10 rfl rfl (qp d 0 11 rfl (qp d 0 12 rfl (ql 13 rfl 1 P3 rfl rfl rfl (qp f 0 14 rfl (qp f 0 15 rfl (qp f 3 16 rfl (ql 17 rfl 0 D4 rfl rfl rfl (qv 18 rfl rfl (qp d 0 19 rfl (qp d 0 20 rfl (ql 21 rfl 1 P3 rfl rfl rfl (qv 23 rfl rfl (qp d 0 24 rfl (qp d 0 25 rfl (ql 26 rfl 1 P3 rfl rfl rfl (qp f 0 27 rfl (qp f 0 28 rfl (qp f 4 29 rfl (ql 30 rfl 0 U7 rfl rfl rfl ?_)))))))))))))))))))))))))))))
 refine GX.do 22 rfl e7 (Iz U8 rfl ?_ (λ _ _ k=>k))
 refine cb U9 ?_
 refine sr (An rfl (Ic (sr (Mz rfl (Kz (vP f 0) (Kz (vP f 34) (Lz (.pointer none) cO 0 V0 (Kz (.bool true) (nt (jt (sr (An rfl (rt (tR (rs ?_)))))))))))))))
 refine⟨.inr ⟨_,cO⟩, ?_⟩
 refine qk (.agg (gU 8 0 (b:Int) 0 0 0 0 0 0 0 a.aa.aV a.aa.aL 0 0 0 false [] [] none 0 0 none 0 0 S a.aa.ag.ls.length B).toArray) 31 rfl ?_
 have lh:=cO.pf [1,22,23]
 obtain⟨cZ,df⟩:∃ q,dw (bI.mk (E2 g)) (bL.mk 8 0 (b:Int) 0 0 0 0 0 0 0 a.aa.aV a.aa.aL 0 0 0 false (bC.mk [] []) (E2 []) (E2 []) (E2 a.aa.ag.ls))=q:=⟨_,rfl⟩
 obtain⟨o7,iL,nD,iM,iO⟩:=IU lh
 refine qd 32 rfl (Iz P6 rfl (gp _ _ d (bI.mk (E2 g)) p r I f (bL.mk 8 0 (b:Int) 0 0 0 0 0 0 0 a.aa.aV a.aa.aL 0 0 0 false (bC.mk [] []) (E2 []) (E2 []) (E2 a.aa.ag.ls)) none 0 0 none 0 0 [] S a.aa.ag.ls.length B cZ iL E rfl (λ _ _=>bE.nil _ _ _) f2 rfl rfl (λ _ _=>bE.nil _ _ _) f2 (λ _ Y=>absurd Y y6) rfl (iO _ 3 _ rfl aO) e6 e8 (by first | assumption | exact dM f5 | exact λ x hx=>absurd hx y6 | exact dM (Mk.mU f5).1 | exact dM (Mk.lT f5).1 | exact dM (Mk.nu f5).1 | exact dM (Mk.ny f5).1 | exact dM (Mk.nz f5).1) df) ?_)
 rintro _ o8 ⟨ll,lm,lq,rfl,iP,dh,di⟩
 have fT:=iM _ _ iP
 have nE:=aB dh
 have nG:=zr 1 fT
 replace di:cZ.aX.ls.length=g.length+1:=di
 refine⟨.inl e7, ?_⟩
 refine qn (IA (res0 rfl) (C6 (bN (Ig (Ib (Mz rfl (fw (vJ (b+1)) (Ie (e:=C5.wrap ((b:Int)+1)) yk f0) (Az rfl (C6 ?_)))))))))
 have lu:=fT.pb [0,1,2,4,5,23]
 have lv:=fe F G K L M N O P lu
 have lw:=lv.pb [4,5,2,3]
 exact Ir (b+1,ll,lm,lq,cZ.aX.ls,h) ⟨rfl,rfl,trivial⟩ (C.2 ⟨lw,by exact dh,e6,e6,et (J) (et (ip R) (et (iN W) (et (iN aj) (et (ip aT) (et (iN aV) (ah df))))))⟩) (by show h < h+1; omega)
 refine qt (v:=vP f 33) 4 rfl (λ _ _=>by(try unfold vJ); rw [show (b:Int)=4 from by omega]; exact yk) (ql 5 rfl 0 D4 rfl rfl rfl (qv 6 rfl rfl (qp f 0 7 rfl (qp f 0 8 rfl (qp f 2 9 rfl (ql 10 rfl 0 D4 rfl rfl rfl (qk (.bool (decide ((a.dJ:Int) >= (a.aa.aV:Int)))) 11 rfl (qa 12 rfl rfl (qn (Ig (rt (rs (fw (.bool (decide (¬ ((a.dJ:Int) >= (a.aa.aV:Int))))) (IG (e:= !(decide ((a.dJ:Int) >= (a.aa.aV:Int)))) yk decide_not.symm) (nt ?_))))))))))))))
 by_cases aX:(a.dJ:Int) >= (a.aa.aV:Int)
 refine jF (dF (Lh aX)) (IE (bN (Ig (Ib (Mz rfl (fw (vJ (b+1)) (Ie (e:=C5.wrap ((b:Int)+1)) yk f0) (Az rfl (C6 ?_))))))))
 have lC:=fe F G K L M N O P V
 have lD:=lC.pf []
 exact Ir (b+1,p,r,I,g,h) ⟨rfl,rfl,trivial⟩ (C.2 ⟨lD,by exact E,e6,e6,et (J) (et (ip R) (et (iN W) (et (iN aj) (et (iN aT) (ip aX)))))⟩) (by show h < h+1; omega)
 refine jT (dT aX) (Ib (Mz rfl (Mz rfl ?_)))
 refine WL.do rfl (Iz U5 rfl ?_ (λ _ _ k=>k))
 refine cb U6 ?_
 have lF:=V.pf [0,18,20,21]
 refine vX [32] IC lF ?_
 intro o9 dm
 refine qv 0 rfl rfl (qv 1 rfl rfl (qv 2 rfl rfl (qp d 0 3 rfl (qp d 0 4 rfl (ql 5 rfl 1 P3 rfl rfl rfl (qp f 0 6 rfl (qp f 0 7 rfl (qp f 2 8 rfl (ql 9 rfl 0 D4 rfl rfl rfl (qv 10 rfl rfl (qp d 0 11 rfl (qp d 0 12 rfl (ql 13 rfl 1 P3 rfl rfl rfl (qp f 0 14 rfl (qp f 0 15 rfl (qp f 3 16 rfl (ql 17 rfl 0 D4 rfl rfl rfl (qv 18 rfl rfl (qp d 0 19 rfl (qp d 0 20 rfl (ql 21 rfl 1 P3 rfl rfl rfl (qv 23 rfl rfl (qp d 0 24 rfl (qp d 0 25 rfl (ql 26 rfl 1 P3 rfl rfl rfl (qp f 0 27 rfl (qp f 0 28 rfl (qp f 4 29 rfl (ql 30 rfl 0 U7 rfl rfl rfl ?_)))))))))))))))))))))))))))))
 refine GX.do 22 rfl e7 (Iz U8 rfl ?_ (λ _ _ k=>k))
 refine cb U9 ?_
 refine sr (An rfl (Ic (sr (Mz rfl (Kz (vP f 0) (Kz (vP f 34) (Lz (.pointer none) dm 0 V0 (Kz (.bool true) (nt (jt (sr (An rfl (rt (tR (rs ?_)))))))))))))))
 refine⟨.inr ⟨_,dm⟩, ?_⟩
 refine qk (.agg (gU 8 0 (b:Int) 0 0 0 0 0 0 0 a.aa.aV a.aa.aL 0 0 0 false [] [] none 0 0 none 0 0 S a.aa.ag.ls.length B).toArray) 31 rfl ?_
 have lG:=dm.pf [1,22,23]
 obtain⟨dn,dx⟩:∃ q,dw (bI.mk (E2 g)) (bL.mk 8 0 (b:Int) 0 0 0 0 0 0 0 a.aa.aV a.aa.aL 0 0 0 false (bC.mk [] []) (E2 []) (E2 []) (E2 a.aa.ag.ls))=q:=⟨_,rfl⟩
 obtain⟨pg,iQ,nH,iR,iT⟩:=IU lG
 refine qd 32 rfl (Iz P6 rfl (gp _ _ d (bI.mk (E2 g)) p r I f (bL.mk 8 0 (b:Int) 0 0 0 0 0 0 0 a.aa.aV a.aa.aL 0 0 0 false (bC.mk [] []) (E2 []) (E2 []) (E2 a.aa.ag.ls)) none 0 0 none 0 0 [] S a.aa.ag.ls.length B dn iQ E rfl (λ _ _=>bE.nil _ _ _) f2 rfl rfl (λ _ _=>bE.nil _ _ _) f2 (λ _ Y=>absurd Y y6) rfl (iT _ 3 _ rfl aO) e6 e8 (by first | assumption | exact dM f5 | exact λ x hx=>absurd hx y6 | exact dM (Mk.mU f5).1 | exact dM (Mk.lT f5).1 | exact dM (Mk.nu f5).1 | exact dM (Mk.ny f5).1 | exact dM (Mk.nz f5).1) dx) ?_)
 rintro _ pq ⟨lH,lI,lJ,rfl,iU,dz,dA⟩
 have fU:=iR _ _ iU
 have nI:=aB dz
 have nJ:=zr 1 fU
 replace dA:dn.aX.ls.length=g.length+1:=dA
 refine⟨.inl e7, ?_⟩
 refine qn (IA (res0 rfl) (C6 (bN (Ig (Ib (Mz rfl (fw (vJ (b+1)) (Ie (e:=C5.wrap ((b:Int)+1)) yk f0) (Az rfl (C6 ?_)))))))))
 have lK:=fU.pb [0,1,2,4,5,23]
 have lL:=fe F G K L M N O P lK
 have lM:=lL.pb [4,5,2,3]
 exact Ir (b+1,lH,lI,lJ,dn.aX.ls,h) ⟨rfl,rfl,trivial⟩ (C.2 ⟨lM,by exact dz,e6,e6,et (J) (et (ip R) (et (iN W) (et (iN aj) (et (iN aT) (et (iN aX) (ah dx))))))⟩) (by show h < h+1; omega)
 refine jF (dF R) (C7 (Il ?_))
 have iV:fK n a ((D0 (j.aa.au+1 - 1))+1) 1 z=g:=et (J) (iN R)
 refine Il (IB (Ig (Ib (Mz rfl ?_))))
 refine WL.do rfl (Iz Tryz.call30 rfl ?_ (λ _ _ k=>k))
 refine cb Tryz.func30 ?_
 refine sr (Mz rfl (Kz (vP d 0) (Kz (vP d 0) (Lz (vP f 0) Q 18 P3 (Kz (vP f 0) (Kz (vP f 34) (Lz (.pointer none) Q 0 V0 (An rfl (Ic (sr (Mz rfl (Kz (.bool true) (nt (jt (rt (tR (Fin.res (res0 rfl) (C6 (IA (res0 rfl) (ns (Mz rfl (Kz (vP f 0) (Kz (vP f 0) (La ([vI a.aa.au,vU a.aa.av,vU a.aa.aV,vU a.aa.aL, .slice S a.aa.ag.ls.length B, .slice fM a.aa.aj.ls.length bR, .slice fO a.aa.aF.ls.length bS]) Q 0 U1 H4 ?_))))))))))))))))))))))))
 obtain⟨⟨ak,fZ⟩,dB⟩:∃ q:(List UInt8) × Int,fA a.aa=q:=⟨_,rfl⟩
 obtain⟨pu,iW,nK,iX,T⟩:=Ii Q
 refine cl U2 (kJ _ _ a.aa S a.aa.ag.ls.length B fM a.aa.aj.ls.length bR kv fO a.aa.aF.ls.length bS kw ak fZ iW rfl (T _ 1 _ rfl aO) e6 F rfl (T _ 2 _ rfl aO) e6 (λ x9 Y=>⟨T _ 3 _ rfl (ax (Q3.2 ⟨x9,Y,b1⟩) aO),aZ (φ:=λ _=>_) Q (i:=3) rfl (ax (Q3.2 ⟨x9,Y,b1⟩) aW)⟩) G rfl (T _ 4 _ rfl aO) e6 (λ x9 Y=>⟨T _ 5 _ rfl (ax (Q3.2 ⟨x9,Y,b1⟩) aO),aZ (φ:=λ _=>_) Q (i:=5) rfl (ax (Q3.2 ⟨x9,Y,b1⟩) aW),(λ y1 k1=>⟨T _ 5 _ rfl (ax (Q3.2 ⟨x9,Y, .tail _ b1⟩) (ax (Q3.2 ⟨y1,k1,b1⟩) aO)),aZ (φ:=λ _=>_) Q (i:=5) rfl (ax (Q3.2 ⟨x9,Y, .tail _ b1⟩) (ax (Q3.2 ⟨y1,k1,b1⟩) aW))⟩)⟩) e8 i4 dB) ?_
 rintro _ pz ⟨gm,gq,rfl,iY,dC⟩
 have gu:=iX _ _ iY
 have nL:=zr 0 gu
 replace dC:ak.length<=100000:=dC
 refine Mz rfl (Kz (.slice gm ak.length gq) (Kz (vI fZ) (Az rfl (An rfl (Ic ?_)))))
 have lN:=gu.pb [21]
 refine pU 24 [] (Iu IC) lN ?_
 intro pE lQ
 refine qv 0 rfl rfl (qp d 0 1 rfl (qp d 1 2 rfl (ql 3 rfl 19 U3 rfl rfl rfl (qv 4 rfl rfl (qv 5 rfl rfl ?_)))))
 obtain⟨X,dD⟩:∃ q,bytes_Equal n ak=q:=⟨_,rfl⟩
 obtain⟨pF,ja,nM,jb,dE⟩:=Ii lQ
 refine qd 6 rfl (Iz U4 rfl (rT _ _ bn n.length bq n gm ak.length gq ak X ja (dE _ 20 _ rfl aO) rfl e6 (dE _ 0 _ rfl aO) rfl e6 dD) ?_)
 rintro _ pG ⟨rfl,jc⟩
 have gy:=jb _ _ jc
 refine⟨.inr ⟨_,gy⟩, ?_⟩
 refine qk (.bool (!X)) 7 rfl (qk (.agg #[.slice p g.length r, .bool (!X)]) 8 rfl ?_)
 have lS:=gy.pf [24]
 refine qe 9 rfl (Do.store (vs:= [.slice p g.length r, .bool (!X)]) (o:=0) lS rfl rfl T4 rfl rfl rfl rfl ?_)
 intro pI lT
 have dG:=lT.pb [0]
 refine⟨.inr ⟨_,dG⟩, ?_⟩
 refine qn (Ig (rt (Fin.res (ol rfl rfl (Iy (cs:= [.slice p g.length r, .bool (!X)]) T5 T4 ((dG.cls (i:=24) rfl).lit (k:=0) (m:=2) rfl))) ?_)))
 have lU:=dG.pf [21]
 refine dS [.slice p g.length r, .bool (!X)] 0 lU T4 ?_
 intro pJ gz
 refine nt (rt (Fin.res (ol rfl rfl (Iy (cs:= [.slice p g.length r, .bool (!X)]) T5 T4 ((gz.cls (i:=0) rfl).lit (k:=0) (m:=2) rfl))) ?_))
 have lV:=gz.pb [0,1,20,21,22,23,24]
 have lW:=fe F G K L M N O P lV
 have lX:=lW.pk [5,6,0]
 obtain⟨rfl,rfl⟩:=ic (zj hr zq7)
 exact⟨p,r,I,rfl,lX,E,i1,f5⟩
end
def Ei:cZ:=cZ.mk 2 0 0 1 (Ll.mk [aY.mk [] 1,aY.mk [109] 2]) (Ll.mk []) (Ll.mk [])
theorem Ch {r:cZ} (h:gW Ei=r):List.length r.ag.ls=2/\r.au=2/\List.length r.aj.ls=0/\List.length r.aF.ls=0:=by subst h; exact⟨rfl,rfl,rfl,rfl⟩
def qo (r:cZ):aA:=aA.mk (cZ.mk r.au (Int.toNat (IntKind.u64.wrap (((r.av:Nat):Int)+1))) (eU (Int.toNat (IntKind.u64.wrap (((r.av:Nat):Int)+1))) 32) r.aL (Ll.mk r.ag.ls) (Ll.mk r.aj.ls) (Ll.mk r.aF.ls)) 0 (Ll.mk []) (df.mk false 0 0 (Ll.mk [])) (df.mk false 0 0 (Ll.mk [])) (df.mk false 0 0 (Ll.mk [])) (df.mk false 0 0 (Ll.mk [])) (df.mk false 0 0 (Ll.mk [])) 0 0 0 0 0
theorem wO {r:cZ} {m:aA} (h:gW Ei=r) (e:qo r=m):Mk m:=by
  subst h; subst e
  have z:nI []/\ky 0:=⟨mE,Lg _⟩
  exact⟨(by dsimp only [qo]; exact mh _),(by dsimp only [qo]; exact nZ _ _),(by decide:(1:Nat)<=18446744073709551615),Lg _,λ x hx=>(by cases hx),λ x hx=>(by cases hx),λ x hx=>(by cases hx),z,z,z,z,z⟩
theorem tZ {r:cZ} {m:aA} (h:gW Ei=r) (e:qo r=m):List.length m.aa.ag.ls<=1000/\m.aa.au<=4/\List.length m.ay.ls+List.length m.aa.aj.ls<=8/\List.length m.aa.aF.ls<=0:=by
  subst h; subst e
  exact⟨(by decide:2<=1000),(by decide:(2:Int)<=4),(by decide:0+0<=8),(by decide:0<=0)⟩
structure TS (m:aA) (E:List bL × aA):Prop where
  own:E.2.aa.ag.ls=m.aa.ag.ls
  sh:E.2.aa.au=m.aa.au
  lw:∀ k,Im k m->k+1<=1000000->Im (k+1) E.2/\Lw (lo m) (lo E.2) E.1
theorem Lw.le:∀ {l:List bL} {a b:Nat},Lw a b l->a<=b
  | [],_,_,h=>h
  | x::l,a,b,h=>by
    unfold Lw at h
    by_cases e:x.aD=3
    . rw [if_pos e] at h; exact Nat.le_trans h.1 (Lw.le h.2.2)
    . rw [if_neg e] at h; exact Lw.le h
theorem TS.same (m:aA):TS m ([],m):=⟨rfl,rfl,λ k h hl=>⟨h.mono (Nat.le_succ k) hl,Nat.le_refl _⟩⟩
theorem Ld {j:Nat} {t:bI} {m m':aA} (h:Tr j (bI.mk (Ll.mk [])) m t m') (hj:j<=1) {o:List bL} (ho:∃ q,o=t.aX.ls++q/\∀ x ∈ q,x.aD≠3):TS m (o,m'):=⟨h.own,h.sh,λ k hk hl=>by
  obtain⟨q,rfl,hq⟩:=ho
  obtain⟨a,o,e,w⟩:=h.lw k (hk.mono (Nat.le_add_right k j) e6) e6 hk
  have e':t.aX.ls=o:=e
  exact⟨a.mono e6 hl,by dsimp only; rw [e']; exact Lw.app (JP (Nat.le_refl _) hq) w⟩⟩
theorem zi (r:List UInt8) (m:aA):∀ (f k:Nat) (l:List bL),Int.toNat (m.aa.au+1 - ((k:Nat):Int)) < f->∃ q,fK r m f k l=l++q/\∀ x ∈ q,x.aD=8
  | 0,k,l,h=>absurd h (Nat.not_lt_zero _)
  | f+1,k,l,h=>by
    by_cases hk:(k:Int)<=m.aa.au
    . have hn:Int.toNat (m.aa.au+1 - (((k+1:Nat)):Int)) < f:=e6
      have a:=zi r m f (k+1) l hn
      have b:∀ y:bL,y.aD=8->∃ q,fK r m f (k+1) (l++ [y])=l++q/\∀ x ∈ q,x.aD=8:=λ y hy=>by
        obtain⟨q,e,hq⟩:=zi r m f (k+1) (l++ [y]) hn
        refine⟨y::q,e.trans (List.append_assoc l [y] q),λ x hx=> ?_⟩
        rcases List.mem_cons.1 hx with rfl | hx
        . exact hy
        . exact hq x hx
      unfold fK
      rw [if_pos hk]
      split
      . split
        . exact a
        . exact b _ rfl
      split
      . split
        . exact a
        . exact b _ rfl
      split
      . split
        . exact a
        . exact b _ rfl
      split
      . exact a
      . exact b _ rfl
    . unfold fK
      rw [if_neg hk]
      exact⟨[],(List.append_nil l).symm,λ x hx=>by cases hx⟩
theorem E8 {w:World} {l:List fM} (h:∀ x ∈ l,JB w x):∀ x ∈ List.map fM.abs l,x.az.aP<=18446744073709551615/\List.length x.az.aH.ls<=140737488351232/\List.length x.az.ai.ls<=140737488351232/\List.length x.az.ag.ls<=140737488351232:=λ x hx=>by
  obtain⟨y,hy,rfl⟩:=List.mem_map.1 hx
  have k:=(h y hy).2.2.1
  have o:=k.2.2.2.2.2.2.2.2.2.2.2.2.2.2.2.2.2.1
  have r:=k.2.2.2.2.2.2.2.2.2.2.2.2.2.2.2.2.2.2.1
  have v:=k.2.2.2.2.2.2.2.2.2.2.2.2.2.2.2.2.2.2.2
  refine⟨k.2.2.2.2.2.2.1, ?_, ?_, ?_⟩
  . show List.length y.az.aH.ls<=_
    have a:=o.1; have b:=o.2.1; omega
  . show List.length (List.map ae.abs y.az.ai.ls)<=_
    rw [List.length_map]; have a:=r.1; have b:=r.2.1; omega
  . show List.length y.az.ag.ls<=_
    have a:=v.1; have b:=v.2.1; omega
def ni (m:aA) (c:Int):df:=if c=1 then m.bA else if c=2 then m.bz else if c=3 then m.bv else m.bq
def yI (m:aA):List (Int × Nat):=List.map (λ y=>(y.aM,y.aS)) m.ay.ls
def Hw (s:Int->Nat->Int) (c:Int) (q:Nat) (k:Int):Int->Nat->Int:=λ c' q'=>if c'=c/\q'=q then k else s c' q'
def sG:List bL->(Int->Nat->Int)->(Int->Nat->Int)->Prop
  | [],s,s'=>s'=s
  | x::o,s,s'=>if x.aD=2 then(s x.fI x.aP=0\/s x.fI x.aP=x.dz)/\sG o (Hw s x.fI x.aP x.dz) s' else sG o s s'
theorem J9:∀ {o:List bL} {s:Int->Nat->Int},(∀ x ∈ o,x.aD≠2)->sG o s s
  | [],_,_=>rfl
  | x::o,s,h=>by unfold sG; rw [if_neg (h x b1)]; exact J9 λ y hy=>h y (.tail _ hy)
theorem sG.app {r:List bL} {a c:Int->Nat->Int} (b:sG r a c):∀ {o:List bL} {s:Int->Nat->Int},sG o s a->sG (o++r) s c
  | [],s,h=>by cases (show a=s from h); exact b
  | x::o,s,h=>by
    simp only [List.cons_append,sG] at h ⊢
    by_cases e:x.aD=2
    . rw [if_pos e] at h ⊢; exact⟨h.1,sG.app b h.2⟩
    . rw [if_neg e] at h ⊢; exact sG.app b h
structure Bn (s:Int->Nat->Int) (m:aA):Prop where
  old:∀ c q,s c q≠0->(11<=c/\c<=14)/\(ni m (c - 10)).cO=true/\(q < (ni m (c - 10)).aS\/q=(ni m (c - 10)).aS/\s c q=(ni m (c - 10)).dA)
  act:∀ y ∈ yI m,(1<=y.1/\y.1<=4)/\((ni m y.1).cO=true->(ni m y.1).aS < y.2)
  one:List.Pairwise (λ a b=>a.1≠b.1) (yI m)
theorem Bn.of {s:Int->Nat->Int} {m m':aA} (h:Bn s m) (ha:∀ c,ni m' c=ni m c) (hc:(yI m').Sublist (yI m)):Bn s m':=
  ⟨λ c q e=>by rw [ha]; exact h.old c q e,λ y hy=>by rw [ha]; exact h.act y (hc.subset hy),h.one.sublist hc⟩
structure TA (p:bI) (m:aA) (t:bI) (m':aA):Prop where
  oz:m'.aa.av=m.aa.av
  say:∃ o,t.aX.ls=p.aX.ls++o/\∀ s,Bn s m->∃ s',sG o s s'/\Bn s' m'
theorem TA.of {p t:bI} {m m':aA} {o:List bL} (hb:m'.aa.av=m.aa.av) (ha:∀ c,ni m' c=ni m c) (hc:(yI m').Sublist (yI m)) (ho:t.aX.ls=p.aX.ls++o) (hk:∀ x ∈ o,x.aD≠2):TA p m t m':=
  ⟨hb,o,ho,λ s A=>⟨s,J9 hk,A.of ha hc⟩⟩
theorem TA.same (p:bI) (m:aA):TA p m p m:=TA.of rfl (λ _=>rfl) (S4.refl _) (s6 _).symm λ x hx=>by cases hx
theorem TA.trans {p t u:bI} {m a b:aA} (c:TA p m t a) (d:TA t a u b):TA p m u b:=by
  obtain⟨e,f,g,h⟩:=c
  obtain⟨i,j,k,k2⟩:=d
  refine⟨i.trans e,f++j,by rw [k,g,q4],λ s A=> ?_⟩
  obtain⟨l,n,o⟩:=h s A
  obtain⟨q,r,v⟩:=k2 l o
  exact⟨q,sG.app r n,v⟩
theorem Gb {p t:bI} {c:Int} {q:Nat} {k:Int} {l:List aQ} {m m':aA} (h:dC p c q k l m=(t,m')) (hc:1<=c/\c<=4):
    ∃ x,t.aX.ls=p.aX.ls++ [x]/\x.aD=2/\x.fI=10+c/\x.aP=q/\x.dz=k/\((ni m' c).cO=true/\(ni m' c).aS=q/\(ni m' c).dA=k)/\∀ d,1<=d/\d<=4->d≠c->ni m' d=ni m d:=by
  unfold dC at h
  simp only [bnd] at h
  obtain rfl | rfl | rfl | rfl:c=1\/c=2\/c=3\/c=4:=e6
  . rw [if_pos f4] at h
    obtain⟨rfl,rfl⟩:=Prod.mk.inj h
    exact⟨_,rfl,rfl,rfl,rfl,rfl,⟨rfl,rfl,rfl⟩,λ d _ hd=>by unfold ni; rw [if_neg hd,if_neg hd]⟩
  . rw [if_neg f4,if_pos f4] at h
    obtain⟨rfl,rfl⟩:=Prod.mk.inj h
    exact⟨_,rfl,rfl,rfl,rfl,rfl,⟨rfl,rfl,rfl⟩,λ d _ hd=>by unfold ni; rw [if_neg hd,if_neg hd]⟩
  . rw [if_neg f4,if_neg f4,if_pos f4] at h
    obtain⟨rfl,rfl⟩:=Prod.mk.inj h
    exact⟨_,rfl,rfl,rfl,rfl,rfl,⟨rfl,rfl,rfl⟩,λ d _ hd=>by unfold ni; rw [if_neg hd,if_neg hd]⟩
  . rw [if_neg f4,if_neg f4,if_neg f4] at h
    obtain⟨rfl,rfl⟩:=Prod.mk.inj h
    refine⟨_,rfl,rfl,rfl,rfl,rfl,⟨rfl,rfl,rfl⟩,λ d a hd=> ?_⟩
    obtain rfl | rfl | rfl:d=1\/d=2\/d=3:=e6
    . rfl
    . rfl
    . rfl
theorem Gc {m:aA} {i:Nat} {y:dK} (hc:y.aM=(C0 m.ay.ls i default).aM) (hr:y.aS=(C0 m.ay.ls i default).aS):yI (oh m i y)=yI m:=by
  unfold yI oh
  dsimp only
  rw [List.map_set]
  by_cases h:i < m.ay.ls.length
  . have:(List.map (λ y:dK=>(y.aM,y.aS)) m.ay.ls)[i]'(by rw [List.length_map]; exact h)=(y.aM,y.aS):=by rw [List.getElem_map,hc,hr,List.getD_eq_getElem?_getD,List.getElem?_eq_getElem h]; rfl
    rw [<- this]; exact List.set_getElem_self _
  . exact List.set_eq_of_length_le i9
theorem TA.set (p:bI) (m:aA) {i:Nat} {y:dK} (hc:y.aM=(C0 m.ay.ls i default).aM) (hr:y.aS=(C0 m.ay.ls i default).aS):TA p m p (oh m i y):=TA.of rfl (λ _=>rfl) (by rw [Gc hc hr]; exact S4.refl _) (s6 _).symm λ x hx=>by cases hx
theorem TA.decide (p:bI) (n:Nat) (l:List Int) (f:Bool) (m:aA):TA p m (dZ p n l f) m:=by
  obtain⟨q,e,h⟩:=yD p n l f
  exact TA.of rfl (λ _=>rfl) (S4.refl _) e λ x hx=>by rw [h x hx]; decide
structure TB (m:aA) (E:List bL × aA):Prop where
  oz:E.2.aa.av=m.aa.av
  say:∀ s,Bn s m->∃ s',sG E.1 s s'/\Bn s' E.2
theorem TB.same (m:aA):TB m ([],m):=⟨rfl,λ s A=>⟨s,rfl,A⟩⟩
theorem xR (m:aA) (r:Int) (x y:dK):∀ (f k:Nat) (l:List bL), ∃ q,iw m r x y f k l=l++q/\∀ z ∈ q,z.aD=3/\z.aN=y.aR
  | 0,k,l=>⟨[],(s6 _).symm,λ z hz=>by cases hz⟩
  | f+1,k,l=>by
    simp only [iw,bnd]
    split
    . exact xR m r x y f (k+1) l
    . obtain⟨q,e,hq⟩:=xR m r x y f (k+1) _
      refine⟨_::q,e.trans (q4 l [_] q),λ z hz=> ?_⟩
      rcases List.mem_cons.1 hz with rfl | hz
      . exact⟨rfl,rfl⟩
      . exact hq z hz
open Int renaming natCast_nonneg->V1
open List renaming cons_ne_nil->V2,flatMap_eq_nil_iff->V3,getElem?_eq_none->r7,mem_replicate->O3
def Rg (r:aQ):Prop:=iA r=true
def Pg (p:aI):Prop:=ib p.bY=0/\p.aT.length<=16
theorem zU:∀ l:List aI,(fG l= .inl ()/\∀ p ∈ l,Pg p)\/(fG l= .inr false/\¬ ∀ p ∈ l,Pg p)
  | []=> .inl ⟨rfl,λ p hp=>by cases hp⟩
  | x::l=>by
    simp only [fG,bnd]
    split
    . rename_i a
      split
      . exact .inr ⟨rfl,λ h=>by have:=(h x b1).2; omega⟩
      . rcases zU l with ⟨e,h⟩ | ⟨e,h⟩
        . exact .inl ⟨e,λ p hp=>by
            rcases List.mem_cons.1 hp with rfl | hp
            . exact⟨a,e6⟩
            . exact h p hp⟩
        . exact .inr ⟨e,λ h'=>h λ p hp=>h' p (.tail _ hp)⟩
    . rename_i a
      exact .inr ⟨rfl,λ h=>a (h x b1).1⟩
theorem EE {r:aQ} (b:r.aT.length<=16) (c:r.ak.ls.length<=4) (a:∀ p ∈ r.ak.ls,Pg p):Rg r:=by
  unfold Rg iA
  rw [if_neg e6,if_neg e6]
  rcases zU r.ak.ls with ⟨e,h⟩ | ⟨e,h⟩
  . rw [e]; rfl
  . exact absurd a h
theorem GH {r:aQ} (h:Rg r):∀ p ∈ r.ak.ls,Pg p:=by
  unfold Rg iA at h
  split at h
  . cases h
  split at h
  . cases h
  rcases zU r.ak.ls with ⟨e,h'⟩ | ⟨e,h'⟩
  . exact h'
  . rw [e] at h; cases h
theorem EF:∀ l:List aI,iq l=fG l
  | []=>rfl
  | x::l=>by simp only [iq,fG,bnd,EF l]
abbrev Gk (l:List aQ):Prop:=∀ x ∈ l,Rg x
theorem CJ:∀ {l:List aQ},lp (gY l) (λ _=>true)=true->Gk l
  | [],_,x,hx=>by cases hx
  | y::l,h,x,hx=>by
    simp only [gY] at h
    split at h
    . cases h
    split at h
    . cases h
    rw [EF] at h
    rcases zU y.ak.ls with ⟨e,hp⟩ | ⟨e,hp⟩
    . rw [e] at h
      rcases List.mem_cons.1 hx with rfl | hx
      . exact EE e6 e6 hp
      . exact CJ h x hx
    . rw [e] at h; cases h
theorem Gd {x:bL} (h:lQ x=0):Gk x.ai.ls:=by
  unfold lQ qC at h
  simp only [bnd] at h
  rcases el:pu x.aD with ⟨y,ok⟩
  rw [el] at h
  split at h
  case isFalse=>cases h
  split at h
  case isFalse=>cases h
  split at h
  case isFalse=>cases h
  split at h
  case isFalse=>cases h
  rename_i hb
  split at h
  case isFalse=>cases h
  rename_i hm
  have hc:=CG x y y.cK.ls x.dz x.eH x.aP x.av x.aN x.dY x.aV x.aL x.dL x.cu x.xN x.cz x.bU.bF x.bU.bT x.aH.ls x.ai.ls x.ag.ls
  have hl:=zD hb
  simp only at hl
  by_cases a:(3:Int) ∈ y.cK.ls
  . have:=Bj hm 3 a
    simp only [oZ,og,bnd,Int.reduceEq, ↓reduceIte] at this
    split at this
    . split at this
      . cases this
      . exact CJ this
    . split at this
      . cases this
      . exact CJ this
  . rw [<- hc.2.1 a,hl.2.1]; intro x hx; cases hx
theorem qE {α:Type} [Inhabited α] {l:List α} {i:Nat} (h:i < l.length):C0 l i default ∈ l:=List.mem_of_getElem? (getD_at h)
theorem zk {l:List aI} {a m b:Nat} {x:aI} (h:x ∈ uF l a m b):x ∈ l:=by
  unfold uF at h
  rcases v6.1 h with h | h
  . exact G0 h
  rcases v6.1 h with h | h
  . exact G0 (S2 h)
  rcases v6.1 h with h | h
  . exact G0 (S2 h)
  . exact S2 h
theorem zl {α:Type} {l:List α} {c:Prop} [Decidable c] {p q:List α} (a:∀ x ∈ p,x ∈ l) (b:∀ x ∈ q,x ∈ l):∀ x ∈ (if c then p else q),x ∈ l:=by split <;> assumption
theorem vC:∀ (f:Nat) (l:List aI) (a m b:Nat), ∀ x ∈ pJ f l a m b,x ∈ l
  | 0,l,_,_,_,x,h=>h
  | f+1,l,a,m,b,x,h=>by
    unfold pJ at h
    split at h
    . exact zk h
    split at h
    . exact zk h
    dsimp only at h
    have d:∀ {c:Prop} [Decidable c] {a m b:Nat}, ∀ x ∈ (if c then uF l a m b else l),x ∈ l:=zl (λ y hy=>zk hy) λ y hy=>hy
    have e:∀ {c c':Prop} [Decidable c] [Decidable c'] {a m b a' m' b':Nat}, ∀ x ∈ (if c' then pJ f (if c then uF l a m b else l) a' m' b' else(if c then uF l a m b else l)),x ∈ l:=zl (λ y hy=>d y (vC f _ _ _ _ y hy)) d
    exact zl (λ y hy=>e y (vC f _ _ _ _ y hy)) e x h
def Jn (P:aI->Prop) (n:Nat) (l:List aI):Prop:=(∀ x ∈ l,P x)/\(l.length=n\/l= [])
section
variable {P:aI->Prop} {n:Nat}
theorem yJ:Jn P n []:=⟨λ x hx=>(by cases hx), .inr rfl⟩
theorem Dz {a:Int} (b:0<=a):∀ (q:Nat) (z:Int) (l:List aI),z < ((n:Nat):Int)->Jn P n l->Jn P n (gH a q z l)
  | 0,z,l,_,_=>yJ
  | q+1,z,l,hz,J=>by
    simp only [gH,bnd]
    split
    . split
      . refine Dz b q (z - 1) _ e6 ?_
        rcases J.2 with e | rfl
        . refine⟨λ x hx=> ?_, .inl (by rw [H1,H1]; exact e)⟩
          rcases O0 hx with hx | rfl
          . rcases O0 hx with hx | rfl
            . exact J.1 x hx
            . exact J.1 _ (qE (l:=l) (i:=D0 (z - 1)) e6)
          . exact J.1 _ (qE (l:=l) (i:=D0 z) e6)
        . exact yJ
      . exact J
    . exact J
theorem Bo {a p2:Int} (b:0<=a) (c:p2<=((n:Nat):Int)):∀ (q:Nat) (z:Int) (l:List aI),Jn P n l->Jn P n (gI a p2 q z l)
  | 0,z,l,_=>yJ
  | q+1,z,l,J=>by
    simp only [gI,bnd]
    split
    . exact Bo b c q (z+1) _ (Dz b _ z l e6 J)
    . exact J
theorem DC:∀ (q a b:Nat) (l:List aI),Jn P n l->Jn P n (iB ((n:Nat):Int) q a b l).2
  | 0,a,b,l,_=>yJ
  | q+1,a,b,l,J=>by
    simp only [iB,bnd]
    split
    . exact DC q b (b+20) _ (Bo (V1 _) e6 _ _ l J)
    . exact J
end
theorem Bp (c:Int) (k:Nat):∀ (q a b:Nat) (l:List aI), ∀ x ∈ (iC c k q a b l).2,x ∈ l
  | 0,a,b,l,x,h=>by cases h
  | q+1,a,b,l,x,h=>by
    simp only [iC,bnd] at h
    split at h
    . exact vC _ _ _ _ _ x (Bp c k q b _ _ x h)
    . exact h
theorem Bq (a:Int):∀ (q k:Nat) (l:List aI), ∀ x ∈ gX a q k l,x ∈ l
  | 0,k,l,x,h=>by cases h
  | q+1,k,l,x,h=>by
    simp only [gX,bnd] at h
    split at h
    . split at h
      . exact Bp _ _ _ _ _ _ x (vC _ _ _ _ _ x (Bq a q _ _ x h))
      . exact Bp _ _ _ _ _ _ x (Bq a q _ _ x h)
    . exact h
theorem E9 {l:List aI} {x:aI} (h:x ∈ jr l):x ∈ l:=by
  have a:=Bq _ _ _ _ x h
  have J:=DC (P:=λ x=>x ∈ l) (n:=l.length) (D0 ((l.length:Int)+1 - 20)+1) 0 20 l ⟨λ x hx=>hx, .inl rfl⟩
  exact(Bo (p2:=(l.length:Int)) (V1 _) e6 _ _ _ J).1 x a
theorem CK {l:List (Ll aQ)} (h:∀ r ∈ l,Gk r.ls) (i:Nat):Gk (C0 l i default).ls:=by
  by_cases hi:i < l.length
  . exact h _ (qE hi)
  . rw [L4,r7 e6]; intro x hx; cases hx
theorem Br {l:List aQ} (h:Gk l) (i:Nat):Rg (C0 l i default):=by
  by_cases hi:i < l.length
  . exact h _ (qE hi)
  . rw [L4,r7 e6]; exact(rfl:iA default=true)
theorem EG {c:List (Ll aQ)} (d:∀ r ∈ c,Gk r.ls) (k:Nat):∀ (q:List Int) (j:Nat) (l:List (Ll aQ)),(∀ r ∈ l,Gk r.ls)->∀ r ∈ kF c k q j l,Gk r.ls
  | [],_,l,h=>h
  | a::q,j,l,h=>EG d k q (j+1) _ λ r hr=>by
    rcases O0 hr with b | rfl
    . exact h r b
    . intro x hx
      rcases v6.1 hx with b | b
      . exact CK h _ x b
      . rw [List.mem_singleton.1 b]; exact Br (CK d _) _
theorem EH {l0:List bi} {b:List (Ll aQ)} (c:∀ r ∈ b,Gk r.ls):∀ (q:List gF) (k:Nat) (l:List (Ll aQ)),(∀ r ∈ l,Gk r.ls)->∀ r ∈ jH l0 b q k l,Gk r.ls
  | [],k,l,h=>h
  | a::q,k,l,h=>EH c q (k+1) _ (EG c k _ 0 l h)
theorem EI (p:bi):∀ (l:List aQ) (o:List aI),Gk l->(∀ x ∈ o,Pg x)->∀ x ∈ jC p l o,Pg x
  | [],o,_,h=>h
  | y::l,o,hl,h=>EI p l _ (λ x hx=>hl x (.tail _ hx)) λ x hx=>by
    rcases v6.1 hx with a | a
    . exact h x a
    . exact GH (hl y b1) x a
theorem GI {p:bi} (hp:p.bS<=4) {l:List aQ} (h:Gk l):Rg (jq p l):=by
  unfold jq
  simp only [bnd]
  split
  . exact EE (Lg _) (by simp only [List.length_take]; omega) λ x hx=>EI p l [] h (λ x hx=>by cases hx) x (E9 (G0 hx))
  . split
    . exact(rfl:iA default=true)
    . exact Br h 0
theorem EJ {l:List (Ll aQ)} (h:∀ r ∈ l,Gk r.ls):∀ (q:List bi) (k:Nat) (r:List aQ),(∀ o ∈ q,o.bS<=4)->Gk r->Gk (jI l q k r)/\r8 (jI l q k r)=r8 r
  | [],_,r,_,hr=>⟨hr,rfl⟩
  | a::q,k,r,ho,hr=>by
    have b:=EJ h q (k+1) (List.set r k (aQ.mk (jq a (C0 l k default).ls).eF (jq a (C0 l k default).ls).aT (Ll.mk (jq a (C0 l k default).ls).ak.ls))) (λ o h=>ho o (List.mem_cons_of_mem _ h)) (λ x hx=>by
      rcases O0 hx with b | rfl
      . exact hr x b
      . exact GI (ho a List.mem_cons_self) (CK h _))
    exact⟨b.1,b.2.trans H1⟩
theorem DD {l0:List bi} {l1:List gF} {a:List (Ll aQ)} {r:List aQ} {e:Int} (h:lM l0 l1 a=(r,e)) (ho:∀ o ∈ l0,o.bS<=4) (c:∀ q ∈ a,Gk q.ls):Gk r/\r8 r<=r8 l0:=by
  unfold lM at h
  simp only [bnd] at h
  split at h
  . obtain⟨rfl,_⟩:=Prod.mk.inj h
    have b:=EJ (l:=jH l0 a l1 0 (List.replicate (r8 l0) (Ll.mk []:Ll aQ))) (EH (l0:=l0) c l1 0 _ λ q hq=>by rw [(O3.1 hq).2]; intro x hx; cases hx) l0 0 (List.replicate (r8 l0) (aQ.mk false [] (Ll.mk []))) ho (λ x hx=>by rw [(O3.1 hx).2]; exact(rfl:iA default=true))
    exact⟨b.1,by rw [b.2,List.length_replicate]; exact Nat.le_refl _⟩
  . obtain⟨rfl,_⟩:=Prod.mk.inj h
    exact⟨λ x hx=>(by cases hx),Lg _⟩
def OW:List aY:= [aY.mk [] 1,aY.mk [109] 2]
def Bt (l:List Int):Prop:=l= [1]\/l= [2]\/l= [1,2]
theorem Fa {k:Int} (c:k≠1) (d:k≠2) (o:bi):jc OW k o= []:=by
  unfold jc
  have a: ¬ ((1:Int)=k):=λ e=>c e.symm
  have b: ¬ ((2:Int)=k):=λ e=>d e.symm
  split
  . simp only [gy,OW,ig,if_neg a,if_neg b]
  split
  . simp only [gz,OW,ig,if_neg a,if_neg b]
  . simp only [qD,jW,OW,ig]
    split
    . split
      . exact if_neg b
      . exact if_neg a
    . split
      . exact if_neg b
      . exact if_neg a
theorem Gf {o:bi} (h:kH o=0):(o.aD=4\/o.aD=5->kG (bC.mk o.bF o.bT)=0)/\o.bS<=4:=by
  have z:∀ {a:bi},a.bS=0->(a.aD=o.aD/\a.bY=o.bY/\a.aT=o.aT/\a.bF=o.bF/\a.bT=o.bT/\a.bS=o.bS)->o.bS<=4:=λ c b=>by
    have:=b.2.2.2.2.2; omega
  unfold kH at h
  simp only [ig] at h
  split at h
  . rename_i hk
    split at h
    . rename_i b; exact⟨λ e=>e6,z rfl b⟩
    . cases h
  split at h
  . rename_i hk
    split at h
    . rename_i b; exact⟨λ e=>e6,z rfl b⟩
    . cases h
  split at h
  . rename_i hk
    split at h
    . rename_i b; exact⟨λ e=>e6,z rfl b⟩
    . cases h
  split at h
  . split at h
    . unfold pW at h
      rw [show mJ o=kG (bC.mk o.bF o.bT) from rfl] at h
      simp only [ig] at h
      by_cases c:kG (bC.mk o.bF o.bT)=0
      . rw [if_pos c] at h
        split at h
        . cases h
        . split at h
          . cases h
          . exact⟨λ _=>c,e6⟩
      . rw [if_neg c] at h; exact absurd h c
    . cases h
  split at h
  . split at h
    . rename_i b
      unfold mJ at h
      exact⟨λ _=>h,z rfl b⟩
    . cases h
  . cases h
theorem EK {lo hi:List UInt8} (h:kG (bC.mk lo hi)=0):(iK (bC.mk lo hi) (bC.mk [] [109])).2=true\/(iK (bC.mk lo hi) (bC.mk [109] [])).2=true:=by
  have hlt:hi≠ []->lo < hi:=λ hh=>by
    unfold kG at h
    simp only [ig] at h
    by_cases b:lo≠ []
    . rw [if_pos b] at h
      split at h
      . split at h
        . split at h
          . cases h
          . rename_i a; exact List.not_le.1 a
        . cases h
      . cases h
    . rw [if_neg b,if_pos hh] at h
      split at h
      . split at h
        . cases h
        . rename_i a; exact List.not_le.1 a
      . cases h
  have bl:∀ {x:List UInt8},lo < x->o6 lo x=true:=λ {x} hx=>by
    unfold o6
    by_cases e:x= []
    . rw [if_pos e]
    . rw [if_neg e]; exact decide_eq_true hx
  by_cases c:lo < [109]
  . refine .inl ?_
    unfold iK
    simp only [ig]
    rw [if_pos h,if_pos (by decide+kernel)]
    have hm:pG lo []=lo:=if_neg (List.not_lt_nil lo)
    rw [hm]
    have hb:o6 lo (mO hi [109])=true:=by
      unfold mO
      by_cases e:hi= []
      . rw [if_pos e]; exact bl c
      . rw [if_neg e,if_pos (V2 _ _)]
        split
        . exact bl c
        . exact bl (hlt e)
    rw [if_pos hb]
  . refine .inr ?_
    unfold iK
    simp only [ig]
    rw [if_pos h,if_pos (by decide+kernel)]
    have hm:pG lo [109]=lo:=if_neg c
    rw [hm]
    have hb:o6 lo (mO hi [])=true:=by
      unfold mO
      by_cases e:hi= []
      . rw [if_pos e]; exact if_pos rfl
      . rw [if_neg e,if_neg (λ h=>h rfl)]; exact bl (hlt e)
    rw [if_pos hb]
theorem Ej {o:bi} (h:kH o=0):jc OW 1 o≠ []\/jc OW 2 o≠ []:=by
  have hc:=(Gf h).1
  unfold jc
  by_cases a:o.aD=4
  . rw [if_pos a,if_pos a]
    simp only [ig]
    have c:gy OW 1 o OW [] 0=if(iK (bC.mk o.bF o.bT) (bC.mk [] [109])).2=true then [bi.mk o.aD [] [] (iK (bC.mk o.bF o.bT) (bC.mk [] [109])).1.bF (iK (bC.mk o.bF o.bT) (bC.mk [] [109])).1.bT o.bS] else []:=rfl
    have d:gy OW 2 o OW [] 0=if(iK (bC.mk o.bF o.bT) (bC.mk [109] [])).2=true then [bi.mk o.aD [] [] (iK (bC.mk o.bF o.bT) (bC.mk [109] [])).1.bF (iK (bC.mk o.bF o.bT) (bC.mk [109] [])).1.bT o.bS] else []:=rfl
    rw [c,d]
    rcases EK (hc (.inl a)) with hm | hm
    . exact .inl (by rw [if_pos hm]; exact V2 _ _)
    . exact .inr (by rw [if_pos hm]; exact V2 _ _)
  rw [if_neg a,if_neg a]
  by_cases b:o.aD=5
  . rw [if_pos b,if_pos b]
    simp only [ig]
    have c:gz OW 1 o OW [] 0=if(iK (bC.mk o.bF o.bT) (bC.mk [] [109])).2=true then [bi.mk o.aD [] [] (iK (bC.mk o.bF o.bT) (bC.mk [] [109])).1.bF (iK (bC.mk o.bF o.bT) (bC.mk [] [109])).1.bT o.bS] else []:=rfl
    have d:gz OW 2 o OW [] 0=if(iK (bC.mk o.bF o.bT) (bC.mk [109] [])).2=true then [bi.mk o.aD [] [] (iK (bC.mk o.bF o.bT) (bC.mk [109] [])).1.bF (iK (bC.mk o.bF o.bT) (bC.mk [109] [])).1.bT o.bS] else []:=rfl
    rw [c,d]
    rcases EK (hc (.inr b)) with hm | hm
    . exact .inl (by rw [if_pos hm]; exact V2 _ _)
    . exact .inr (by rw [if_pos hm]; exact V2 _ _)
  rw [if_neg b,if_neg b]
  simp only [qD,jW,OW,ig]
  split
  . split
    . exact .inr (V2 o [])
    . exact .inl (V2 o [])
  . split
    . exact .inr (V2 o [])
    . exact .inl (V2 o [])
theorem EL (l0:List aY) (pl:List gF) (k:Nat):∀ (q:List bi) (j:Nat) (l:List bi) (m:List Int),(jX l0 pl k q j l m).1=l++q3 (jc l0 ((k:Nat):Int)) q
  | [],j,l,m=>(List.append_nil l).symm
  | x::q,j,l,m=>by
    simp only [jX,bnd]
    rw [EL l0 pl k q,List.flatMap_cons,List.append_assoc]
theorem qH {l0:List aY} {l1:List bi} {q:Nat} {l:List gF} {k:Nat}:(q3 (jc l0 ((k:Nat):Int)) l1= []->iE l0 l1 (q+1) l k=iE l0 l1 q l (k+1))/\(q3 (jc l0 ((k:Nat):Int)) l1≠ []->∃ a b,iE l0 l1 (q+1) l k=iE l0 l1 q (l++ [gF.mk ((k:Nat):Int) a b]) (k+1)):=by
  have e:=EL l0 l k l1 0 [] []
  rw [List.nil_append] at e
  simp only [iE,bnd]
  refine⟨λ h=>if_neg ?_,λ h=>⟨_,_,if_pos ?_⟩⟩
  . rw [e,h]; decide
  . rw [e]; have:=List.length_pos_iff.2 h; omega
theorem Gg {ops:List bi} {r:List gF} {e:Int} (h:lF OW ops=(r,e)) (he:e=0):Bt (gu r [])/\ops.length<=4/\∀ o ∈ ops,o.bS<=4:=by
  subst he
  have hc:=Dx h
  unfold lF at h
  simp only [bnd] at h
  rw [if_pos (by decide+kernel),if_pos hc] at h
  obtain⟨rfl,_⟩:=Prod.mk.inj h
  unfold oo pX at hc
  simp only [bnd] at hc
  split at hc
  . cases hc
  split at hc
  . cases hc
  have hE:=zh rfl hc
  refine⟨?_,e6,λ o ho=>(Gf (hE o ho)).2⟩
  have c:∀ k:Nat,(k:Int)≠1->(k:Int)≠2->q3 (jc OW (k:Int)) ops= []:=λ k d g=>V3.2 λ o _=>Fa d g o
  have some_:q3 (jc OW ((1:Nat):Int)) ops≠ []\/q3 (jc OW ((2:Nat):Int)) ops≠ []:=by
    cases ops with
    | nil=>simp at *
    | cons o ops=>
      rcases Ej (hE o b1) with d | d
      . exact .inl λ e=>d (V3.1 e o b1)
      . exact .inr λ e=>d (V3.1 e o b1)
  rw [(qH (q:=4) (k:=0)).1 (c 0 f4 f4)]
  by_cases c1:q3 (jc OW ((1:Nat):Int)) ops= []
  . rw [(qH (q:=3) (k:=1)).1 c1]
    obtain⟨a,b,f⟩:=(qH (l0:=OW) (l1:=ops) (l:= []) (q:=2) (k:=2)).2 (some_.resolve_left λ h=>h c1)
    rw [f,(qH (q:=1) (k:=3)).1 (c 3 f4 f4),(qH (q:=0) (k:=4)).1 (c 4 f4 f4)]
    exact .inr (.inl rfl)
  . obtain⟨a,b,i⟩:=(qH (l0:=OW) (l1:=ops) (l:= []) (q:=3) (k:=1)).2 c1
    rw [i]
    by_cases c2:q3 (jc OW ((2:Nat):Int)) ops= []
    . rw [(qH (q:=2) (k:=2)).1 c2,(qH (q:=1) (k:=3)).1 (c 3 f4 f4),(qH (q:=0) (k:=4)).1 (c 4 f4 f4)]
      exact .inl rfl
    . obtain⟨j,m,f⟩:=(qH (l0:=OW) (l1:=ops) (l:= []++ [gF.mk ((1:Nat):Int) a b]) (q:=2) (k:=2)).2 c2
      rw [f,(qH (q:=1) (k:=3)).1 (c 3 f4 f4),(qH (q:=0) (k:=4)).1 (c 4 f4 f4)]
      exact .inr (.inr rfl)
end Go.Proofs.YtbkagebjhbphaaaGreat
