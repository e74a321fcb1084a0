/-
 coord: a transaction begins.
-/
import Derived.Test.YtbkagebjhbphaaaGreatCc
namespace Go.Proofs.YtbkagebjhbphaaaGreat
open Int renaming toNat→C6
open IntKind renaming i64→C3,u64→C7
open List renaming flatMap→q4,flatMap_append→r5,length→s0,length_append→o2,length_cons→s1,length_drop→o1,length_nil→E7,length_replicate→H0,length_set→G4,length_take→o0,map→s5,map_replicate→L9,mem_append_right→u5,mem_flatMap→Q6,mem_of_getElem?→D1,not_mem_nil→v7,replicate→r7
open Ll renaming mk→E0
open Sv renaming mk→G3
open _root_.Go.Proofs.Tryz renaming call106→R7,isAgg24→P6,isAgg28→D2,isAgg39→R6,isAgg79→Q4
set_option maxRecDepth 100000
open Go.RowKit
set_option linter.unusedVariables false
set_option linter.unusedSectionVars false
set_option linter.unusedSimpArgs false
def gD (l:Int) (k:bW) (a:aD) (e:Nat) (d:List fu):List fu→Nat→List bW→(List bW)
  | [],b,c=>c
  | f::g,b,c=>bnd (List.getD (r7 d.length false) b default) fun h=>if h=true then gD l k a e d g (b+1) c else bnd (gQ (aD.mk a.aa (C6 (C7.wrap (((a.bT:Nat):Int)+1))) (E0 (a.aC.ls++ [(ed.mk e l k.aU a.aa.aF (E0 k.aB.ls) (E0 d) (E0 (r7 d.length false)) (E0 (r7 d.length (E0 []:Ll aQ))) 0)])) a.bM a.bD a.bA a.bC a.bB a.dO a.dG a.dH a.dD a.dE)) fun i=>bnd (dM (bU.mk (E0 c)) (bW.mk 3 0 f.bE 0 0 0 0 0 e i 0 a.aa.aF 0 0 0 false (aL.mk ([]) ([])) (E0 f.aB.ls) (E0 ([])) (E0 ([])))) fun j=>gD l k a e d g (b+1) j.bF.ls
def dS (j:bU) (i:Int) (h:bW) (a:aD):bU × aD:=
 bnd (gu a) fun g=>bnd (gQ a) fun k=>bnd (ko a.aa.ag.ls h.aB.ls) fun f=>if((a.aC.ls.length:Nat):Int) ≥ 6 then bnd (dL j i h.aU 2 ([]) (aD.mk a.aa (C6 (C7.wrap (((a.bT:Nat):Int)+1))) (E0 a.aC.ls) a.bM a.bD a.bA a.bC a.bB a.dO a.dG a.dH a.dD a.dE)) fun e=>(e.1,aD.mk (bZ.mk e.2.aa.au e.2.aa.ax e.2.aa.bG e.2.aa.aF (E0 a.aa.ag.ls) (E0 a.aa.ak.ls) (E0 a.aa.aK.ls)) e.2.bT (E0 a.aC.ls) e.2.bM e.2.bD e.2.bA e.2.bC e.2.bB e.2.dO e.2.dG e.2.dH e.2.dD e.2.dE) else if((a.aC.ls.length+a.aa.ak.ls.length:Nat):Int) ≥ 8 then bnd (dL j i h.aU 2 ([]) (aD.mk a.aa (C6 (C7.wrap (((a.bT:Nat):Int)+1))) (E0 a.aC.ls) a.bM a.bD a.bA a.bC a.bB a.dO a.dG a.dH a.dD a.dE)) fun b=>(b.1,aD.mk (bZ.mk b.2.aa.au b.2.aa.ax b.2.aa.bG b.2.aa.aF (E0 a.aa.ag.ls) (E0 a.aa.ak.ls) (E0 a.aa.aK.ls)) b.2.bT (E0 a.aC.ls) b.2.bM b.2.bD b.2.bA b.2.bC b.2.bB b.2.dO b.2.dG b.2.dH b.2.dD b.2.dE) else if((C6 (C7.wrap (((g:Nat):Int) - ((k:Nat):Int))):Nat):Int) ≥ 64 then bnd (dL j i h.aU 2 ([]) (aD.mk a.aa (C6 (C7.wrap (((a.bT:Nat):Int)+1))) (E0 a.aC.ls) a.bM a.bD a.bA a.bC a.bB a.dO a.dG a.dH a.dD a.dE)) fun c=>(c.1,aD.mk (bZ.mk c.2.aa.au c.2.aa.ax c.2.aa.bG c.2.aa.aF (E0 a.aa.ag.ls) (E0 a.aa.ak.ls) (E0 a.aa.aK.ls)) c.2.bT (E0 a.aC.ls) c.2.bM c.2.bD c.2.bA c.2.bC c.2.bB c.2.dO c.2.dG c.2.dH c.2.dD c.2.dE) else if f.2=0 then bnd (gD i h a g f.1 f.1 0 j.bF.ls) fun sLrbbbffftL=>(bU.mk (E0 sLrbbbffftL),aD.mk a.aa (C6 (C7.wrap (((a.bT:Nat):Int)+1))) (E0 (a.aC.ls++ [(ed.mk g i h.aU a.aa.aF (E0 h.aB.ls) (E0 f.1) (E0 (r7 f.1.length false)) (E0 (r7 f.1.length (E0 []:Ll aQ))) 0)])) a.bM a.bD a.bA a.bC a.bB a.dO a.dG a.dH a.dD a.dE) else bnd (dL j i h.aU 2 ([]) (aD.mk a.aa (C6 (C7.wrap (((a.bT:Nat):Int)+1))) (E0 a.aC.ls) a.bM a.bD a.bA a.bC a.bB a.dO a.dG a.dH a.dD a.dE)) fun d=>(d.1,aD.mk (bZ.mk d.2.aa.au d.2.aa.ax d.2.aa.bG d.2.aa.aF (E0 a.aa.ag.ls) (E0 a.aa.ak.ls) (E0 a.aa.aK.ls)) d.2.bT (E0 a.aC.ls) d.2.bM d.2.bD d.2.bA d.2.bC d.2.bB d.2.dO d.2.dG d.2.dH d.2.dD d.2.dE)
set_option maxHeartbeats 4000000 in
theorem jr (w D g0) (p0:bU) (bL bM bG p1) (d:bW) (dC iV dD eQ iW eT eU eX iX eZ g) (a:aD) (n p r j N C E ah J G I O P ai Q S aj T U ak V W au X Y av) (r0:bU) (r1:aD) (H:Own w D w [blk g0 [.pointer (some ⟨g,0,none⟩), .slice bL p0.bF.ls.length bM] 98,row bL p0.bF.ls.length bM (q4 bz.cells bG) 42 21,sepL (q4 bz.own bG),mK g a n a.aa.ag.ls.length p r j C E J G O P Q S T U V W X Y,row n a.aa.ag.ls.length p (q4 aM.cells a.aa.ag.ls) 89 2,row r a.aa.ak.ls.length j (q4 ay.cells N) 60 5,sepL (q4 ay.own N),row C a.aa.aK.ls.length E (q4 aS.cells ah) 56 4,sepL (q4 aS.own ah),row J a.aC.ls.length G (q4 bK.cells I) 107 9,sepL (q4 bK.own I),row O a.bM.ai.ls.length P (q4 af.cells ai) 149 3,sepL (q4 af.own ai),row Q a.bD.ai.ls.length S (q4 af.cells aj) 149 3,sepL (q4 af.own aj),row T a.bA.ai.ls.length U (q4 af.cells ak) 149 3,sepL (q4 af.own ak),row V a.bC.ai.ls.length W (q4 af.cells au) 149 3,sepL (q4 af.own au),row X a.bB.ai.ls.length Y (q4 af.cells av) 149 3,sepL (q4 af.own av)]) (bF:s5 bz.abs bG=p0.bF.ls) (jm:iV=d.aB.ls.length) (fe:Ro w D fun w'=>aY w' 6 dC d.aB.ls.length (q4 aN.cells d.aB.ls)) (pX:d.aB.ls.length≤dD∧d.aB.ls.length≤9223372036854775807) (jo:s5 af.abs eU=d.ah.ls) (jq:iW=d.ah.ls.length) (pY:Ro w D fun w'=>aY w' 3 eQ d.ah.ls.length (q4 af.cells eU)) (p8:d.ah.ls.length≤eT∧d.ah.ls.length≤9223372036854775807) (p9:∀ x ∈ eU,Ro w D (fun w'=>aY w' 2 x.aj.A x.aj.ls.length (q4 aH.cells x.aj.ls))∧(x.aj.ls.length≤x.aj.c∧x.aj.ls.length≤9223372036854775807)) (jv:iX=d.ag.ls.length) (qb:Ro w D fun w'=>aY w' 2 eX d.ag.ls.length (q4 aM.cells d.ag.ls)) (qc:d.ag.ls.length≤eZ∧d.ag.ls.length≤9223372036854775807) (ax:s5 ay.abs N=a.aa.ak.ls) (aR:s5 aS.abs ah=a.aa.aK.ls) (Z:s5 bK.abs I=a.aC.ls) (aU:s5 af.abs ai=a.bM.ai.ls) (aV:s5 af.abs aj=a.bD.ai.ls) (aX:s5 af.abs ak=a.bA.ai.ls) (aZ:s5 af.abs au=a.bC.ai.ls) (bf:s5 af.abs av=a.bB.ai.ls) (uU:a.aa.ag.ls.length≤1000∧a.aa.ak.ls.length≤1000∧a.aa.aK.ls.length≤1000∧a.aC.ls.length≤1000∧p0.bF.ls.length≤100000) (uV:1≤p1∧p1≤4) (uW:d.aB.ls.length≤24∧d.ag.ls.length≤1000∧d.ah.ls.length≤1000∧jR d.aU) (hr:dS p0 p1 d a=(r0,r1)):
    Calls Tryz.prog 90 #[vP g0 0,vI p1, .agg (iA d.av d.aI d.eO d.aP d.dK d.fA d.aU d.ax d.aX d.eQ d.bG d.aF d.eG d.cZ d.xN d.fe d.cu.aJ d.cu.aR dC iV dD eQ iW eT eX iX eZ).toArray] w (dA fun v w'=> ∃ fo fq dI fA fC fE fF dJ fG fH dK fI fJ dN fK fM dO fO fQ dP fT fU dQ fV fZ dR gm gp dU,v= .tuple #[]∧Own w D w' [blk g0 [vP g 0, .slice fo r0.bF.ls.length fq] 98,row fo r0.bF.ls.length fq (q4 bz.cells dI) 42 21,sepL (q4 bz.own dI),mK g r1 fA r1.aa.ag.ls.length fC fE fF fG fH fI fJ fK fM fO fQ fT fU fV fZ gm gp,row fA r1.aa.ag.ls.length fC (q4 aM.cells r1.aa.ag.ls) 89 2,row fE r1.aa.ak.ls.length fF (q4 ay.cells dJ) 60 5,sepL (q4 ay.own dJ),row fG r1.aa.aK.ls.length fH (q4 aS.cells dK) 56 4,sepL (q4 aS.own dK),row fI r1.aC.ls.length fJ (q4 bK.cells dN) 107 9,sepL (q4 bK.own dN),row fK r1.bM.ai.ls.length fM (q4 af.cells dO) 149 3,sepL (q4 af.own dO),row fO r1.bD.ai.ls.length fQ (q4 af.cells dP) 149 3,sepL (q4 af.own dP),row fT r1.bA.ai.ls.length fU (q4 af.cells dQ) 149 3,sepL (q4 af.own dQ),row fV r1.bC.ai.ls.length fZ (q4 af.cells dR) 149 3,sepL (q4 af.own dR),row gm r1.bB.ai.ls.length gp (q4 af.cells dU) 149 3,sepL (q4 af.own dU)]∧(s5 bz.abs dI=r0.bF.ls)∧(s5 ay.abs dJ=r1.aa.ak.ls)∧(s5 aS.abs dK=r1.aa.aK.ls)∧(s5 bK.abs dN=r1.aC.ls)∧(s5 af.abs dO=r1.bM.ai.ls)∧(s5 af.abs dP=r1.bD.ai.ls)∧(s5 af.abs dQ=r1.bA.ai.ls)∧(s5 af.abs dR=r1.bC.ai.ls)∧(s5 af.abs dU=r1.bB.ai.ls)):=by
 subst jm jq jv
 have pU:=aA bF
 have pW:=aA jo
 have j4:=aA ax
 have j5:=aA aR
 have j6:=aA Z
 have kg:=aA aU
 have kr:=aA aV
 have ku:=aA aX
 have kv:=aA aZ
 have kw:=aA bf
 have qf:=H.rowC (i:=1) rfl
 have ky:=H.rowC (i:=4) rfl
 have kz:=H.rowC (i:=5) rfl
 have kC:=H.rowC (i:=7) rfl
 have kD:=H.rowC (i:=9) rfl
 have kE:=H.rowC (i:=11) rfl
 have kF:=H.rowC (i:=13) rfl
 have kG:=H.rowC (i:=15) rfl
 have kH:=H.rowC (i:=17) rfl
 have kI:=H.rowC (i:=19) rfl
 refine cb Tryz.func90 ?_
 refine sr ?_
 refine dn (gK d dC dD eQ eT eX eZ) 42 H ?_
 intro dV uX qg
 refine nt (Ik ?_)
 refine oV 22 [] (IE IQ) qg ?_
 intro uY qh
 refine qv 0 rfl rfl (qp g0 0 1 rfl (qp g0 0 2 rfl (ql 3 rfl 1 P6 rfl rfl rfl (qv 5 rfl rfl (qp g0 0 6 rfl (qp g0 0 7 rfl (ql 8 rfl 1 P6 rfl rfl rfl ?_)))))))
 have qi:=qh.pf [4]
 obtain⟨h,cz⟩:∃ q,gu a=q:=⟨_,rfl⟩
 obtain⟨uZ,kJ,tT,kK,tV⟩:=IZ qi
 refine qd 4 rfl (IP Tryz.call126 rfl (qy _ _ g a n p r j C E J G O P Q S T U V W X Y h kJ cz) ?_)
 rintro _ u6 ⟨rfl,kL,iY⟩
 have qj:=kK _ _ kL
 replace iY:h≤18446744073709551615:=iY
 have kM:=qj.pf [1,2,3,4]
 refine⟨.inr ⟨_,kM⟩, ?_⟩
 have bI:=kM.pf [4]
 have tX:=bI.rowC (i:=6) rfl
 have tY:=bI.rowC (i:=10) rfl
 obtain⟨dW,cB⟩:∃ q,gQ a=q:=⟨_,rfl⟩
 obtain⟨u7,kN,tZ,kP,bB⟩:=IZ bI
 refine qd 9 rfl (IP Tryz.call108 rfl (qO _ _ g a n p r j N C E J G I O P Q S T U V W X Y dW kN ax (bB _ 5 _ rfl aW) (show a.aa.ak.ls.length≤j∧a.aa.ak.ls.length≤9223372036854775807 from by omega) (fun x9 h9=>⟨bB _ 6 _ rfl (az (Q6.2 ⟨x9,h9,b1⟩) aW),bq (φ:=fun _=>_) bI (i:=7) rfl (az (Q6.2 ⟨x9,h9,b1⟩) bn)⟩) Z (bB _ 9 _ rfl aW) (show a.aC.ls.length≤G∧a.aC.ls.length≤9223372036854775807 from by omega) (fun x9 h9=>⟨bB _ 10 _ rfl (az (Q6.2 ⟨x9,h9,b1⟩) aW),bq (φ:=fun _=>_) bI (i:=11) rfl (az (Q6.2 ⟨x9,h9,b1⟩) bn),bB _ 10 _ rfl (az (Q6.2 ⟨x9,h9, .tail _ b1⟩) aW),bq (φ:=fun _=>_) bI (i:=11) rfl (az (Q6.2 ⟨x9,h9, .tail _ b1⟩) bn),(fun y1 k1=>⟨bB _ 10 _ rfl (az (Q6.2 ⟨x9,h9, .tail _ b4⟩) (az (Q6.2 ⟨y1,k1,b1⟩) aW)),bq (φ:=fun _=>_) bI (i:=11) rfl (az (Q6.2 ⟨x9,h9, .tail _ b4⟩) (az (Q6.2 ⟨y1,k1,b1⟩) bn)),bB _ 10 _ rfl (az (Q6.2 ⟨x9,h9, .tail _ b4⟩) (az (Q6.2 ⟨y1,k1, .tail _ b1⟩) aW)),bq (φ:=fun _=>_) bI (i:=11) rfl (az (Q6.2 ⟨x9,h9, .tail _ b4⟩) (az (Q6.2 ⟨y1,k1, .tail _ b1⟩) bn))⟩),bB _ 10 _ rfl (az (Q6.2 ⟨x9,h9, .tail _ b2⟩) aW),bq (φ:=fun _=>_) bI (i:=11) rfl (az (Q6.2 ⟨x9,h9, .tail _ b2⟩) bn),bB _ 10 _ rfl (az (Q6.2 ⟨x9,h9, .tail _ b3⟩) aW),bq (φ:=fun _=>_) bI (i:=11) rfl (az (Q6.2 ⟨x9,h9, .tail _ b3⟩) bn),(fun y1 k1=>⟨bB _ 10 _ rfl (az (Q6.2 ⟨x9,h9, .tail _ b5⟩) (az (Q6.2 ⟨y1,k1,b1⟩) aW)),bq (φ:=fun _=>_) bI (i:=11) rfl (az (Q6.2 ⟨x9,h9, .tail _ b5⟩) (az (Q6.2 ⟨y1,k1,b1⟩) bn)),(fun y2 k2=>⟨bB _ 10 _ rfl (az (Q6.2 ⟨x9,h9, .tail _ b5⟩) (az (Q6.2 ⟨y1,k1, .tail _ b1⟩) (az (Q6.2 ⟨y2,k2,b1⟩) aW))),bq (φ:=fun _=>_) bI (i:=11) rfl (az (Q6.2 ⟨x9,h9, .tail _ b5⟩) (az (Q6.2 ⟨y1,k1, .tail _ b1⟩) (az (Q6.2 ⟨y2,k2,b1⟩) bn)))⟩)⟩)⟩) e8 cB) ?_)
 rintro _ ve ⟨rfl,kR⟩
 have qm:=kP _ _ kR
 have iT:=qm.pf [1,2,3,4]
 refine⟨.inr ⟨_,iT⟩, ?_⟩
 refine qa 10 rfl rfl (qa 11 rfl rfl (qn (Iq (sr (Mz rfl (Kz (vP g0 0) (Kz (vP g0 0) (Lz (vP g 0) iT 1 P6 (Kz (vP g 0) (Kz (vP g 7) (Lz (vU a.bT) iT 4 D2 (fw (.int .u64 ((C6 (C7.wrap (((a.bT:Nat):Int)+1)):Nat):Int)) (Ir (e:=C7.wrap (((a.bT:Nat):Int)+1)) yk (fB _)) (Kz (vP g 0) (Kz (vP g 7) ?_))))))))))))))
 have qo:=iT.pf [4]
 refine df [.int .u64 ((C6 (C7.wrap (((a.bT:Nat):Int)+1)):Nat):Int)] 7 qo Tryz.sizeOf28 ?_
 intro vg qw
 refine nt (Ik ?_)
 refine oV 22 [] (IE IQ) qw ?_
 intro vk qx
 refine qv 0 rfl rfl (qp g0 0 1 rfl (qp g0 0 2 rfl (ql 3 rfl 2 P6 rfl rfl rfl (qp g 0 4 rfl (qp g 0 5 rfl (qp g 4 6 rfl (ql 7 rfl 0 Tryz.isAgg29 rfl rfl rfl (qp dV 18 8 rfl (ql 9 rfl 1 R6 rfl rfl rfl ?_)))))))))
 obtain⟨⟨b,dY⟩,bH⟩:∃ q:(List fu) × Int,ko a.aa.ag.ls d.aB.ls=q:=⟨_,rfl⟩
 obtain⟨vo,kS,kT,kU,kV⟩:=Iu qx
 refine qd 10 rfl (IP Tryz.call127 rfl (AA _ _ n a.aa.ag.ls.length p a.aa.ag.ls dC d.aB.ls.length dD d.aB.ls b dY kS (kV _ 5 _ rfl aW) rfl e6 (kT _ fe) rfl e6 bH) ?_)
 rintro _ vv ⟨ag,aJ,bu,rfl,kW,bD⟩
 have kX:=kU _ _ kW
 have uf:=aA bD
 have ug:=kX.rowC (i:=0) rfl
 have kY:∀ x ∈ b,x.aB.ls.length≤24024:=BO bH e6 e6
 have uh:b.length≤5:=BL bH
 have kZ:=kX.pb [0,1]
 refine⟨.inr ⟨_,kZ⟩, ?_⟩
 refine qv 11 rfl rfl (qk (.slice ag b.length aJ) 12 rfl (qk (vI dY) 13 rfl (qa 14 rfl rfl (qa 15 rfl rfl (qn (Iq (Ik ?_)))))))
 refine oV 24 [] (IE IQ) kZ ?_
 intro vw dx
 refine qv 0 rfl rfl (qp g0 0 1 rfl (qp g0 0 2 rfl (ql 3 rfl 2 P6 rfl rfl rfl (qp g 0 4 rfl (qp g 8 5 rfl (ql 6 rfl 0 Q4 rfl rfl rfl (qk (vJ a.aC.ls.length) 7 rfl (qk (.bool (decide (((a.aC.ls.length:Nat):Int) ≥ 6))) 8 rfl (qv 9 rfl rfl ?_)))))))))
 by_cases l:((a.aC.ls.length:Nat):Int) ≥ 6
 refine Ip (rs:= []) 10 rfl rfl rfl (dT l) e7 (Ip (rs:= []) 11 rfl rfl rfl (dT l) e7 (Ip (rs:= []) 12 rfl rfl rfl (dT l) e7 (Ip (rs:= []) 13 rfl rfl rfl (dT l) e7 (Ip (rs:= []) 14 rfl rfl rfl (dT l) e7 (Ip (rs:= []) 15 rfl rfl rfl (dT l) e7 (Ip (rs:= []) 16 rfl rfl rfl (dT l) e7 (Ip (rs:= []) 17 rfl rfl rfl (dT l) e7 (Ip (rs:= []) 18 rfl rfl rfl (dT l) e7 (Ip (rs:= []) 19 rfl rfl rfl (dT l) e7 (Ip (rs:= []) 20 rfl rfl rfl (dT l) e7 (Ip (rs:= []) 21 rfl rfl rfl (dT l) e7 (Ip (rs:= []) 22 rfl rfl rfl (dT l) e7 (Ip (rs:= []) 23 rfl rfl rfl (dT l) e7 (Ip (rs:= []) 24 rfl rfl rfl (dT l) e7 (Ip (rs:= []) 25 rfl rfl rfl (dT l) e7 (Ip (rs:= []) 26 rfl rfl rfl (dT l) e7 (Ip (rs:= []) 27 rfl rfl rfl (dT l) e7 (Ip (rs:= []) 28 rfl rfl rfl (dT l) e7 (qt (v:= .bool true) 29 rfl (fun _ _=>Iw rfl (dT l) rfl) (qv 30 rfl rfl (Ip (rs:= []) 31 rfl rfl rfl rfl e7 (Ip (rs:= []) 32 rfl rfl rfl rfl e7 (Ip (rs:= []) 33 rfl rfl rfl rfl e7 (Ip (rs:= []) 34 rfl rfl rfl rfl e7 (qt (v:= .bool true) 35 rfl (fun _ _=>Iw rfl rfl rfl) (qa 36 rfl rfl (qn (Iq (Ik (sr (Mz rfl (Mz rfl (Sz rfl (Sz rfl (fw (.bool true) (Iw rfl rfl rfl) (nt (jt ?_)))))))))))))))))))))))))))))))))))))
 refine sr (Mz rfl (Mz rfl (Kz (vP dV 6) (Lz (vU d.aU) dx 1 D2 ?_))))
 have qz:=dx.px [2,3,4] [] [1,5,6,7,8,9,10,11,22,23]
 obtain⟨⟨jw,bC⟩,iZ⟩:∃ q:bU × aD,dL p0 p1 d.aU 2 ([]) (aD.mk a.aa (C6 (C7.wrap (((a.bT:Nat):Int)+1))) (E0 a.aC.ls) a.bM a.bD a.bA a.bC a.bB a.dO a.dG a.dH a.dD a.dE)=q:=⟨_,rfl⟩
 obtain⟨vz,lc,ui,lg,uj⟩:=Jj qz
 refine cl R7 (jM _ _ g0 p0 bL bM bG p1 d.aU 2 none 0 0 [] ([]) g (aD.mk a.aa (C6 (C7.wrap (((a.bT:Nat):Int)+1))) (E0 a.aC.ls) a.bM a.bD a.bA a.bC a.bB a.dO a.dG a.dH a.dD a.dE) n p r j C E J G O P ai Q S aj T U ak V W au X Y av jw bC lc bF rfl (fun _ _=>aY.nil _ _ _) (fun _ h9=>absurd h9 v7) rfl i7 g6 aU aV aX aZ bf e8 g2 g2 i1 iZ) ?_
 rintro _ vB ⟨qA,qB,qC,lh,ll,lm,lq,lu,lv,lw,lC,lD,lF,lG,lH,lI,lJ,lK,rfl,lL,ja,gq,gy,gz,gB,gF,gG⟩
 have ek:=lg _ _ lL
 have qD:=aA ja
 have qE:=aA gq
 have qG:=aA gy
 have qH:=aA gz
 have qI:=aA gB
 have qJ:=aA gF
 have qK:=ek.rowC (i:=1) rfl
 have qL:=ek.rowC (i:=4) rfl
 have qM:=ek.rowC (i:=6) rfl
 have qN:=ek.rowC (i:=8) rfl
 have qP:=ek.rowC (i:=10) rfl
 have qQ:=ek.rowC (i:=12) rfl
 replace gG:jw.bF.ls.length=p0.bF.ls.length+1:=gG
 refine nt (rt (tR (Fin.res (res0 rfl) ?_)))
 have lM:=ek.px [] [14,22,23] [4,5,6,7,8,9,10,11,12,13]
 obtain⟨rfl,rfl⟩:=fD (hr.symm.trans (show _=(jw,aD.mk (bZ.mk bC.aa.au bC.aa.ax bC.aa.bG bC.aa.aF (E0 a.aa.ag.ls) (E0 a.aa.ak.ls) (E0 a.aa.aK.ls)) bC.bT (E0 a.aC.ls) bC.bM bC.bD bC.bA bC.bC bC.bB bC.dO bC.dG bC.dH bC.dD bC.dE) from et (ae cz) (et (ae cB) (et (ae bH) (et (ip l) (ae iZ))))))
 exact⟨qA,qB,qC,n,p,r,j,N,C,E,ah,J,G,I,lh,ll,lm,lq,lu,lv,lw,lC,lD,lF,lG,lH,lI,lJ,lK,rfl,lM,ja,ax,aR,Z,gq,gy,gz,gB,gF⟩
 refine Iy (v:=vP g0 0) (rs:= []) 10 rfl rfl rfl (dF l) e7 (fun _ _=>IA rfl) (Iy (v:=vP g0 0) (rs:= []) 11 rfl rfl rfl (dF l) e7 (fun _ _=>yk) (Iy (v:=vP g0 0) (rs:= []) 12 rfl rfl rfl (dF l) e7 (fun _ _=>yk) (Iy (v:=vP g 0) (rs:= []) 13 rfl rfl rfl (dF l) e7 (fun _ ⟨_,H9⟩=>IB rfl (bJ.one P6 (I1 (H9.cls (i:=2) rfl) rfl))) (Iy (v:=vP g 0) (rs:= []) 14 rfl rfl rfl (dF l) e7 (fun _ _=>yk) (Iy (v:=vP g 8) (rs:= []) 15 rfl rfl rfl (dF l) e7 (fun _ _=>yk) (Iy (v:= .slice J a.aC.ls.length G) (rs:= []) 16 rfl rfl rfl (dF l) e7 (fun _ ⟨_,H9⟩=>IB rfl (bJ.one Q4 (I1 (H9.cls (i:=0) rfl) rfl))) (Iy (v:=vJ a.aC.ls.length) (rs:= []) 17 rfl rfl rfl (dF l) e7 (fun _ _=>yk) (Iy (v:=vP g0 0) (rs:= []) 18 rfl rfl rfl (dF l) e7 (fun _ _=>IA rfl) (Iy (v:=vP g0 0) (rs:= []) 19 rfl rfl rfl (dF l) e7 (fun _ _=>yk) (Iy (v:=vP g0 0) (rs:= []) 20 rfl rfl rfl (dF l) e7 (fun _ _=>yk) (Iy (v:=vP g 0) (rs:= []) 21 rfl rfl rfl (dF l) e7 (fun _ ⟨_,H9⟩=>IB rfl (bJ.one P6 (I1 (H9.cls (i:=2) rfl) rfl))) (Iy (v:=vP g 0) (rs:= []) 22 rfl rfl rfl (dF l) e7 (fun _ _=>yk) (Iy (v:=vP g 0) (rs:= []) 23 rfl rfl rfl (dF l) e7 (fun _ _=>yk) (Iy (v:=vP g 5) (rs:= []) 24 rfl rfl rfl (dF l) e7 (fun _ _=>yk) (Iy (v:= .slice r a.aa.ak.ls.length j) (rs:= []) 25 rfl rfl rfl (dF l) e7 (fun _ ⟨_,H9⟩=>IB rfl (bJ.one Tryz.isAgg30 (I1 (H9.cls (i:=0) rfl) rfl))) (Iy (v:=vJ a.aa.ak.ls.length) (rs:= []) 26 rfl rfl rfl (dF l) e7 (fun _ _=>yk) (Iy (v:=vJ (a.aC.ls.length+a.aa.ak.ls.length)) (rs:= []) 27 rfl rfl rfl (dF l) e7 (fun _ _=>Ir (e:=C3.wrap (((a.aC.ls.length:Nat):Int)+((a.aa.ak.ls.length:Nat):Int))) yk f0) (Iy (v:= .bool (decide (((a.aC.ls.length+a.aa.ak.ls.length:Nat):Int) ≥ 8))) (rs:= []) 28 rfl rfl rfl (dF l) e7 (fun _ _=>yk) (qt (v:= .bool (decide (((a.aC.ls.length+a.aa.ak.ls.length:Nat):Int) ≥ 8))) 29 rfl (fun _ _=>Io rfl (dF l) rfl) (qv 30 rfl rfl ?_))))))))))))))))))))
 by_cases aO:((a.aC.ls.length+a.aa.ak.ls.length:Nat):Int) ≥ 8
 refine Ip (rs:= []) 31 rfl rfl rfl (dT aO) e7 (Ip (rs:= []) 32 rfl rfl rfl (dT aO) e7 (Ip (rs:= []) 33 rfl rfl rfl (dT aO) e7 (Ip (rs:= []) 34 rfl rfl rfl (dT aO) e7 (qt (v:= .bool true) 35 rfl (fun _ _=>Iw rfl (dT aO) rfl) (qa 36 rfl rfl (qn (Iq (Ik (sr (Mz rfl (Mz rfl (Sz rfl (Sz rfl (fw (.bool true) (Iw rfl rfl rfl) (nt (jt (sr (Mz rfl (Mz rfl (Kz (vP dV 6) (Lz (vU d.aU) dx 1 D2 ?_)))))))))))))))))))))
 have lN:=dx.px [2,3,4] [] [1,5,6,7,8,9,10,11,22,23]
 obtain⟨⟨gH,aC⟩,gI⟩:∃ q:bU × aD,dL p0 p1 d.aU 2 ([]) (aD.mk a.aa (C6 (C7.wrap (((a.bT:Nat):Int)+1))) (E0 a.aC.ls) a.bM a.bD a.bA a.bC a.bB a.dO a.dG a.dH a.dD a.dE)=q:=⟨_,rfl⟩
 obtain⟨uk,jy,qR,jA,qU⟩:=Jj lN
 refine cl R7 (jM _ _ g0 p0 bL bM bG p1 d.aU 2 none 0 0 [] ([]) g (aD.mk a.aa (C6 (C7.wrap (((a.bT:Nat):Int)+1))) (E0 a.aC.ls) a.bM a.bD a.bA a.bC a.bB a.dO a.dG a.dH a.dD a.dE) n p r j C E J G O P ai Q S aj T U ak V W au X Y av gH aC jy bF rfl (fun _ _=>aY.nil _ _ _) (fun _ h9=>absurd h9 v7) rfl i7 g6 aU aV aX aZ bf e8 g2 g2 i1 gI) ?_
 rintro _ ul ⟨lQ,lS,lT,lU,lV,lW,lX,lY,lZ,l5,l6,l7,l8,ma,mf,mg,mh,mi,rfl,jB,gJ,gL,gM,gP,gT,gU,gW⟩
 have bQ:=jA _ _ jB
 have qV:=aA gJ
 have qW:=aA gL
 have qX:=aA gM
 have qY:=aA gP
 have qZ:=aA gT
 have q8:=aA gU
 have q9:=bQ.rowC (i:=1) rfl
 have rf:=bQ.rowC (i:=4) rfl
 have rq:=bQ.rowC (i:=6) rfl
 have ru:=bQ.rowC (i:=8) rfl
 have ry:=bQ.rowC (i:=10) rfl
 have rz:=bQ.rowC (i:=12) rfl
 replace gW:gH.bF.ls.length=p0.bF.ls.length+1:=gW
 refine nt (rt (tR (Fin.res (res0 rfl) ?_)))
 have mo:=bQ.px [] [14,22,23] [4,5,6,7,8,9,10,11,12,13]
 obtain⟨rfl,rfl⟩:=fD (hr.symm.trans (show _=(gH,aD.mk (bZ.mk aC.aa.au aC.aa.ax aC.aa.bG aC.aa.aF (E0 a.aa.ag.ls) (E0 a.aa.ak.ls) (E0 a.aa.aK.ls)) aC.bT (E0 a.aC.ls) aC.bM aC.bD aC.bA aC.bC aC.bB aC.dO aC.dG aC.dH aC.dD aC.dE) from et (ae cz) (et (ae cB) (et (ae bH) (et (iN l) (et (ip aO) (ae gI)))))))
 exact⟨lQ,lS,lT,n,p,r,j,N,C,E,ah,J,G,I,lU,lV,lW,lX,lY,lZ,l5,l6,l7,l8,ma,mf,mg,mh,mi,rfl,mo,gJ,ax,aR,Z,gL,gM,gP,gT,gU⟩
 refine Iy (v:=vU h) (rs:= []) 31 rfl rfl rfl (dF aO) e7 (fun _ _=>IA rfl) (Iy (v:=vU dW) (rs:= []) 32 rfl rfl rfl (dF aO) e7 (fun _ _=>IA rfl) (Iy (v:= .int .u64 ((C6 (C7.wrap (((h:Nat):Int) - ((dW:Nat):Int))):Nat):Int)) (rs:= []) 33 rfl rfl rfl (dF aO) e7 (fun _ _=>Ir (e:=C7.wrap (((h:Nat):Int) - ((dW:Nat):Int))) yk (fB _)) (Iy (v:= .bool (decide (((C6 (C7.wrap (((h:Nat):Int) - ((dW:Nat):Int))):Nat):Int) ≥ 64))) (rs:= []) 34 rfl rfl rfl (dF aO) e7 (fun _ _=>yk) (qt (v:= .bool (decide (((C6 (C7.wrap (((h:Nat):Int) - ((dW:Nat):Int))):Nat):Int) ≥ 64))) 35 rfl (fun _ _=>Io rfl (dF aO) rfl) (qa 36 rfl rfl (qn (Iq (Ik (sr (Mz rfl (Mz rfl ?_)))))))))))
 by_cases bE:((C6 (C7.wrap (((h:Nat):Int) - ((dW:Nat):Int))):Nat):Int) ≥ 64
 refine Sz (dT bE) (Sz (dT bE) (fw (.bool true) (Iw rfl (dT bE) rfl) (nt (jt (sr (Mz rfl (Mz rfl (Kz (vP dV 6) (Lz (vU d.aU) dx 1 D2 ?_)))))))))
 have mq:=dx.px [2,3,4] [] [1,5,6,7,8,9,10,11,22,23]
 obtain⟨⟨gX,aF⟩,gY⟩:∃ q:bU × aD,dL p0 p1 d.aU 2 ([]) (aD.mk a.aa (C6 (C7.wrap (((a.bT:Nat):Int)+1))) (E0 a.aC.ls) a.bM a.bD a.bA a.bC a.bB a.dO a.dG a.dH a.dD a.dE)=q:=⟨_,rfl⟩
 obtain⟨um,jC,rA,jD,rD⟩:=Jj mq
 refine cl R7 (jM _ _ g0 p0 bL bM bG p1 d.aU 2 none 0 0 [] ([]) g (aD.mk a.aa (C6 (C7.wrap (((a.bT:Nat):Int)+1))) (E0 a.aC.ls) a.bM a.bD a.bA a.bC a.bB a.dO a.dG a.dH a.dD a.dE) n p r j C E J G O P ai Q S aj T U ak V W au X Y av gX aF jC bF rfl (fun _ _=>aY.nil _ _ _) (fun _ h9=>absurd h9 v7) rfl i7 g6 aU aV aX aZ bf e8 g2 g2 i1 gY) ?_
 rintro _ uo ⟨mr,mD,mE,mF,mG,mH,mI,mJ,mM,mO,mP,mQ,mR,mU,mV,mW,mX,mY,rfl,jE,gZ,ib,ic,ig,ik,il,iq⟩
 have bR:=jD _ _ jE
 have rE:=aA gZ
 have rF:=aA ib
 have rG:=aA ic
 have rH:=aA ig
 have rJ:=aA ik
 have rM:=aA il
 have rO:=bR.rowC (i:=1) rfl
 have rP:=bR.rowC (i:=4) rfl
 have rQ:=bR.rowC (i:=6) rfl
 have rR:=bR.rowC (i:=8) rfl
 have rT:=bR.rowC (i:=10) rfl
 have rU:=bR.rowC (i:=12) rfl
 replace iq:gX.bF.ls.length=p0.bF.ls.length+1:=iq
 refine nt (rt (tR (Fin.res (res0 rfl) ?_)))
 have mZ:=bR.px [] [14,22,23] [4,5,6,7,8,9,10,11,12,13]
 obtain⟨rfl,rfl⟩:=fD (hr.symm.trans (show _=(gX,aD.mk (bZ.mk aF.aa.au aF.aa.ax aF.aa.bG aF.aa.aF (E0 a.aa.ag.ls) (E0 a.aa.ak.ls) (E0 a.aa.aK.ls)) aF.bT (E0 a.aC.ls) aF.bM aF.bD aF.bA aF.bC aF.bB aF.dO aF.dG aF.dH aF.dD aF.dE) from et (ae cz) (et (ae cB) (et (ae bH) (et (iN l) (et (iN aO) (et (ip bE) (ae gY))))))))
 exact⟨mr,mD,mE,n,p,r,j,N,C,E,ah,J,G,I,mF,mG,mH,mI,mJ,mM,mO,mP,mQ,mR,mU,mV,mW,mX,mY,rfl,mZ,gZ,ax,aR,Z,ib,ic,ig,ik,il⟩
 refine gw (vI dY) (dF bE) (IA rfl) (gw (.bool (decide (¬ (dY=0)))) (dF bE) (IM (e:= !(decide (dY=0))) yk decide_not.symm) (fw (.bool (decide (¬ (dY=0)))) (Io rfl (dF bE) rfl) (nt ?_)))
 by_cases eG:dY=0
 refine jF (dF (Lr eG)) (sk (sr (Mz rfl (Kz (vJ b.length) (An rfl (Ik ?_))))))
 refine oV 24 [] (IE IQ) dx ?_
 intro uq ng
 refine qv 0 rfl rfl (qv 1 rfl rfl (qp dV 6 2 rfl (ql 3 rfl 1 D2 rfl rfl rfl (qv 4 rfl rfl (qp g0 0 5 rfl (qp g0 0 6 rfl (ql 7 rfl 2 P6 rfl rfl rfl (qp g 0 8 rfl (qp g 0 9 rfl (qp g 3 10 rfl (ql 11 rfl 0 D2 rfl rfl rfl (qp dV 18 12 rfl (ql 13 rfl 1 R6 rfl rfl rfl (qv 15 rfl rfl (qv 16 rfl rfl (qv 18 rfl rfl ?_))))))))))))))))
 have rV:s0 (r7 b.length false)=b.length:=H0
 have rW:s0 (r7 b.length (G3 none 0 []:bP))=b.length:=H0
 have rX:s0 (r7 b.length (E0 []:Ll aQ))=b.length:=H0
 refine GG ⟨14,_,_,_,_,_,Option Addr × Nat,fun g9=> .slice g9.1 d.aB.ls.length g9.2,fun _=>True,fun g9=> [row g9.1 d.aB.ls.length g9.2 (q4 aN.cells d.aB.ls) 72 6]⟩ ⟨17,_,_,_,_,_,Option Addr,fun g9=> .slice g9 b.length b.length,fun _=>True,fun g9=> [row g9 b.length b.length (q4 eL (r7 b.length false)) 4 1]⟩ ⟨19,_,_,_,_,_,Option Addr,fun g9=> .slice g9 b.length b.length,fun _=>True,fun g9=> [sepL (q4 bP.own (r7 b.length (G3 none 0 []:bP))),row g9 b.length b.length (q4 (I9 (β:=af)) (r7 b.length (G3 none 0 []:bP))) 40 1]⟩ ⟨21,_,_,_,_,_,Nat,fun g9=>vP g9 0,fun _=>True,fun g9=> [blk g9 (rZ 0 0 0 0 none 0 0 none 0 0 none 0 0 none 0 0 0) 107]⟩ 20 24 ng ⟨⟨rfl,rfl,rfl, ?_⟩,⟨rfl,rfl,rfl, ?_⟩,⟨rfl,rfl,rfl, ?_⟩,⟨rfl,rfl,rfl, ?_⟩,trivial⟩ rfl ?_
 intro ut L' ni
 refine(Jb (cs:=(rZ 0 0 0 0 none 0 0 none 0 0 none 0 0 none 0 0 0)) (t:=107) ni rfl rfl (fun _=>by kernel_rfl) ?_)
 intro aP uu nk
 exact⟨aP,rfl,trivial,nk⟩
 intro uw L' ny
 obtain⟨uy,jG,jH,jI,rY⟩:=Iu ny
 refine(IP Tryz.call109 rfl (nJ _ _ dC d.aB.ls.length dD d.aB.ls d.aB.ls jG (jH _ fe) rfl e6 rfl) ?_)
 rintro _ uz ⟨K,L,rfl,jJ⟩
 have nz:=jI _ _ jJ
 exact⟨(K,L),rfl,trivial,nz⟩
 intro uA L' nA
 refine(Jt (x0:=false) (z:= .bool false) (k:=b.length) (size:=1) (bytes:=1) pV f2 rfl Tryz.underlying104 e7 nA rfl rfl e6 (by unfold maxLen; omega) ?_)
 intro B uB nC
 exact⟨B,rfl,trivial,nC⟩
 intro uC L' nD
 refine(Jt (x0:=(G3 none 0 []:bP)) (z:= .slice none 0 0) (k:=b.length) (size:=1) (bytes:=24) rC f2 rfl Tryz.underlying105 e7 nD rfl rfl e6 (by unfold maxLen; omega) ?_)
 intro M uD nE
 have nG:=nE.free (R:=sepL (q4 bP.own (r7 b.length (G3 none 0 []:bP)))) (uQ (D9 (eP 149 3) (yU fun _ h9=>absurd h9 v7)))
 exact⟨M,rfl,trivial,nG⟩
 rintro ⟨K,L⟩ _ B _ M _
 refine⟨.agg (rZ h p1 d.aU a.aa.aF K d.aB.ls.length L ag b.length aJ B b.length b.length M b.length b.length 0).toArray,fun _=>yk, ?_⟩
 rintro aP _
 intro nH nI
 have eH:Own w D nH (blk aP (rZ 0 0 0 0 none 0 0 none 0 0 none 0 0 none 0 0 0) 107::sepL (q4 bP.own (r7 b.length (G3 none 0 []:bP)))::row M b.length b.length (q4 (I9 (β:=af)) (r7 b.length (G3 none 0 []:bP))) 40 1::row B b.length b.length (q4 eL (r7 b.length false)) 4 1::row K d.aB.ls.length L (q4 aN.cells d.aB.ls) 72 6::_):=nI.flat.pf []
 have r9:=eH.rowC (i:=2) rfl
 have si:=eH.rowC (i:=3) rfl
 have sj:=eH.rowC (i:=4) rfl
 have nK:=eH.pb [0,1,2,3,4]
 have nL:=nK.pf [24]
 refine qe 22 rfl (Do.store (vs:=(rZ h p1 d.aU a.aa.aF K d.aB.ls.length L ag b.length aJ B b.length b.length M b.length b.length 0)) (o:=0) nL rfl rfl Tryz.sizeOf107 rfl rfl rfl rfl ?_)
 intro uE nM
 have jb:=nM.pb [0,25,26,27,28]
 refine⟨.inr ⟨_,jb⟩, ?_⟩
 refine qn (Iq (Ik ?_))
 have nN:=jb.px [] [1] []
 have eu:b.length=s0 (r7 b.length (E0 []:Ll aQ)):=by first | omega | (simp only [G4]; done) | (simp only [G4,o2,s1,E7,o0,o1,H0]; omega)
 have nO:=nN.pf [23]
 have nP:=Jp 7 eu nO
 have nQ:=nP.pf [25]
 have nR:=Jc eu nQ
 have nS:=nR.pb [1,25,0,26,27]
 have eB:b.length=s0 (r7 b.length false):=by first | omega | (simp only [G4]; done) | (simp only [G4,o2,s1,E7,o0,o1,H0]; omega)
 have nT:=nS.pf [23]
 have nU:=Jp 6 eB nT
 have nV:=nU.pf [26]
 have nW:=Jc eB nV
 have nX:=nW.pb [1,25,26,0,27]
 have nY:=nX.pf [0,1,23]
 refine EF [16] (IE IQ) nY ?_
 intro uF nZ
 refine qv 0 rfl rfl (qp g0 0 1 rfl (qp g0 0 2 rfl (ql 3 rfl 1 P6 rfl rfl rfl (qv 4 rfl rfl (qp g0 0 5 rfl (qp g0 0 6 rfl (ql 7 rfl 1 P6 rfl rfl rfl (qp g 0 8 rfl (qp g 8 9 rfl (ql 10 rfl 0 Q4 rfl rfl rfl (qt (v:= .agg (rZ h p1 d.aU a.aa.aF K d.aB.ls.length L ag b.length aJ B (s0 (r7 b.length false)) b.length M (s0 (r7 b.length (E0 []:Ll aQ))) b.length 0).toArray) 11 rfl (fun _ ⟨_,H9⟩=>IB rfl (IJ (cs:=(rZ h p1 d.aU a.aa.aF K d.aB.ls.length L ag b.length aJ B (s0 (r7 b.length false)) b.length M (s0 (r7 b.length (E0 []:Ll aQ))) b.length 0)) Tryz.isAgg107 Tryz.sizeOf107 ((H9.cls (i:=2) rfl).lit (k:=0) (m:=9) rfl))) ?_)))))))))))
 refine qd 12 rfl (Jq (cs:=(rZ h p1 d.aU a.aa.aF K d.aB.ls.length L ag b.length aJ B (s0 (r7 b.length false)) b.length M (s0 (r7 b.length (E0 []:Ll aQ))) b.length 0)) (t:=107) (sz:=9) (m:=1) nZ rfl rfl (fun _=>by kernel_rfl) rfl f2 ?_)
 intro jc uG iw
 replace iw:=IX (y:=row jc 1 1 (q4 bK.cells ([(bK.mk h p1 d.aU a.aa.aF (G3 K L d.aB.ls) (G3 ag aJ bu) (G3 B b.length (r7 b.length false)) (G3 M b.length (r7 b.length (G3 none 0 []:bP))) 0)])) 107 9) (EN (fun z9 z8=>row jc 1 1 [vU h,vI p1,vU d.aU,vU a.aa.aF, .slice K d.aB.ls.length L, .slice ag z9 aJ, .slice B (s0 (r7 b.length false)) b.length, .slice M z8 b.length,vI 0] 107 9) (aA bD).symm (aA (L9 (f:=bP.abs))).symm) iw
 have jd:=iw.pf [1,2,3]
 refine⟨.inr ⟨_,jd⟩, ?_⟩
 have je:=jd.pf [11,12,28,23,27,26,24,25]
 refine qd 13 rfl (IW (k:=a.aC.ls.length) (m:=1) (qF) je rfl rfl (gN Tryz.underlying79 (je.rds (i:=11) rfl) (dX bK.one ([(bK.mk h p1 d.aU a.aa.aF (G3 K L d.aB.ls) (G3 ag aJ bu) (G3 B b.length (r7 b.length false)) (G3 M b.length (r7 b.length (G3 none 0 []:bP))) 0)]))) rfl e6 (s:=s0 (a.aC.ls++ [(ed.mk h p1 d.aU a.aa.aF (E0 d.aB.ls) (E0 b) (E0 (r7 b.length false)) (E0 (r7 b.length (E0 []:Ll aQ))) 0)])) f7 (r5).symm ?_)
 intro dG cK og oh
 have ol:=oh.pf [3]
 have om:=Jc (aA bD).symm ol
 have oo:=om.pf [5]
 have oq:=Jc (n':=s0 (r7 b.length (G3 none 0 []:bP))) (aA (L9 (f:=bP.abs))).symm oo
 have ou:=oq.pf [3,4,1,5,0,6,7]
 have ow:Own w D og (sepL (q4 bK.own (I++ [(bK.mk h p1 d.aU a.aa.aF (G3 K L d.aB.ls) (G3 ag aJ bu) (G3 B b.length (r7 b.length false)) (G3 M b.length (r7 b.length (G3 none 0 []:bP))) 0)]))::_):=ou.sepAdd (L2:= [row K d.aB.ls.length L (q4 aN.cells d.aB.ls) 72 6,row ag bu.length aJ (q4 bO.cells bu) 172 3,row B (s0 (r7 b.length false)) b.length (q4 eL (r7 b.length false)) 4 1,row M (s0 (r7 b.length (G3 none 0 []:bP))) b.length (q4 (I9 (β:=af)) (r7 b.length (G3 none 0 []:bP))) 40 1,sepL (q4 bO.own bu),sepL (q4 bP.own (r7 b.length (G3 none 0 []:bP)))]) (r5 (f:=bK.own) (xs:=I) (ys:= [(bK.mk h p1 d.aU a.aa.aF (G3 K L d.aB.ls) (G3 ag aJ bu) (G3 B b.length (r7 b.length false)) (G3 M b.length (r7 b.length (G3 none 0 []:bP))) 0)])).symm
 have su:s0 (a.aC.ls++ [(ed.mk h p1 d.aU a.aa.aF (E0 d.aB.ls) (E0 b) (E0 (r7 b.length false)) (E0 (r7 b.length (E0 []:Ll aQ))) 0)])=a.aC.ls.length+1:=by simp only [o2,s1,E7]
 have sw:=aA (nu (es:= [(bK.mk h p1 d.aU a.aa.aF (G3 K L d.aB.ls) (G3 ag aJ bu) (G3 B b.length (r7 b.length false)) (G3 M b.length (r7 b.length (G3 none 0 []:bP))) 0)]) (ms:= [(ed.mk h p1 d.aU a.aa.aF (E0 d.aB.ls) (E0 b) (E0 (r7 b.length false)) (E0 (r7 b.length (E0 []:Ll aQ))) 0)]) Z (EN (fun z9 z8=> [ed.mk h p1 d.aU a.aa.aF (E0 d.aB.ls) (E0 z9) (E0 (r7 b.length false)) (E0 z8) 0]) bD (L9 (f:=bP.abs))))
 have jf:=ow.pf [2,3,4]
 refine⟨.inr ⟨_,jf⟩, ?_⟩
 refine qp g 0 14 rfl (qp g 8 15 rfl ?_)
 refine qe 16 rfl (Do.store (vs:= [.slice dG (s0 (a.aC.ls++ [(ed.mk h p1 d.aU a.aa.aF (E0 d.aB.ls) (E0 b) (E0 (r7 b.length false)) (E0 (r7 b.length (E0 []:Ll aQ))) 0)])) cK]) (o:=8) jf rfl rfl Tryz.sizeOf79 rfl rfl rfl rfl ?_)
 intro uH oz
 refine⟨.inl e7, ?_⟩
 refine qn (Iq ?_)
 have jg:=oz.px [] [5] []
 refine Il (Mz rfl ?_)
 refine WL.do rfl (IP Tryz.call64 rfl ?_ (fun _ _ k=>k))
 refine cb Tryz.func64 ?_
 refine sr (Mz rfl (Kz (vP aP 0) (Kz (vP aP 5) (Lz (.slice ag b.length aJ) jg 2 Tryz.isAgg103 (Kz (vJ b.length) (Mn rfl (bo ?_)))))))
 have oC:=jg.pb [5,6]
 obtain⟨oD,dz⟩:=ED fun (u:Nat) cO (cZ:Nat) bS aG w'=>Own w D w' [blk g [vI a.aa.au,vU a.aa.ax,vU a.aa.bG,vU a.aa.aF, .slice n a.aa.ag.ls.length p, .slice r a.aa.ak.ls.length j, .slice C a.aa.aK.ls.length E, .int .u64 ((C6 (C7.wrap (((a.bT:Nat):Int)+1)):Nat):Int), .slice dG (s0 (a.aC.ls++ [(ed.mk h p1 d.aU a.aa.aF (E0 d.aB.ls) (E0 b) (E0 (r7 b.length false)) (E0 (r7 b.length (E0 []:Ll aQ))) 0)])) cK, .bool a.bM.dB,vU a.bM.bi,vI a.bM.dP, .slice O a.bM.ai.ls.length P, .bool a.bD.dB,vU a.bD.bi,vI a.bD.dP, .slice Q a.bD.ai.ls.length S, .bool a.bA.dB,vU a.bA.bi,vI a.bA.dP, .slice T a.bA.ai.ls.length U, .bool a.bC.dB,vU a.bC.bi,vI a.bC.dP, .slice V a.bC.ai.ls.length W, .bool a.bB.dB,vU a.bB.bi,vI a.bB.dP, .slice X a.bB.ai.ls.length Y,vU a.dO,vU a.dG,vU a.dH,vU a.dD,vU a.dE, .pointer none] 86,blk g0 [vP g 0, .slice cO aG.length cZ] 98,blk aP (rZ h p1 d.aU a.aa.aF K d.aB.ls.length L ag b.length aJ B (s0 (r7 b.length false)) b.length M (s0 (r7 b.length (E0 []:Ll aQ))) b.length 0) 107,sepL (q4 bK.own (I++ [(bK.mk h p1 d.aU a.aa.aF (G3 K L d.aB.ls) (G3 ag aJ bu) (G3 B b.length (r7 b.length false)) (G3 M b.length (r7 b.length (G3 none 0 []:bP))) 0)])),row dG (s0 (a.aC.ls++ [(ed.mk h p1 d.aU a.aa.aF (E0 d.aB.ls) (E0 b) (E0 (r7 b.length false)) (E0 (r7 b.length (E0 []:Ll aQ))) 0)])) cK (q4 bK.cells (I++ [(bK.mk h p1 d.aU a.aa.aF (G3 K L d.aB.ls) (G3 ag aJ bu) (G3 B b.length (r7 b.length false)) (G3 M b.length (r7 b.length (G3 none 0 []:bP))) 0)])) 107 9,row n a.aa.ag.ls.length p (q4 aM.cells a.aa.ag.ls) 89 2,row r a.aa.ak.ls.length j (q4 ay.cells N) 60 5,sepL (q4 ay.own N),row C a.aa.aK.ls.length E (q4 aS.cells ah) 56 4,sepL (q4 aS.own ah),row O a.bM.ai.ls.length P (q4 af.cells ai) 149 3,sepL (q4 af.own ai),row Q a.bD.ai.ls.length S (q4 af.cells aj) 149 3,sepL (q4 af.own aj),row T a.bA.ai.ls.length U (q4 af.cells ak) 149 3,sepL (q4 af.own ak),row V a.bC.ai.ls.length W (q4 af.cells au) 149 3,sepL (q4 af.own au),row X a.bB.ai.ls.length Y (q4 af.cells av) 149 3,sepL (q4 af.own av),row cO aG.length cZ (q4 bz.cells bS) 42 21,sepL (q4 bz.own bS)]∧s5 bz.abs bS=aG∧u≤b.length∧aG.length≤p0.bF.ls.length+u∧aG.length≤100000+u∧gD p1 d a h b b 0 p0.bF.ls=gD p1 d a h b (List.drop u b) u aG
 refine Wp.loop (fun i:Nat × (Option Addr) × Nat × (List bz) × (List bW)=> [(11,vJ i.1),(10,vJ b.length),(9, .slice ag b.length aJ),(0,vP g0 0),(1,vP aP 0)]) oD (fun i=>b.length - i.1) (0,bL,bM,bG,p0.bF.ls) ⟨rfl,rfl,rfl,rfl,rfl,trivial⟩ (dz.2 ⟨oC,by exact bF,e6,e6,e6,rfl⟩) ?_
 rintro ⟨u,cO,cZ,bS,aG⟩ uI jN
 obtain⟨bT,dB,sD,sF,sG,eD⟩:=dz.1 jN
 have sH:=aA dB
 refine sr (Kz (.bool (decide (((u:Nat):Int) < ((b.length:Nat):Int)))) (nt (Ik ?_)))
 by_cases jh:((u:Nat):Int) < ((b.length:Nat):Int)
 obtain⟨F,bV⟩:=dh (ls:=bu) (i:=u) bO.len f2 (show aY _ 3 ag b.length (q4 bO.cells bu) from (bq bT (i:=3) rfl (az (Q6.2 ⟨_,u5 _ b1, .tail _ b1⟩) (fun w9 h9 a9 b9=>sZ (aA bD) (aW w9 h9 a9 b9))))) e9
 have iy:=eY bD bV
 have sI:F.aB.ls.length≤F.aB.c∧F.aB.ls.length≤9223372036854775807:=bq bT (i:=3) rfl (φ:=fun _=>_) (az (Q6.2 ⟨_,u5 _ b1, .tail _ b4⟩) (az (Q6.2 ⟨F,D1 bV,b1⟩) bn))
 have sJ:F.aI.ls.length≤F.aI.c∧F.aI.ls.length≤9223372036854775807:=bq bT (i:=3) rfl (φ:=fun _=>_) (az (Q6.2 ⟨_,u5 _ b1, .tail _ b4⟩) (az (Q6.2 ⟨F,D1 bV, .tail _ b1⟩) bn))
 have sK:F.aB.ls.length≤24024:=kY _ (D1 iy)
 have iB:=drop_at iy
 refine jT (dT jh) (sk (Ik (bo (sr (Mz rfl (fw (.pointer (some ⟨ab ag,ao ag+u *3,none⟩)) (Iz (uR) rfl rfl ((show aY _ 3 ag b.length (q4 bO.cells bu) from (bq bT (i:=3) rfl (az (Q6.2 ⟨_,u5 _ b1, .tail _ b1⟩) (fun w9 h9 a9 b9=>sZ (aA bD) (aW w9 h9 a9 b9))))).addr (i:=u) e6) e6) (fw (.agg (bO.cells F).toArray) (IB rfl (IJ (cs:=(bO.cells F)) Tryz.isAgg172 Tryz.sizeOf172 ((show aY _ 3 ag b.length (q4 bO.cells bu) from (bq bT (i:=3) rfl (az (Q6.2 ⟨_,u5 _ b1, .tail _ b1⟩) (fun w9 h9 a9 b9=>sZ (aA bD) (aW w9 h9 a9 b9))))).elem bO.len bV f2))) ?_)))))))
 refine dn [vI 0, .slice none 0 0, .slice none 0 0] 172 bT ?_
 intro ji uJ oI
 refine Az rfl ?_
 refine df (bO.cells F) 0 oI Tryz.sizeOf172 ?_
 intro uK di
 refine ns (Mz rfl (Kz (vP aP 0) (Kz (vP aP 6) (Lz (.slice B (s0 (r7 b.length false)) b.length) di 3 Tryz.isAgg104 (Mz rfl ?_)))))
 obtain⟨iC,eF⟩:=dh (ls:=(r7 b.length false)) (i:=u) pV f2 (show aY _ 1 B (s0 (r7 b.length false)) (q4 eL (r7 b.length false)) from (bq di (i:=4) rfl (az (Q6.2 ⟨_,u5 _ b1, .tail _ b2⟩) aW))) e9
 refine fw (.pointer (some ⟨ab B,ao B+u *1,none⟩)) (Iz (zA) rfl rfl ((show aY _ 1 B (s0 (r7 b.length false)) (q4 eL (r7 b.length false)) from (bq di (i:=4) rfl (az (Q6.2 ⟨_,u5 _ b1, .tail _ b2⟩) aW))).addr (i:=u) e6) e6) (fw (.bool iC) (IB rfl (bJ.one Tryz.isAgg4 (((show aY _ 1 B (s0 (r7 b.length false)) (q4 eL (r7 b.length false)) from (bq di (i:=4) rfl (az (Q6.2 ⟨_,u5 _ b1, .tail _ b2⟩) aW))).elem pV eF f2).at_ (k:=0) rfl))) (Kz (.bool (!iC)) (nt ?_)))
 rcases Ls (iC) with dH | dH
 refine jF (cn dH) (IU (bN (Iq (Il (fw (vJ (u+1)) (Ir (e:=C3.wrap (((u:Nat):Int)+1)) yk f0) (Mz rfl (WL.nil ?_)))))))
 have oJ:=di.px [] [0] []
 exact II (u+1,cO,cZ,bS,aG) ⟨rfl,rfl,rfl,rfl,rfl,trivial⟩ (dz.2 ⟨oJ,by exact dB,e6,e6,e6,et (eD) (et (congrArg (fun q=>gD p1 d a h b q u aG) iB) (et (ae (aT eF)) (ip dH)))⟩) (by show b.length - (u+1) < b.length - u; omega)
 refine jT (cn dH) ?_
 refine oV 23 [19] (bv.block (IE (IE (bv.block IQ)))) di ?_
 intro uL oK
 refine qv 0 rfl rfl (qp ji 0 1 rfl (ql 2 rfl 0 Tryz.isAgg3 rfl rfl rfl (qv 3 rfl rfl (qp aP 0 4 rfl (qp aP 0 5 rfl (ql 6 rfl 3 D2 rfl rfl rfl (qv 7 rfl rfl (qp g0 0 8 rfl (qp g0 0 9 rfl (ql 10 rfl 2 P6 rfl rfl rfl (qv 12 rfl rfl (qp aP 0 13 rfl (qp aP 3 14 rfl (ql 15 rfl 3 D2 rfl rfl rfl (qp ji 1 16 rfl (ql 17 rfl 0 R6 rfl rfl rfl ?_))))))))))))))))
 have bi:=oK.pf [1]
 have sM:=bi.rowC (i:=7) rfl
 have sN:=bi.rowC (i:=5) rfl
 obtain⟨eO,iD⟩:∃ q,gQ (aD.mk a.aa (C6 (C7.wrap (((a.bT:Nat):Int)+1))) (E0 (a.aC.ls++ [(ed.mk h p1 d.aU a.aa.aF (E0 d.aB.ls) (E0 b) (E0 (r7 b.length false)) (E0 (r7 b.length (E0 []:Ll aQ))) 0)])) a.bM a.bD a.bA a.bC a.bB a.dO a.dG a.dH a.dD a.dE)=q:=⟨_,rfl⟩
 obtain⟨uM,jO,sO,jP,aK⟩:=IZ bi
 refine qd 11 rfl (IP Tryz.call108 rfl (qO _ _ g (aD.mk a.aa (C6 (C7.wrap (((a.bT:Nat):Int)+1))) (E0 (a.aC.ls++ [(ed.mk h p1 d.aU a.aa.aF (E0 d.aB.ls) (E0 b) (E0 (r7 b.length false)) (E0 (r7 b.length (E0 []:Ll aQ))) 0)])) a.bM a.bD a.bA a.bC a.bB a.dO a.dG a.dH a.dD a.dE) n p r j N C E dG cK (I++ [(bK.mk h p1 d.aU a.aa.aF (G3 K L d.aB.ls) (G3 ag aJ bu) (G3 B b.length (r7 b.length false)) (G3 M b.length (r7 b.length (G3 none 0 []:bP))) 0)]) O P Q S T U V W X Y eO jO ax (aK _ 6 _ rfl aW) (show a.aa.ak.ls.length≤j∧a.aa.ak.ls.length≤9223372036854775807 from by omega) (fun x9 h9=>⟨aK _ 7 _ rfl (az (Q6.2 ⟨x9,h9,b1⟩) aW),bq (φ:=fun _=>_) bi (i:=8) rfl (az (Q6.2 ⟨x9,h9,b1⟩) bn)⟩) (nu (es:= [(bK.mk h p1 d.aU a.aa.aF (G3 K L d.aB.ls) (G3 ag aJ bu) (G3 B b.length (r7 b.length false)) (G3 M b.length (r7 b.length (G3 none 0 []:bP))) 0)]) (ms:= [(ed.mk h p1 d.aU a.aa.aF (E0 d.aB.ls) (E0 b) (E0 (r7 b.length false)) (E0 (r7 b.length (E0 []:Ll aQ))) 0)]) Z (EN (fun z9 z8=> [ed.mk h p1 d.aU a.aa.aF (E0 d.aB.ls) (E0 z9) (E0 (r7 b.length false)) (E0 z8) 0]) bD (L9 (f:=bP.abs)))) (aK _ 4 _ rfl aW) (show s0 (a.aC.ls++ [(ed.mk h p1 d.aU a.aa.aF (E0 d.aB.ls) (E0 b) (E0 (r7 b.length false)) (E0 (r7 b.length (E0 []:Ll aQ))) 0)])≤cK∧s0 (a.aC.ls++ [(ed.mk h p1 d.aU a.aa.aF (E0 d.aB.ls) (E0 b) (E0 (r7 b.length false)) (E0 (r7 b.length (E0 []:Ll aQ))) 0)])≤9223372036854775807 from by omega) (fun x9 h9=>⟨aK _ 3 _ rfl (az (Q6.2 ⟨x9,h9,b1⟩) aW),bq (φ:=fun _=>_) bi (i:=4) rfl (az (Q6.2 ⟨x9,h9,b1⟩) bn),aK _ 3 _ rfl (az (Q6.2 ⟨x9,h9, .tail _ b1⟩) aW),bq (φ:=fun _=>_) bi (i:=4) rfl (az (Q6.2 ⟨x9,h9, .tail _ b1⟩) bn),(fun y1 k1=>⟨aK _ 3 _ rfl (az (Q6.2 ⟨x9,h9, .tail _ b4⟩) (az (Q6.2 ⟨y1,k1,b1⟩) aW)),bq (φ:=fun _=>_) bi (i:=4) rfl (az (Q6.2 ⟨x9,h9, .tail _ b4⟩) (az (Q6.2 ⟨y1,k1,b1⟩) bn)),aK _ 3 _ rfl (az (Q6.2 ⟨x9,h9, .tail _ b4⟩) (az (Q6.2 ⟨y1,k1, .tail _ b1⟩) aW)),bq (φ:=fun _=>_) bi (i:=4) rfl (az (Q6.2 ⟨x9,h9, .tail _ b4⟩) (az (Q6.2 ⟨y1,k1, .tail _ b1⟩) bn))⟩),aK _ 3 _ rfl (az (Q6.2 ⟨x9,h9, .tail _ b2⟩) aW),bq (φ:=fun _=>_) bi (i:=4) rfl (az (Q6.2 ⟨x9,h9, .tail _ b2⟩) bn),aK _ 3 _ rfl (az (Q6.2 ⟨x9,h9, .tail _ b3⟩) aW),bq (φ:=fun _=>_) bi (i:=4) rfl (az (Q6.2 ⟨x9,h9, .tail _ b3⟩) bn),(fun y1 k1=>⟨aK _ 3 _ rfl (az (Q6.2 ⟨x9,h9, .tail _ b5⟩) (az (Q6.2 ⟨y1,k1,b1⟩) aW)),bq (φ:=fun _=>_) bi (i:=4) rfl (az (Q6.2 ⟨x9,h9, .tail _ b5⟩) (az (Q6.2 ⟨y1,k1,b1⟩) bn)),(fun y2 k2=>⟨aK _ 3 _ rfl (az (Q6.2 ⟨x9,h9, .tail _ b5⟩) (az (Q6.2 ⟨y1,k1, .tail _ b1⟩) (az (Q6.2 ⟨y2,k2,b1⟩) aW))),bq (φ:=fun _=>_) bi (i:=4) rfl (az (Q6.2 ⟨x9,h9, .tail _ b5⟩) (az (Q6.2 ⟨y1,k1, .tail _ b1⟩) (az (Q6.2 ⟨y2,k2,b1⟩) bn)))⟩)⟩)⟩) e8 iD) ?_)
 rintro _ uN ⟨rfl,jQ⟩
 have oL:=jP _ _ jQ
 have jk:=oL.pf [1]
 refine⟨.inr ⟨_,jk⟩, ?_⟩
 refine qk (.agg (iA 3 0 F.bE 0 0 0 0 0 h eO 0 a.aa.aF 0 0 0 false ([]) ([]) F.aB.A F.aB.ls.length F.aB.c none 0 0 none 0 0).toArray) 18 rfl ?_
 have oM:=jk.pf [2,21,22]
 obtain⟨iE,iF⟩:∃ q,dM (bU.mk (E0 aG)) (bW.mk 3 0 F.bE 0 0 0 0 0 h eO 0 a.aa.aF 0 0 0 false (aL.mk ([]) ([])) (E0 F.aB.ls) (E0 ([])) (E0 ([])))=q:=⟨_,rfl⟩
 obtain⟨uO,jS,sP,jU,jV⟩:=Ja oM
 refine qd 19 rfl (IP Tryz.call65 rfl (gV _ _ g0 (bU.mk (E0 aG)) cO cZ bS g (bW.mk 3 0 F.bE 0 0 0 0 0 h eO 0 a.aa.aF 0 0 0 false (aL.mk ([]) ([])) (E0 F.aB.ls) (E0 ([])) (E0 ([]))) F.aB.A F.aB.ls.length F.aB.c none 0 0 [] none 0 0 iE jS dB rfl (jV _ 3 _ rfl (az (Q6.2 ⟨_,u5 _ b1, .tail _ b4⟩) (az (Q6.2 ⟨F,D1 bV,b1⟩) aW))) (show F.aB.ls.length≤F.aB.c∧F.aB.ls.length≤9223372036854775807 from by omega) rfl rfl (fun _ _=>aY.nil _ _ _) f3 (fun _ h9=>absurd h9 v7) rfl (fun _ _=>aY.nil _ _ _) f3 e8 (by first | assumption | exact d9 f5 | exact fun x hx=>absurd hx v7 | exact d9 (Mk.nK f5).1 | exact d9 (Mk.mh f5).1 | exact d9 (Mk.nV f5).1 | exact d9 (Mk.nW f5).1 | exact d9 (Mk.nX f5).1) iF) ?_)
 rintro _ uP ⟨oN,oO,oP,rfl,jW,iG,iH⟩
 have jl:=jU _ _ jW
 have sQ:=aA iG
 have sS:=jl.rowC (i:=1) rfl
 replace iH:iE.bF.ls.length=aG.length+1:=iH
 refine⟨.inl e7, ?_⟩
 refine qn (bN (Iq (Il (fw (vJ (u+1)) (Ir (e:=C3.wrap (((u:Nat):Int)+1)) yk f0) (Mz rfl (WL.nil ?_))))))
 have oQ:=jl.px [4] [3] [1,2]
 exact II (u+1,oN,oO,oP,iE.bF.ls) ⟨rfl,rfl,rfl,rfl,rfl,trivial⟩ (dz.2 ⟨oQ,by exact iG,e6,e6,e6,et (eD) (et (congrArg (fun q=>gD p1 d a h b q u aG) iB) (et (ae (aT eF)) (et (fP dH) (et (ae iD) (ae iF)))))⟩) (by show b.length - (u+1) < b.length - u; omega)
 refine jF (dF jh) (Wp.exit (IC ?_))
 have jX:gD p1 d a h b b 0 p0.bF.ls=aG:=et (eD) (et (congrArg (fun q=>gD p1 d a h b q u aG) (dZ (ls:=b) (i:=u) e6)) rfl)
 refine IC (IK (IL (res0 rfl) (WL.nil (IL (res0 rfl) ?_))))
 have oU:=bT.px [1,20,21,0,5,6,7,8,9,4] [2] []
 obtain⟨rfl,rfl⟩:=fD (hr.symm.trans (show _=(bU.mk (E0 aG),aD.mk a.aa (C6 (C7.wrap (((a.bT:Nat):Int)+1))) (E0 (a.aC.ls++ [(ed.mk h p1 d.aU a.aa.aF (E0 d.aB.ls) (E0 b) (E0 (r7 b.length false)) (E0 (r7 b.length (E0 []:Ll aQ))) 0)])) a.bM a.bD a.bA a.bC a.bB a.dO a.dG a.dH a.dD a.dE) from et (ae cz) (et (ae cB) (et (ae bH) (et (iN l) (et (iN aO) (et (iN bE) (et (ip eG) (ae jX)))))))))
 exact⟨cO,cZ,bS,n,p,r,j,N,C,E,ah,dG,cK,(I++ [(bK.mk h p1 d.aU a.aa.aF (G3 K L d.aB.ls) (G3 ag aJ bu) (G3 B b.length (r7 b.length false)) (G3 M b.length (r7 b.length (G3 none 0 []:bP))) 0)]),O,P,ai,Q,S,aj,T,U,ak,V,W,au,X,Y,av,(by(first | rw [← eu] | skip); (first | rw [← eB] | skip); first | done | rfl),oU,dB,ax,aR,(nu (es:= [(bK.mk h p1 d.aU a.aa.aF (G3 K L d.aB.ls) (G3 ag aJ bu) (G3 B b.length (r7 b.length false)) (G3 M b.length (r7 b.length (G3 none 0 []:bP))) 0)]) (ms:= [(ed.mk h p1 d.aU a.aa.aF (E0 d.aB.ls) (E0 b) (E0 (r7 b.length false)) (E0 (r7 b.length (E0 []:Ll aQ))) 0)]) Z (EN (fun z9 z8=> [ed.mk h p1 d.aU a.aa.aF (E0 d.aB.ls) (E0 z9) (E0 (r7 b.length false)) (E0 z8) 0]) bD (L9 (f:=bP.abs)))),aU,aV,aX,aZ,bf⟩
 refine jT (dT eG) (sr (Mz rfl (Mz rfl (Kz (vP dV 6) (Lz (vU d.aU) dx 1 D2 ?_)))))
 have oW:=dx.px [2,3,4] [] [1,5,6,7,8,9,10,11,22,23]
 obtain⟨⟨iI,aI⟩,iJ⟩:∃ q:bU × aD,dL p0 p1 d.aU 2 ([]) (aD.mk a.aa (C6 (C7.wrap (((a.bT:Nat):Int)+1))) (E0 a.aC.ls) a.bM a.bD a.bA a.bC a.bB a.dO a.dG a.dH a.dD a.dE)=q:=⟨_,rfl⟩
 obtain⟨uS,jY,sU,jZ,sV⟩:=Jj oW
 refine cl R7 (jM _ _ g0 p0 bL bM bG p1 d.aU 2 none 0 0 [] ([]) g (aD.mk a.aa (C6 (C7.wrap (((a.bT:Nat):Int)+1))) (E0 a.aC.ls) a.bM a.bD a.bA a.bC a.bB a.dO a.dG a.dH a.dD a.dE) n p r j C E J G O P ai Q S aj T U ak V W au X Y av iI aI jY bF rfl (fun _ _=>aY.nil _ _ _) (fun _ h9=>absurd h9 v7) rfl i7 g6 aU aV aX aZ bf e8 g2 g2 i1 iJ) ?_
 rintro _ uT ⟨oZ,o5,o6,o7,o8,o9,pg,pq,pu,pz,pE,pF,pG,pI,pJ,pK,pM,pO,rfl,j3,iK,iL,iM,iO,iP,iQ,iR⟩
 have bX:=jZ _ _ j3
 have sW:=aA iK
 have tq:=aA iL
 have tu:=aA iM
 have tC:=aA iO
 have tF:=aA iP
 have tH:=aA iQ
 have tJ:=bX.rowC (i:=1) rfl
 have tK:=bX.rowC (i:=4) rfl
 have tL:=bX.rowC (i:=6) rfl
 have tN:=bX.rowC (i:=8) rfl
 have tO:=bX.rowC (i:=10) rfl
 have tQ:=bX.rowC (i:=12) rfl
 replace iR:iI.bF.ls.length=p0.bF.ls.length+1:=iR
 refine nt (rt (tR (Fin.res (res0 rfl) ?_)))
 have pQ:=bX.px [] [14,22,23] [4,5,6,7,8,9,10,11,12,13]
 obtain⟨rfl,rfl⟩:=fD (hr.symm.trans (show _=(iI,aD.mk (bZ.mk aI.aa.au aI.aa.ax aI.aa.bG aI.aa.aF (E0 a.aa.ag.ls) (E0 a.aa.ak.ls) (E0 a.aa.aK.ls)) aI.bT (E0 a.aC.ls) aI.bM aI.bD aI.bA aI.bC aI.bB aI.dO aI.dG aI.dH aI.dD aI.dE) from et (ae cz) (et (ae cB) (et (ae bH) (et (iN l) (et (iN aO) (et (iN bE) (et (iN eG) (ae iJ)))))))))
 exact⟨oZ,o5,o6,n,p,r,j,N,C,E,ah,J,G,I,o7,o8,o9,pg,pq,pu,pz,pE,pF,pG,pI,pJ,pK,pM,pO,rfl,pQ,iK,ax,aR,Z,iL,iM,iO,iP,iQ⟩
end Go.Proofs.YtbkagebjhbphaaaGreat
