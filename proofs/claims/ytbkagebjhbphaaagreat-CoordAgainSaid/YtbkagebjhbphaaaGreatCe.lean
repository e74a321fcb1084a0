/-
 coord: a transaction begins.
-/
import Derived.Test.YtbkagebjhbphaaaGreatCc
namespace Go.Proofs.YtbkagebjhbphaaaGreat
open Int renaming toNat→D2
open IntKind renaming i64→C7,u64→D3
open List renaming flatMap→q6,flatMap_append→r7,length→s2,length_append→p5,length_cons→s3,length_drop→p4,length_nil→G0,length_replicate→H6,length_set→H5,length_take→p3,map→s8,map_replicate→K3,mem_append_right→v5,mem_flatMap→P2,mem_of_getElem?→E0,not_mem_nil→B3,replicate→s0
open Ll renaming mk→E4
open Sv renaming mk→H3
open _root_.Go.Proofs.Tryz renaming call106→P7,isAgg24→O2,isAgg28→E1,isAgg39→P6,isAgg79→P0
set_option maxRecDepth 100000
open Go.RowKit
set_option linter.unusedVariables false
set_option linter.unusedSectionVars false
set_option linter.unusedSimpArgs false
def il (l:Int) (k:bM) (a:aB) (e:Nat) (d:List gq):List gq→Nat→List bM→(List bM)
  | [],b,c=>c
  | f::g,b,c=>bnd (List.getD (s0 d.length false) b default) fun h=>if h=true then il l k a e d g (b+1) c else bnd (gG (aB.mk a.aa (D2 (D3.wrap (((a.bP:Nat):Int)+1))) (E4 (a.au.ls++ [(dD.mk e l k.aO a.aa.aL (E4 k.aF.ls) (E4 d) (E4 (s0 d.length false)) (E4 (s0 d.length (E4 []:Ll aS))) 0)])) a.bH a.bf a.bi a.bn a.aZ a.dI a.dz a.dB a.dA a.dC)) fun i=>bnd (df (bE.mk (E4 c)) (bM.mk 3 0 f.dV 0 0 0 0 0 e i 0 a.aa.aL 0 0 0 false (bI.mk ([]) ([])) (E4 f.aF.ls) (E4 ([])) (E4 ([])))) fun j=>il l k a e d g (b+1) j.bq.ls
def dU (j:bE) (i:Int) (h:bM) (a:aB):bE × aB:=
 bnd (gP a) fun g=>bnd (gG a) fun k=>bnd (lQ a.aa.ag.ls h.aF.ls) fun f=>if((a.au.ls.length:Nat):Int) ≥ 6 then bnd (dh j i h.aO 2 ([]) (aB.mk a.aa (D2 (D3.wrap (((a.bP:Nat):Int)+1))) (E4 a.au.ls) a.bH a.bf a.bi a.bn a.aZ a.dI a.dz a.dB a.dA a.dC)) fun e=>(e.1,aB.mk (di.mk e.2.aa.av e.2.aa.ay e.2.aa.aX e.2.aa.aL (E4 a.aa.ag.ls) (E4 a.aa.ak.ls) (E4 a.aa.aJ.ls)) e.2.bP (E4 a.au.ls) e.2.bH e.2.bf e.2.bi e.2.bn e.2.aZ e.2.dI e.2.dz e.2.dB e.2.dA e.2.dC) else if((a.au.ls.length+a.aa.ak.ls.length:Nat):Int) ≥ 8 then bnd (dh j i h.aO 2 ([]) (aB.mk a.aa (D2 (D3.wrap (((a.bP:Nat):Int)+1))) (E4 a.au.ls) a.bH a.bf a.bi a.bn a.aZ a.dI a.dz a.dB a.dA a.dC)) fun b=>(b.1,aB.mk (di.mk b.2.aa.av b.2.aa.ay b.2.aa.aX b.2.aa.aL (E4 a.aa.ag.ls) (E4 a.aa.ak.ls) (E4 a.aa.aJ.ls)) b.2.bP (E4 a.au.ls) b.2.bH b.2.bf b.2.bi b.2.bn b.2.aZ b.2.dI b.2.dz b.2.dB b.2.dA b.2.dC) else if((D2 (D3.wrap (((g:Nat):Int) - ((k:Nat):Int))):Nat):Int) ≥ 64 then bnd (dh j i h.aO 2 ([]) (aB.mk a.aa (D2 (D3.wrap (((a.bP:Nat):Int)+1))) (E4 a.au.ls) a.bH a.bf a.bi a.bn a.aZ a.dI a.dz a.dB a.dA a.dC)) fun c=>(c.1,aB.mk (di.mk c.2.aa.av c.2.aa.ay c.2.aa.aX c.2.aa.aL (E4 a.aa.ag.ls) (E4 a.aa.ak.ls) (E4 a.aa.aJ.ls)) c.2.bP (E4 a.au.ls) c.2.bH c.2.bf c.2.bi c.2.bn c.2.aZ c.2.dI c.2.dz c.2.dB c.2.dA c.2.dC) else if f.2=0 then bnd (il i h a g f.1 f.1 0 j.bq.ls) fun sLrbbbffftL=>(bE.mk (E4 sLrbbbffftL),aB.mk a.aa (D2 (D3.wrap (((a.bP:Nat):Int)+1))) (E4 (a.au.ls++ [(dD.mk g i h.aO a.aa.aL (E4 h.aF.ls) (E4 f.1) (E4 (s0 f.1.length false)) (E4 (s0 f.1.length (E4 []:Ll aS))) 0)])) a.bH a.bf a.bi a.bn a.aZ a.dI a.dz a.dB a.dA a.dC) else bnd (dh j i h.aO 2 ([]) (aB.mk a.aa (D2 (D3.wrap (((a.bP:Nat):Int)+1))) (E4 a.au.ls) a.bH a.bf a.bi a.bn a.aZ a.dI a.dz a.dB a.dA a.dC)) fun d=>(d.1,aB.mk (di.mk d.2.aa.av d.2.aa.ay d.2.aa.aX d.2.aa.aL (E4 a.aa.ag.ls) (E4 a.aa.ak.ls) (E4 a.aa.aJ.ls)) d.2.bP (E4 a.au.ls) d.2.bH d.2.bf d.2.bi d.2.bn d.2.aZ d.2.dI d.2.dz d.2.dB d.2.dA d.2.dC)
set_option maxHeartbeats 4000000 in
theorem jw (w D g0) (p0:bE) (bP bQ bH p1) (d:bM) (dA iV dB eH iW eO eP eQ iX eT g) (a:aB) (n p r j N C E ag J G I O P ah Q S aj T U ak V W au X Y av) (r0:bE) (r1:aB) (H:Own w D w [blk g0 [.pointer (some ⟨g,0,none⟩), .slice bP p0.bq.ls.length bQ] 98,row bP p0.bq.ls.length bQ (q6 bC.cells bH) 42 21,sepL (q6 bC.own bH),mK g a n a.aa.ag.ls.length p r j C E J G O P Q S T U V W X Y,row n a.aa.ag.ls.length p (q6 aW.cells a.aa.ag.ls) 89 2,row r a.aa.ak.ls.length j (q6 aA.cells N) 60 5,sepL (q6 aA.own N),row C a.aa.aJ.ls.length E (q6 aT.cells ag) 56 4,sepL (q6 aT.own ag),row J a.au.ls.length G (q6 bz.cells I) 107 9,sepL (q6 bz.own I),row O a.bH.af.ls.length P (q6 ae.cells ah) 149 3,sepL (q6 ae.own ah),row Q a.bf.af.ls.length S (q6 ae.cells aj) 149 3,sepL (q6 ae.own aj),row T a.bi.af.ls.length U (q6 ae.cells ak) 149 3,sepL (q6 ae.own ak),row V a.bn.af.ls.length W (q6 ae.cells au) 149 3,sepL (q6 ae.own au),row X a.aZ.af.ls.length Y (q6 ae.cells av) 149 3,sepL (q6 ae.own av)]) (bG:s8 bC.abs bH=p0.bq.ls) (jm:iV=d.aF.ls.length) (eU:Ro w D fun w'=>bA w' 6 dA d.aF.ls.length (q6 bv.cells d.aF.ls)) (qb:d.aF.ls.length≤dB∧d.aF.ls.length≤9223372036854775807) (jo:s8 ae.abs eP=d.ah.ls) (jq:iW=d.ah.ls.length) (qc:Ro w D fun w'=>bA w' 3 eH d.ah.ls.length (q6 ae.cells eP)) (qf:d.ah.ls.length≤eO∧d.ah.ls.length≤9223372036854775807) (qg:∀ x ∈ eP,Ro w D (fun w'=>bA w' 2 x.aj.A x.aj.ls.length (q6 aI.cells x.aj.ls))∧(x.aj.ls.length≤x.aj.c∧x.aj.ls.length≤9223372036854775807)) (jr:iX=d.ag.ls.length) (qi:Ro w D fun w'=>bA w' 2 eQ d.ag.ls.length (q6 aW.cells d.ag.ls)) (qj:d.ag.ls.length≤eT∧d.ag.ls.length≤9223372036854775807) (ay:s8 aA.abs N=a.aa.ak.ls) (aN:s8 aT.abs ag=a.aa.aJ.ls) (Z:s8 bz.abs I=a.au.ls) (aO:s8 ae.abs ah=a.bH.af.ls) (aQ:s8 ae.abs aj=a.bf.af.ls) (aR:s8 ae.abs ak=a.bi.af.ls) (aU:s8 ae.abs au=a.bn.af.ls) (aX:s8 ae.abs av=a.aZ.af.ls) (uV:a.aa.ag.ls.length≤1000∧a.aa.ak.ls.length≤1000∧a.aa.aJ.ls.length≤1000∧a.au.ls.length≤1000∧p0.bq.ls.length≤100000) (uW:1≤p1∧p1≤4) (uX:d.aF.ls.length≤24∧d.ag.ls.length≤1000∧d.ah.ls.length≤1000∧jZ d.aO) (hr:dU p0 p1 d a=(r0,r1)):
    Calls Tryz.prog 90 #[vP g0 0,vI p1, .agg (gD d.aG d.aH d.eP d.aN d.cZ d.eu d.aO d.ay d.aU d.dW d.aX d.aL d.dH d.bZ d.xN d.d9 d.bT.bG d.bT.bU dA iV dB eH iW eO eQ iX eT).toArray] w (dR fun v w'=> ∃ eX eY dI fe fq fu fA dJ fD fE dL fG fH dO fJ fK dP fM fO dQ fP fQ dS fT fU dV fV fZ dW,v= .tuple #[]∧Own w D w' [blk g0 [vP g 0, .slice eX r0.bq.ls.length eY] 98,row eX r0.bq.ls.length eY (q6 bC.cells dI) 42 21,sepL (q6 bC.own dI),mK g r1 fe r1.aa.ag.ls.length fq fu fA fD fE fG fH fJ fK fM fO fP fQ fT fU fV fZ,row fe r1.aa.ag.ls.length fq (q6 aW.cells r1.aa.ag.ls) 89 2,row fu r1.aa.ak.ls.length fA (q6 aA.cells dJ) 60 5,sepL (q6 aA.own dJ),row fD r1.aa.aJ.ls.length fE (q6 aT.cells dL) 56 4,sepL (q6 aT.own dL),row fG r1.au.ls.length fH (q6 bz.cells dO) 107 9,sepL (q6 bz.own dO),row fJ r1.bH.af.ls.length fK (q6 ae.cells dP) 149 3,sepL (q6 ae.own dP),row fM r1.bf.af.ls.length fO (q6 ae.cells dQ) 149 3,sepL (q6 ae.own dQ),row fP r1.bi.af.ls.length fQ (q6 ae.cells dS) 149 3,sepL (q6 ae.own dS),row fT r1.bn.af.ls.length fU (q6 ae.cells dV) 149 3,sepL (q6 ae.own dV),row fV r1.aZ.af.ls.length fZ (q6 ae.cells dW) 149 3,sepL (q6 ae.own dW)]∧(s8 bC.abs dI=r0.bq.ls)∧(s8 aA.abs dJ=r1.aa.ak.ls)∧(s8 aT.abs dL=r1.aa.aJ.ls)∧(s8 bz.abs dO=r1.au.ls)∧(s8 ae.abs dP=r1.bH.af.ls)∧(s8 ae.abs dQ=r1.bf.af.ls)∧(s8 ae.abs dS=r1.bi.af.ls)∧(s8 ae.abs dV=r1.bn.af.ls)∧(s8 ae.abs dW=r1.aZ.af.ls)):=by
 subst jm jq jr
 have p8:=az bG
 have p9:=az jo
 have j5:=az ay
 have j6:=az aN
 have kg:=az Z
 have ko:=az aO
 have kr:=az aQ
 have ku:=az aR
 have kv:=az aU
 have kw:=az aX
 have qm:=H.rowC (i:=1) rfl
 have ky:=H.rowC (i:=4) rfl
 have kz:=H.rowC (i:=5) rfl
 have kC:=H.rowC (i:=7) rfl
 have kD:=H.rowC (i:=9) rfl
 have kE:=H.rowC (i:=11) rfl
 have kF:=H.rowC (i:=13) rfl
 have kG:=H.rowC (i:=15) rfl
 have kH:=H.rowC (i:=17) rfl
 have kI:=H.rowC (i:=19) rfl
 refine cb Tryz.func90 ?_
 refine sr ?_
 refine dM (gT d dA dB eH eO eQ eT) 42 H ?_
 intro dX uY qo
 refine nt (FW ?_)
 refine oL 22 [] (Gb Gj) qo ?_
 intro uZ qw
 refine qv 0 rfl rfl (qp g0 0 1 rfl (qp g0 0 2 rfl (ql 3 rfl 1 O2 rfl rfl rfl (qv 5 rfl rfl (qp g0 0 6 rfl (qp g0 0 7 rfl (ql 8 rfl 1 O2 rfl rfl rfl ?_)))))))
 have qx:=qw.pf [4]
 obtain⟨h,cu⟩:∃ q,gP a=q:=⟨_,rfl⟩
 obtain⟨u6,kJ,tX,kK,tY⟩:=Gq qx
 refine qd 4 rfl (Gg Tryz.call126 rfl (qh _ _ g a n p r j C E J G O P Q S T U V W X Y h kJ cu) ?_)
 rintro _ u7 ⟨rfl,kL,iY⟩
 have qy:=kK _ _ kL
 replace iY:h≤18446744073709551615:=iY
 have kM:=qy.pf [1,2,3,4]
 refine⟨.inr ⟨_,kM⟩, ?_⟩
 have bO:=kM.pf [4]
 have tZ:=bO.rowC (i:=6) rfl
 have uf:=bO.rowC (i:=10) rfl
 obtain⟨dY,cz⟩:∃ q,gG a=q:=⟨_,rfl⟩
 obtain⟨ve,kN,ug,kP,bn⟩:=Gq bO
 refine qd 9 rfl (Gg Tryz.call108 rfl (om _ _ g a n p r j N C E J G I O P Q S T U V W X Y dY kN ay (bn _ 5 _ rfl aP) (show a.aa.ak.ls.length≤j∧a.aa.ak.ls.length≤9223372036854775807 from by omega) (fun x9 h9=>⟨bn _ 6 _ rfl (ax (P2.2 ⟨x9,h9,b1⟩) aP),aY (φ:=fun _=>_) bO (i:=7) rfl (ax (P2.2 ⟨x9,h9,b1⟩) aV)⟩) Z (bn _ 9 _ rfl aP) (show a.au.ls.length≤G∧a.au.ls.length≤9223372036854775807 from by omega) (fun x9 h9=>⟨bn _ 10 _ rfl (ax (P2.2 ⟨x9,h9,b1⟩) aP),aY (φ:=fun _=>_) bO (i:=11) rfl (ax (P2.2 ⟨x9,h9,b1⟩) aV),bn _ 10 _ rfl (ax (P2.2 ⟨x9,h9, .tail _ b1⟩) aP),aY (φ:=fun _=>_) bO (i:=11) rfl (ax (P2.2 ⟨x9,h9, .tail _ b1⟩) aV),(fun y1 k1=>⟨bn _ 10 _ rfl (ax (P2.2 ⟨x9,h9, .tail _ b4⟩) (ax (P2.2 ⟨y1,k1,b1⟩) aP)),aY (φ:=fun _=>_) bO (i:=11) rfl (ax (P2.2 ⟨x9,h9, .tail _ b4⟩) (ax (P2.2 ⟨y1,k1,b1⟩) aV)),bn _ 10 _ rfl (ax (P2.2 ⟨x9,h9, .tail _ b4⟩) (ax (P2.2 ⟨y1,k1, .tail _ b1⟩) aP)),aY (φ:=fun _=>_) bO (i:=11) rfl (ax (P2.2 ⟨x9,h9, .tail _ b4⟩) (ax (P2.2 ⟨y1,k1, .tail _ b1⟩) aV))⟩),bn _ 10 _ rfl (ax (P2.2 ⟨x9,h9, .tail _ b2⟩) aP),aY (φ:=fun _=>_) bO (i:=11) rfl (ax (P2.2 ⟨x9,h9, .tail _ b2⟩) aV),bn _ 10 _ rfl (ax (P2.2 ⟨x9,h9, .tail _ b3⟩) aP),aY (φ:=fun _=>_) bO (i:=11) rfl (ax (P2.2 ⟨x9,h9, .tail _ b3⟩) aV),(fun y1 k1=>⟨bn _ 10 _ rfl (ax (P2.2 ⟨x9,h9, .tail _ b5⟩) (ax (P2.2 ⟨y1,k1,b1⟩) aP)),aY (φ:=fun _=>_) bO (i:=11) rfl (ax (P2.2 ⟨x9,h9, .tail _ b5⟩) (ax (P2.2 ⟨y1,k1,b1⟩) aV)),(fun y2 k2=>⟨bn _ 10 _ rfl (ax (P2.2 ⟨x9,h9, .tail _ b5⟩) (ax (P2.2 ⟨y1,k1, .tail _ b1⟩) (ax (P2.2 ⟨y2,k2,b1⟩) aP))),aY (φ:=fun _=>_) bO (i:=11) rfl (ax (P2.2 ⟨x9,h9, .tail _ b5⟩) (ax (P2.2 ⟨y1,k1, .tail _ b1⟩) (ax (P2.2 ⟨y2,k2,b1⟩) aV)))⟩)⟩)⟩) e8 cz) ?_)
 rintro _ vg ⟨rfl,kR⟩
 have qz:=kP _ _ kR
 have iR:=qz.pf [1,2,3,4]
 refine⟨.inr ⟨_,iR⟩, ?_⟩
 refine qa 10 rfl rfl (qa 11 rfl rfl (qn (FY (sr (Mz rfl (Kz (vP g0 0) (Kz (vP g0 0) (Lz (vP g 0) iR 1 O2 (Kz (vP g 0) (Kz (vP g 7) (Lz (vU a.bP) iR 4 E1 (fw (.int .u64 ((D2 (D3.wrap (((a.bP:Nat):Int)+1)):Nat):Int)) (FX (e:=D3.wrap (((a.bP:Nat):Int)+1)) yk (fC _)) (Kz (vP g 0) (Kz (vP g 7) ?_))))))))))))))
 have qA:=iR.pf [4]
 refine dN [.int .u64 ((D2 (D3.wrap (((a.bP:Nat):Int)+1)):Nat):Int)] 7 qA Tryz.sizeOf28 ?_
 intro vk qB
 refine nt (FW ?_)
 refine oL 22 [] (Gb Gj) qB ?_
 intro vo qC
 refine qv 0 rfl rfl (qp g0 0 1 rfl (qp g0 0 2 rfl (ql 3 rfl 2 O2 rfl rfl rfl (qp g 0 4 rfl (qp g 0 5 rfl (qp g 4 6 rfl (ql 7 rfl 0 Tryz.isAgg29 rfl rfl rfl (qp dX 18 8 rfl (ql 9 rfl 1 P6 rfl rfl rfl ?_)))))))))
 obtain⟨⟨b,dZ⟩,bJ⟩:∃ q:(List gq) × Int,lQ a.aa.ag.ls d.aF.ls=q:=⟨_,rfl⟩
 obtain⟨vv,kS,kT,kU,kV⟩:=F3 qC
 refine qd 10 rfl (Gg Tryz.call127 rfl (zZ _ _ n a.aa.ag.ls.length p a.aa.ag.ls dA d.aF.ls.length dB d.aF.ls b dZ kS (kV _ 5 _ rfl aP) rfl e6 (kT _ eU) rfl e6 bJ) ?_)
 rintro _ vw ⟨af,aJ,bg,rfl,kW,bu⟩
 have kX:=kU _ _ kW
 have uh:=az bu
 have ui:=kX.rowC (i:=0) rfl
 have kY:∀ x ∈ b,x.aF.ls.length≤24024:=Bi bJ e6 e6
 have uj:b.length≤5:=Bg bJ
 have kZ:=kX.pb [0,1]
 refine⟨.inr ⟨_,kZ⟩, ?_⟩
 refine qv 11 rfl rfl (qk (.slice af b.length aJ) 12 rfl (qk (vI dZ) 13 rfl (qa 14 rfl rfl (qa 15 rfl rfl (qn (FY (FW ?_)))))))
 refine oL 24 [] (Gb Gj) kZ ?_
 intro vz dw
 refine qv 0 rfl rfl (qp g0 0 1 rfl (qp g0 0 2 rfl (ql 3 rfl 2 O2 rfl rfl rfl (qp g 0 4 rfl (qp g 8 5 rfl (ql 6 rfl 0 P0 rfl rfl rfl (qk (vJ a.au.ls.length) 7 rfl (qk (.bool (decide (((a.au.ls.length:Nat):Int) ≥ 6))) 8 rfl (qv 9 rfl rfl ?_)))))))))
 by_cases l:((a.au.ls.length:Nat):Int) ≥ 6
 refine F5 (rs:= []) 10 rfl rfl rfl (dT l) e7 (F5 (rs:= []) 11 rfl rfl rfl (dT l) e7 (F5 (rs:= []) 12 rfl rfl rfl (dT l) e7 (F5 (rs:= []) 13 rfl rfl rfl (dT l) e7 (F5 (rs:= []) 14 rfl rfl rfl (dT l) e7 (F5 (rs:= []) 15 rfl rfl rfl (dT l) e7 (F5 (rs:= []) 16 rfl rfl rfl (dT l) e7 (F5 (rs:= []) 17 rfl rfl rfl (dT l) e7 (F5 (rs:= []) 18 rfl rfl rfl (dT l) e7 (F5 (rs:= []) 19 rfl rfl rfl (dT l) e7 (F5 (rs:= []) 20 rfl rfl rfl (dT l) e7 (F5 (rs:= []) 21 rfl rfl rfl (dT l) e7 (F5 (rs:= []) 22 rfl rfl rfl (dT l) e7 (F5 (rs:= []) 23 rfl rfl rfl (dT l) e7 (F5 (rs:= []) 24 rfl rfl rfl (dT l) e7 (F5 (rs:= []) 25 rfl rfl rfl (dT l) e7 (F5 (rs:= []) 26 rfl rfl rfl (dT l) e7 (F5 (rs:= []) 27 rfl rfl rfl (dT l) e7 (F5 (rs:= []) 28 rfl rfl rfl (dT l) e7 (qt (v:= .bool true) 29 rfl (fun _ _=>Gd rfl (dT l) rfl) (qv 30 rfl rfl (F5 (rs:= []) 31 rfl rfl rfl rfl e7 (F5 (rs:= []) 32 rfl rfl rfl rfl e7 (F5 (rs:= []) 33 rfl rfl rfl rfl e7 (F5 (rs:= []) 34 rfl rfl rfl rfl e7 (qt (v:= .bool true) 35 rfl (fun _ _=>Gd rfl rfl rfl) (qa 36 rfl rfl (qn (FY (FW (sr (Mz rfl (Mz rfl (Sz rfl (Sz rfl (fw (.bool true) (Gd rfl rfl rfl) (nt (jt ?_)))))))))))))))))))))))))))))))))))))
 refine sr (Mz rfl (Mz rfl (Kz (vP dX 6) (Lz (vU d.aO) dw 1 E1 ?_))))
 have qD:=dw.px [2,3,4] [] [1,5,6,7,8,9,10,11,22,23]
 obtain⟨⟨jv,bq⟩,iZ⟩:∃ q:bE × aB,dh p0 p1 d.aO 2 ([]) (aB.mk a.aa (D2 (D3.wrap (((a.bP:Nat):Int)+1))) (E4 a.au.ls) a.bH a.bf a.bi a.bn a.aZ a.dI a.dz a.dB a.dA a.dC)=q:=⟨_,rfl⟩
 obtain⟨vB,lc,uk,lg,ul⟩:=GR qD
 refine cl P7 (jP _ _ g0 p0 bP bQ bH p1 d.aO 2 none 0 0 [] ([]) g (aB.mk a.aa (D2 (D3.wrap (((a.bP:Nat):Int)+1))) (E4 a.au.ls) a.bH a.bf a.bi a.bn a.aZ a.dI a.dz a.dB a.dA a.dC) n p r j C E J G O P ah Q S aj T U ak V W au X Y av jv bq lc bG rfl (fun _ _=>bA.nil _ _ _) (fun _ h9=>absurd h9 B3) rfl i8 g6 aO aQ aR aU aX e8 g3 g3 i2 iZ) ?_
 rintro _ vC ⟨qE,qF,qG,lh,ll,lm,lq,lu,lv,lw,lC,lD,lF,lG,lH,lI,lJ,lK,rfl,lL,ja,gp,gu,gy,gz,gF,gH⟩
 have d9:=lg _ _ lL
 have qH:=az ja
 have qI:=az gp
 have qJ:=az gu
 have qK:=az gy
 have qL:=az gz
 have qM:=az gF
 have qN:=d9.rowC (i:=1) rfl
 have qO:=d9.rowC (i:=4) rfl
 have qP:=d9.rowC (i:=6) rfl
 have qQ:=d9.rowC (i:=8) rfl
 have qU:=d9.rowC (i:=10) rfl
 have qV:=d9.rowC (i:=12) rfl
 replace gH:jv.bq.ls.length=p0.bq.ls.length+1:=gH
 refine nt (rt (tR (Fin.res (res0 rfl) ?_)))
 have lM:=d9.px [] [14,22,23] [4,5,6,7,8,9,10,11,12,13]
 obtain⟨rfl,rfl⟩:=gm (hr.symm.trans (show _=(jv,aB.mk (di.mk bq.aa.av bq.aa.ay bq.aa.aX bq.aa.aL (E4 a.aa.ag.ls) (E4 a.aa.ak.ls) (E4 a.aa.aJ.ls)) bq.bP (E4 a.au.ls) bq.bH bq.bf bq.bi bq.bn bq.aZ bq.dI bq.dz bq.dB bq.dA bq.dC) from et (ai cu) (et (ai cz) (et (ai bJ) (et (ip l) (ai iZ))))))
 exact⟨qE,qF,qG,n,p,r,j,N,C,E,ag,J,G,I,lh,ll,lm,lq,lu,lv,lw,lC,lD,lF,lG,lH,lI,lJ,lK,rfl,lM,ja,ay,aN,Z,gp,gu,gy,gz,gF⟩
 refine F8 (v:=vP g0 0) (rs:= []) 10 rfl rfl rfl (dF l) e7 (fun _ _=>F9 rfl) (F8 (v:=vP g0 0) (rs:= []) 11 rfl rfl rfl (dF l) e7 (fun _ _=>yk) (F8 (v:=vP g0 0) (rs:= []) 12 rfl rfl rfl (dF l) e7 (fun _ _=>yk) (F8 (v:=vP g 0) (rs:= []) 13 rfl rfl rfl (dF l) e7 (fun _ ⟨_,H9⟩=>F7 rfl (bX.one O2 (jL.of (H9.cls (i:=2) rfl) rfl))) (F8 (v:=vP g 0) (rs:= []) 14 rfl rfl rfl (dF l) e7 (fun _ _=>yk) (F8 (v:=vP g 8) (rs:= []) 15 rfl rfl rfl (dF l) e7 (fun _ _=>yk) (F8 (v:= .slice J a.au.ls.length G) (rs:= []) 16 rfl rfl rfl (dF l) e7 (fun _ ⟨_,H9⟩=>F7 rfl (bX.one P0 (jL.of (H9.cls (i:=0) rfl) rfl))) (F8 (v:=vJ a.au.ls.length) (rs:= []) 17 rfl rfl rfl (dF l) e7 (fun _ _=>yk) (F8 (v:=vP g0 0) (rs:= []) 18 rfl rfl rfl (dF l) e7 (fun _ _=>F9 rfl) (F8 (v:=vP g0 0) (rs:= []) 19 rfl rfl rfl (dF l) e7 (fun _ _=>yk) (F8 (v:=vP g0 0) (rs:= []) 20 rfl rfl rfl (dF l) e7 (fun _ _=>yk) (F8 (v:=vP g 0) (rs:= []) 21 rfl rfl rfl (dF l) e7 (fun _ ⟨_,H9⟩=>F7 rfl (bX.one O2 (jL.of (H9.cls (i:=2) rfl) rfl))) (F8 (v:=vP g 0) (rs:= []) 22 rfl rfl rfl (dF l) e7 (fun _ _=>yk) (F8 (v:=vP g 0) (rs:= []) 23 rfl rfl rfl (dF l) e7 (fun _ _=>yk) (F8 (v:=vP g 5) (rs:= []) 24 rfl rfl rfl (dF l) e7 (fun _ _=>yk) (F8 (v:= .slice r a.aa.ak.ls.length j) (rs:= []) 25 rfl rfl rfl (dF l) e7 (fun _ ⟨_,H9⟩=>F7 rfl (bX.one Tryz.isAgg30 (jL.of (H9.cls (i:=0) rfl) rfl))) (F8 (v:=vJ a.aa.ak.ls.length) (rs:= []) 26 rfl rfl rfl (dF l) e7 (fun _ _=>yk) (F8 (v:=vJ (a.au.ls.length+a.aa.ak.ls.length)) (rs:= []) 27 rfl rfl rfl (dF l) e7 (fun _ _=>FX (e:=C7.wrap (((a.au.ls.length:Nat):Int)+((a.aa.ak.ls.length:Nat):Int))) yk f1) (F8 (v:= .bool (decide (((a.au.ls.length+a.aa.ak.ls.length:Nat):Int) ≥ 8))) (rs:= []) 28 rfl rfl rfl (dF l) e7 (fun _ _=>yk) (qt (v:= .bool (decide (((a.au.ls.length+a.aa.ak.ls.length:Nat):Int) ≥ 8))) 29 rfl (fun _ _=>FZ rfl (dF l) rfl) (qv 30 rfl rfl ?_))))))))))))))))))))
 by_cases aL:((a.au.ls.length+a.aa.ak.ls.length:Nat):Int) ≥ 8
 refine F5 (rs:= []) 31 rfl rfl rfl (dT aL) e7 (F5 (rs:= []) 32 rfl rfl rfl (dT aL) e7 (F5 (rs:= []) 33 rfl rfl rfl (dT aL) e7 (F5 (rs:= []) 34 rfl rfl rfl (dT aL) e7 (qt (v:= .bool true) 35 rfl (fun _ _=>Gd rfl (dT aL) rfl) (qa 36 rfl rfl (qn (FY (FW (sr (Mz rfl (Mz rfl (Sz rfl (Sz rfl (fw (.bool true) (Gd rfl rfl rfl) (nt (jt (sr (Mz rfl (Mz rfl (Kz (vP dX 6) (Lz (vU d.aO) dw 1 E1 ?_)))))))))))))))))))))
 have lN:=dw.px [2,3,4] [] [1,5,6,7,8,9,10,11,22,23]
 obtain⟨⟨gI,aD⟩,gJ⟩:∃ q:bE × aB,dh p0 p1 d.aO 2 ([]) (aB.mk a.aa (D2 (D3.wrap (((a.bP:Nat):Int)+1))) (E4 a.au.ls) a.bH a.bf a.bi a.bn a.aZ a.dI a.dz a.dB a.dA a.dC)=q:=⟨_,rfl⟩
 obtain⟨um,jy,qW,jA,qX⟩:=GR lN
 refine cl P7 (jP _ _ g0 p0 bP bQ bH p1 d.aO 2 none 0 0 [] ([]) g (aB.mk a.aa (D2 (D3.wrap (((a.bP:Nat):Int)+1))) (E4 a.au.ls) a.bH a.bf a.bi a.bn a.aZ a.dI a.dz a.dB a.dA a.dC) n p r j C E J G O P ah Q S aj T U ak V W au X Y av gI aD jy bG rfl (fun _ _=>bA.nil _ _ _) (fun _ h9=>absurd h9 B3) rfl i8 g6 aO aQ aR aU aX e8 g3 g3 i2 gJ) ?_
 rintro _ uo ⟨lS,lT,lU,lV,lW,lX,lY,lZ,l5,l6,l7,l8,l9,ma,mf,mg,mh,mi,rfl,jB,gK,gL,gM,gN,gQ,gU,gV⟩
 have bR:=jA _ _ jB
 have qY:=az gK
 have qZ:=az gL
 have q8:=az gM
 have q9:=az gN
 have rq:=az gQ
 have ru:=az gU
 have ry:=bR.rowC (i:=1) rfl
 have rz:=bR.rowC (i:=4) rfl
 have rA:=bR.rowC (i:=6) rfl
 have rC:=bR.rowC (i:=8) rfl
 have rD:=bR.rowC (i:=10) rfl
 have rE:=bR.rowC (i:=12) rfl
 replace gV:gI.bq.ls.length=p0.bq.ls.length+1:=gV
 refine nt (rt (tR (Fin.res (res0 rfl) ?_)))
 have mo:=bR.px [] [14,22,23] [4,5,6,7,8,9,10,11,12,13]
 obtain⟨rfl,rfl⟩:=gm (hr.symm.trans (show _=(gI,aB.mk (di.mk aD.aa.av aD.aa.ay aD.aa.aX aD.aa.aL (E4 a.aa.ag.ls) (E4 a.aa.ak.ls) (E4 a.aa.aJ.ls)) aD.bP (E4 a.au.ls) aD.bH aD.bf aD.bi aD.bn aD.aZ aD.dI aD.dz aD.dB aD.dA aD.dC) from et (ai cu) (et (ai cz) (et (ai bJ) (et (iN l) (et (ip aL) (ai gJ)))))))
 exact⟨lS,lT,lU,n,p,r,j,N,C,E,ag,J,G,I,lV,lW,lX,lY,lZ,l5,l6,l7,l8,l9,ma,mf,mg,mh,mi,rfl,mo,gK,ay,aN,Z,gL,gM,gN,gQ,gU⟩
 refine F8 (v:=vU h) (rs:= []) 31 rfl rfl rfl (dF aL) e7 (fun _ _=>F9 rfl) (F8 (v:=vU dY) (rs:= []) 32 rfl rfl rfl (dF aL) e7 (fun _ _=>F9 rfl) (F8 (v:= .int .u64 ((D2 (D3.wrap (((h:Nat):Int) - ((dY:Nat):Int))):Nat):Int)) (rs:= []) 33 rfl rfl rfl (dF aL) e7 (fun _ _=>FX (e:=D3.wrap (((h:Nat):Int) - ((dY:Nat):Int))) yk (fC _)) (F8 (v:= .bool (decide (((D2 (D3.wrap (((h:Nat):Int) - ((dY:Nat):Int))):Nat):Int) ≥ 64))) (rs:= []) 34 rfl rfl rfl (dF aL) e7 (fun _ _=>yk) (qt (v:= .bool (decide (((D2 (D3.wrap (((h:Nat):Int) - ((dY:Nat):Int))):Nat):Int) ≥ 64))) 35 rfl (fun _ _=>FZ rfl (dF aL) rfl) (qa 36 rfl rfl (qn (FY (FW (sr (Mz rfl (Mz rfl ?_)))))))))))
 by_cases bB:((D2 (D3.wrap (((h:Nat):Int) - ((dY:Nat):Int))):Nat):Int) ≥ 64
 refine Sz (dT bB) (Sz (dT bB) (fw (.bool true) (Gd rfl (dT bB) rfl) (nt (jt (sr (Mz rfl (Mz rfl (Kz (vP dX 6) (Lz (vU d.aO) dw 1 E1 ?_)))))))))
 have mq:=dw.px [2,3,4] [] [1,5,6,7,8,9,10,11,22,23]
 obtain⟨⟨gW,aF⟩,gX⟩:∃ q:bE × aB,dh p0 p1 d.aO 2 ([]) (aB.mk a.aa (D2 (D3.wrap (((a.bP:Nat):Int)+1))) (E4 a.au.ls) a.bH a.bf a.bi a.bn a.aZ a.dI a.dz a.dB a.dA a.dC)=q:=⟨_,rfl⟩
 obtain⟨uq,jC,rF,jD,rG⟩:=GR mq
 refine cl P7 (jP _ _ g0 p0 bP bQ bH p1 d.aO 2 none 0 0 [] ([]) g (aB.mk a.aa (D2 (D3.wrap (((a.bP:Nat):Int)+1))) (E4 a.au.ls) a.bH a.bf a.bi a.bn a.aZ a.dI a.dz a.dB a.dA a.dC) n p r j C E J G O P ah Q S aj T U ak V W au X Y av gW aF jC bG rfl (fun _ _=>bA.nil _ _ _) (fun _ h9=>absurd h9 B3) rfl i8 g6 aO aQ aR aU aX e8 g3 g3 i2 gX) ?_
 rintro _ ut ⟨mr,mE,mF,mG,mH,mI,mJ,mM,mO,mP,mQ,mR,mU,mV,mW,mX,mY,mZ,rfl,jE,gY,gZ,ib,ic,ig,ik,iq⟩
 have bS:=jD _ _ jE
 have rH:=az gY
 have rJ:=az gZ
 have rM:=az ib
 have rO:=az ic
 have rP:=az ig
 have rQ:=az ik
 have rR:=bS.rowC (i:=1) rfl
 have rT:=bS.rowC (i:=4) rfl
 have rU:=bS.rowC (i:=6) rfl
 have rV:=bS.rowC (i:=8) rfl
 have rW:=bS.rowC (i:=10) rfl
 have rX:=bS.rowC (i:=12) rfl
 replace iq:gW.bq.ls.length=p0.bq.ls.length+1:=iq
 refine nt (rt (tR (Fin.res (res0 rfl) ?_)))
 have ng:=bS.px [] [14,22,23] [4,5,6,7,8,9,10,11,12,13]
 obtain⟨rfl,rfl⟩:=gm (hr.symm.trans (show _=(gW,aB.mk (di.mk aF.aa.av aF.aa.ay aF.aa.aX aF.aa.aL (E4 a.aa.ag.ls) (E4 a.aa.ak.ls) (E4 a.aa.aJ.ls)) aF.bP (E4 a.au.ls) aF.bH aF.bf aF.bi aF.bn aF.aZ aF.dI aF.dz aF.dB aF.dA aF.dC) from et (ai cu) (et (ai cz) (et (ai bJ) (et (iN l) (et (iN aL) (et (ip bB) (ai gX))))))))
 exact⟨mr,mE,mF,n,p,r,j,N,C,E,ag,J,G,I,mG,mH,mI,mJ,mM,mO,mP,mQ,mR,mU,mV,mW,mX,mY,mZ,rfl,ng,gY,ay,aN,Z,gZ,ib,ic,ig,ik⟩
 refine gw (vI dZ) (dF bB) (F9 rfl) (gw (.bool (decide (¬ (dZ=0)))) (dF bB) (Gm (e:= !(decide (dZ=0))) yk decide_not.symm) (fw (.bool (decide (¬ (dZ=0)))) (FZ rfl (dF bB) rfl) (nt ?_)))
 by_cases eD:dZ=0
 refine jF (dF (JR eD)) (sk (sr (Mz rfl (Kz (vJ b.length) (An rfl (FW ?_))))))
 refine oL 24 [] (Gb Gj) dw ?_
 intro uu ni
 refine qv 0 rfl rfl (qv 1 rfl rfl (qp dX 6 2 rfl (ql 3 rfl 1 E1 rfl rfl rfl (qv 4 rfl rfl (qp g0 0 5 rfl (qp g0 0 6 rfl (ql 7 rfl 2 O2 rfl rfl rfl (qp g 0 8 rfl (qp g 0 9 rfl (qp g 3 10 rfl (ql 11 rfl 0 E1 rfl rfl rfl (qp dX 18 12 rfl (ql 13 rfl 1 P6 rfl rfl rfl (qv 15 rfl rfl (qv 16 rfl rfl (qv 18 rfl rfl ?_))))))))))))))))
 have rY:s2 (s0 b.length false)=b.length:=H6
 have rZ:s2 (s0 b.length (H3 none 0 []:bK))=b.length:=H6
 have r9:s2 (s0 b.length (E4 []:Ll aS))=b.length:=H6
 refine Fb ⟨14,_,_,_,_,_,Option Addr × Nat,fun g9=> .slice g9.1 d.aF.ls.length g9.2,fun _=>True,fun g9=> [row g9.1 d.aF.ls.length g9.2 (q6 bv.cells d.aF.ls) 72 6]⟩ ⟨17,_,_,_,_,_,Option Addr,fun g9=> .slice g9 b.length b.length,fun _=>True,fun g9=> [row g9 b.length b.length (q6 eL (s0 b.length false)) 4 1]⟩ ⟨19,_,_,_,_,_,Option Addr,fun g9=> .slice g9 b.length b.length,fun _=>True,fun g9=> [sepL (q6 bK.own (s0 b.length (H3 none 0 []:bK))),row g9 b.length b.length (q6 (GD (β:=ae)) (s0 b.length (H3 none 0 []:bK))) 40 1]⟩ ⟨21,_,_,_,_,_,Nat,fun g9=>vP g9 0,fun _=>True,fun g9=> [blk g9 (qR 0 0 0 0 none 0 0 none 0 0 none 0 0 none 0 0 0) 107]⟩ 20 24 ni ⟨⟨rfl,rfl,rfl, ?_⟩,⟨rfl,rfl,rfl, ?_⟩,⟨rfl,rfl,rfl, ?_⟩,⟨rfl,rfl,rfl, ?_⟩,trivial⟩ rfl ?_
 intro uw L' nk
 refine(GH (cs:=(qR 0 0 0 0 none 0 0 none 0 0 none 0 0 none 0 0 0)) (t:=107) nk rfl rfl (fun _=>by kernel_rfl) ?_)
 intro aM uy nu
 exact⟨aM,rfl,trivial,nu⟩
 intro uz L' ny
 obtain⟨uA,jG,jH,jI,si⟩:=F3 ny
 refine(Gg Tryz.call109 rfl (nz _ _ dA d.aF.ls.length dB d.aF.ls d.aF.ls jG (jH _ eU) rfl e6 rfl) ?_)
 rintro _ uB ⟨K,L,rfl,jJ⟩
 have nA:=jI _ _ jJ
 exact⟨(K,L),rfl,trivial,nA⟩
 intro uD L' nC
 refine(Ha (x0:=false) (z:= .bool false) (k:=b.length) (size:=1) (bytes:=1) ow f3 rfl Tryz.underlying104 e7 nC rfl rfl e6 (by unfold maxLen; omega) ?_)
 intro B uE nD
 exact⟨B,rfl,trivial,nD⟩
 intro uF L' nE
 refine(Ha (x0:=(H3 none 0 []:bK)) (z:= .slice none 0 0) (k:=b.length) (size:=1) (bytes:=24) rf f3 rfl Tryz.underlying105 e7 nE rfl rfl e6 (by unfold maxLen; omega) ?_)
 intro M uG nG
 have nH:=nG.free (R:=sepL (q6 bK.own (s0 b.length (H3 none 0 []:bK)))) (uC (CY (fB 149 3) (yK fun _ h9=>absurd h9 B3)))
 exact⟨M,rfl,trivial,nH⟩
 rintro ⟨K,L⟩ _ B _ M _
 refine⟨.agg (qR h p1 d.aO a.aa.aL K d.aF.ls.length L af b.length aJ B b.length b.length M b.length b.length 0).toArray,fun _=>yk, ?_⟩
 rintro aM _
 intro nI nJ
 have eF:Own w D nI (blk aM (qR 0 0 0 0 none 0 0 none 0 0 none 0 0 none 0 0 0) 107::sepL (q6 bK.own (s0 b.length (H3 none 0 []:bK)))::row M b.length b.length (q6 (GD (β:=ae)) (s0 b.length (H3 none 0 []:bK))) 40 1::row B b.length b.length (q6 eL (s0 b.length false)) 4 1::row K d.aF.ls.length L (q6 bv.cells d.aF.ls) 72 6::_):=nJ.flat.pf []
 have sj:=eF.rowC (i:=2) rfl
 have su:=eF.rowC (i:=3) rfl
 have sw:=eF.rowC (i:=4) rfl
 have nK:=eF.pb [0,1,2,3,4]
 have nL:=nK.pf [24]
 refine qe 22 rfl (Do.store (vs:=(qR h p1 d.aO a.aa.aL K d.aF.ls.length L af b.length aJ B b.length b.length M b.length b.length 0)) (o:=0) nL rfl rfl Tryz.sizeOf107 rfl rfl rfl rfl ?_)
 intro uH nM
 have jb:=nM.pb [0,25,26,27,28]
 refine⟨.inr ⟨_,jb⟩, ?_⟩
 refine qn (FY (FW ?_))
 have nN:=jb.px [] [1] []
 have ed:b.length=s2 (s0 b.length (E4 []:Ll aS)):=by first | omega | (simp only [H5]; done) | (simp only [H5,p5,s3,G0,p3,p4,H6]; omega)
 have nO:=nN.pf [23]
 have nP:=G7 7 ed nO
 have nQ:=nP.pf [25]
 have nR:=GI ed nQ
 have nS:=nR.pb [1,25,0,26,27]
 have ek:b.length=s2 (s0 b.length false):=by first | omega | (simp only [H5]; done) | (simp only [H5,p5,s3,G0,p3,p4,H6]; omega)
 have nT:=nS.pf [23]
 have nU:=G7 6 ek nT
 have nV:=nU.pf [26]
 have nW:=GI ek nV
 have nX:=nW.pb [1,25,26,0,27]
 have nY:=nX.pf [0,1,23]
 refine Cc [16] (Gb Gj) nY ?_
 intro uI nZ
 refine qv 0 rfl rfl (qp g0 0 1 rfl (qp g0 0 2 rfl (ql 3 rfl 1 O2 rfl rfl rfl (qv 4 rfl rfl (qp g0 0 5 rfl (qp g0 0 6 rfl (ql 7 rfl 1 O2 rfl rfl rfl (qp g 0 8 rfl (qp g 8 9 rfl (ql 10 rfl 0 P0 rfl rfl rfl (qt (v:= .agg (qR h p1 d.aO a.aa.aL K d.aF.ls.length L af b.length aJ B (s2 (s0 b.length false)) b.length M (s2 (s0 b.length (E4 []:Ll aS))) b.length 0).toArray) 11 rfl (fun _ ⟨_,H9⟩=>F7 rfl (Gf (cs:=(qR h p1 d.aO a.aa.aL K d.aF.ls.length L af b.length aJ B (s2 (s0 b.length false)) b.length M (s2 (s0 b.length (E4 []:Ll aS))) b.length 0)) Tryz.isAgg107 Tryz.sizeOf107 ((H9.cls (i:=2) rfl).lit (k:=0) (m:=9) rfl))) ?_)))))))))))
 refine qd 12 rfl (Hg (cs:=(qR h p1 d.aO a.aa.aL K d.aF.ls.length L af b.length aJ B (s2 (s0 b.length false)) b.length M (s2 (s0 b.length (E4 []:Ll aS))) b.length 0)) (t:=107) (sz:=9) (m:=1) nZ rfl rfl (fun _=>by kernel_rfl) rfl f3 ?_)
 intro jc uJ iw
 replace iw:=Gs (y:=row jc 1 1 (q6 bz.cells ([(bz.mk h p1 d.aO a.aa.aL (H3 K L d.aF.ls) (H3 af aJ bg) (H3 B b.length (s0 b.length false)) (H3 M b.length (s0 b.length (H3 none 0 []:bK))) 0)])) 107 9) (DK (fun z9 z8=>row jc 1 1 [vU h,vI p1,vU d.aO,vU a.aa.aL, .slice K d.aF.ls.length L, .slice af z9 aJ, .slice B (s2 (s0 b.length false)) b.length, .slice M z8 b.length,vI 0] 107 9) (az bu).symm (az (K3 (f:=bK.abs))).symm) iw
 have jd:=iw.pf [1,2,3]
 refine⟨.inr ⟨_,jd⟩, ?_⟩
 have je:=jd.pf [11,12,28,23,27,26,24,25]
 refine qd 13 rfl (Gt (k:=a.au.ls.length) (m:=1) (pu) je rfl rfl (iU Tryz.underlying79 (je.rds (i:=11) rfl) (fF bz.one ([(bz.mk h p1 d.aO a.aa.aL (H3 K L d.aF.ls) (H3 af aJ bg) (H3 B b.length (s0 b.length false)) (H3 M b.length (s0 b.length (H3 none 0 []:bK))) 0)]))) rfl e6 (s:=s2 (a.au.ls++ [(dD.mk h p1 d.aO a.aa.aL (E4 d.aF.ls) (E4 b) (E4 (s0 b.length false)) (E4 (s0 b.length (E4 []:Ll aS))) 0)])) f7 (r7).symm ?_)
 intro dG cB og oh
 have ol:=oh.pf [3]
 have oo:=GI (az bu).symm ol
 have oq:=oo.pf [5]
 have ou:=GI (n':=s2 (s0 b.length (H3 none 0 []:bK))) (az (K3 (f:=bK.abs))).symm oq
 have oz:=ou.pf [3,4,1,5,0,6,7]
 have oC:Own w D og (sepL (q6 bz.own (I++ [(bz.mk h p1 d.aO a.aa.aL (H3 K L d.aF.ls) (H3 af aJ bg) (H3 B b.length (s0 b.length false)) (H3 M b.length (s0 b.length (H3 none 0 []:bK))) 0)]))::_):=oz.sepAdd (L2:= [row K d.aF.ls.length L (q6 bv.cells d.aF.ls) 72 6,row af bg.length aJ (q6 bD.cells bg) 172 3,row B (s2 (s0 b.length false)) b.length (q6 eL (s0 b.length false)) 4 1,row M (s2 (s0 b.length (H3 none 0 []:bK))) b.length (q6 (GD (β:=ae)) (s0 b.length (H3 none 0 []:bK))) 40 1,sepL (q6 bD.own bg),sepL (q6 bK.own (s0 b.length (H3 none 0 []:bK)))]) (r7 (f:=bz.own) (xs:=I) (ys:= [(bz.mk h p1 d.aO a.aa.aL (H3 K L d.aF.ls) (H3 af aJ bg) (H3 B b.length (s0 b.length false)) (H3 M b.length (s0 b.length (H3 none 0 []:bK))) 0)])).symm
 have sD:s2 (a.au.ls++ [(dD.mk h p1 d.aO a.aa.aL (E4 d.aF.ls) (E4 b) (E4 (s0 b.length false)) (E4 (s0 b.length (E4 []:Ll aS))) 0)])=a.au.ls.length+1:=by simp only [p5,s3,G0]
 have sF:=az (oG (es:= [(bz.mk h p1 d.aO a.aa.aL (H3 K L d.aF.ls) (H3 af aJ bg) (H3 B b.length (s0 b.length false)) (H3 M b.length (s0 b.length (H3 none 0 []:bK))) 0)]) (ms:= [(dD.mk h p1 d.aO a.aa.aL (E4 d.aF.ls) (E4 b) (E4 (s0 b.length false)) (E4 (s0 b.length (E4 []:Ll aS))) 0)]) Z (DK (fun z9 z8=> [dD.mk h p1 d.aO a.aa.aL (E4 d.aF.ls) (E4 z9) (E4 (s0 b.length false)) (E4 z8) 0]) bu (K3 (f:=bK.abs))))
 have jf:=oC.pf [2,3,4]
 refine⟨.inr ⟨_,jf⟩, ?_⟩
 refine qp g 0 14 rfl (qp g 8 15 rfl ?_)
 refine qe 16 rfl (Do.store (vs:= [.slice dG (s2 (a.au.ls++ [(dD.mk h p1 d.aO a.aa.aL (E4 d.aF.ls) (E4 b) (E4 (s0 b.length false)) (E4 (s0 b.length (E4 []:Ll aS))) 0)])) cB]) (o:=8) jf rfl rfl Tryz.sizeOf79 rfl rfl rfl rfl ?_)
 intro uK oD
 refine⟨.inl e7, ?_⟩
 refine qn (FY ?_)
 have jg:=oD.px [] [5] []
 refine FV (Mz rfl ?_)
 refine WL.do rfl (Gg Tryz.call64 rfl ?_ (fun _ _ k=>k))
 refine cb Tryz.func64 ?_
 refine sr (Mz rfl (Kz (vP aM 0) (Kz (vP aM 5) (Lz (.slice af b.length aJ) jg 2 Tryz.isAgg103 (Kz (vJ b.length) (Mn rfl (bo ?_)))))))
 have oF:=jg.pb [5,6]
 obtain⟨oH,dx⟩:=AU fun (u:Nat) cK (cO:Nat) bT aG w'=>Own w D w' [blk g [vI a.aa.av,vU a.aa.ay,vU a.aa.aX,vU a.aa.aL, .slice n a.aa.ag.ls.length p, .slice r a.aa.ak.ls.length j, .slice C a.aa.aJ.ls.length E, .int .u64 ((D2 (D3.wrap (((a.bP:Nat):Int)+1)):Nat):Int), .slice dG (s2 (a.au.ls++ [(dD.mk h p1 d.aO a.aa.aL (E4 d.aF.ls) (E4 b) (E4 (s0 b.length false)) (E4 (s0 b.length (E4 []:Ll aS))) 0)])) cB, .bool a.bH.cB,vU a.bH.aM,vI a.bH.dw, .slice O a.bH.af.ls.length P, .bool a.bf.cB,vU a.bf.aM,vI a.bf.dw, .slice Q a.bf.af.ls.length S, .bool a.bi.cB,vU a.bi.aM,vI a.bi.dw, .slice T a.bi.af.ls.length U, .bool a.bn.cB,vU a.bn.aM,vI a.bn.dw, .slice V a.bn.af.ls.length W, .bool a.aZ.cB,vU a.aZ.aM,vI a.aZ.dw, .slice X a.aZ.af.ls.length Y,vU a.dI,vU a.dz,vU a.dB,vU a.dA,vU a.dC, .pointer none] 86,blk g0 [vP g 0, .slice cK aG.length cO] 98,blk aM (qR h p1 d.aO a.aa.aL K d.aF.ls.length L af b.length aJ B (s2 (s0 b.length false)) b.length M (s2 (s0 b.length (E4 []:Ll aS))) b.length 0) 107,sepL (q6 bz.own (I++ [(bz.mk h p1 d.aO a.aa.aL (H3 K L d.aF.ls) (H3 af aJ bg) (H3 B b.length (s0 b.length false)) (H3 M b.length (s0 b.length (H3 none 0 []:bK))) 0)])),row dG (s2 (a.au.ls++ [(dD.mk h p1 d.aO a.aa.aL (E4 d.aF.ls) (E4 b) (E4 (s0 b.length false)) (E4 (s0 b.length (E4 []:Ll aS))) 0)])) cB (q6 bz.cells (I++ [(bz.mk h p1 d.aO a.aa.aL (H3 K L d.aF.ls) (H3 af aJ bg) (H3 B b.length (s0 b.length false)) (H3 M b.length (s0 b.length (H3 none 0 []:bK))) 0)])) 107 9,row n a.aa.ag.ls.length p (q6 aW.cells a.aa.ag.ls) 89 2,row r a.aa.ak.ls.length j (q6 aA.cells N) 60 5,sepL (q6 aA.own N),row C a.aa.aJ.ls.length E (q6 aT.cells ag) 56 4,sepL (q6 aT.own ag),row O a.bH.af.ls.length P (q6 ae.cells ah) 149 3,sepL (q6 ae.own ah),row Q a.bf.af.ls.length S (q6 ae.cells aj) 149 3,sepL (q6 ae.own aj),row T a.bi.af.ls.length U (q6 ae.cells ak) 149 3,sepL (q6 ae.own ak),row V a.bn.af.ls.length W (q6 ae.cells au) 149 3,sepL (q6 ae.own au),row X a.aZ.af.ls.length Y (q6 ae.cells av) 149 3,sepL (q6 ae.own av),row cK aG.length cO (q6 bC.cells bT) 42 21,sepL (q6 bC.own bT)]∧s8 bC.abs bT=aG∧u≤b.length∧aG.length≤p0.bq.ls.length+u∧aG.length≤100000+u∧il p1 d a h b b 0 p0.bq.ls=il p1 d a h b (List.drop u b) u aG
 refine Wp.loop (fun i:Nat × (Option Addr) × Nat × (List bC) × (List bM)=> [(11,vJ i.1),(10,vJ b.length),(9, .slice af b.length aJ),(0,vP g0 0),(1,vP aM 0)]) oH (fun i=>b.length - i.1) (0,bP,bQ,bH,p0.bq.ls) ⟨rfl,rfl,rfl,rfl,rfl,trivial⟩ (dx.2 ⟨oF,by exact bG,e6,e6,e6,rfl⟩) ?_
 rintro ⟨u,cK,cO,bT,aG⟩ uL jN
 obtain⟨bU,dz,sG,sH,sI,eu⟩:=dx.1 jN
 have sJ:=az dz
 refine sr (Kz (.bool (decide (((u:Nat):Int) < ((b.length:Nat):Int)))) (nt (FW ?_)))
 by_cases jh:((u:Nat):Int) < ((b.length:Nat):Int)
 obtain⟨F,bV⟩:=dK (ls:=bg) (i:=u) bD.len f3 (show bA _ 3 af b.length (q6 bD.cells bg) from (aY bU (i:=3) rfl (ax (P2.2 ⟨_,v5 _ b1, .tail _ b1⟩) (fun w9 h9 a9 b9=>pg (az bu) (aP w9 h9 a9 b9))))) e9
 have iy:=fo bu bV
 have sK:F.aF.ls.length≤F.aF.c∧F.aF.ls.length≤9223372036854775807:=aY bU (i:=3) rfl (φ:=fun _=>_) (ax (P2.2 ⟨_,v5 _ b1, .tail _ b4⟩) (ax (P2.2 ⟨F,E0 bV,b1⟩) aV))
 have sM:F.aH.ls.length≤F.aH.c∧F.aH.ls.length≤9223372036854775807:=aY bU (i:=3) rfl (φ:=fun _=>_) (ax (P2.2 ⟨_,v5 _ b1, .tail _ b4⟩) (ax (P2.2 ⟨F,E0 bV, .tail _ b1⟩) aV))
 have sN:F.aF.ls.length≤24024:=kY _ (E0 iy)
 have iA:=drop_at iy
 refine jT (dT jh) (sk (FW (bo (sr (Mz rfl (fw (.pointer (some ⟨ab af,ao af+u *3,none⟩)) (F4 (tK) rfl rfl ((show bA _ 3 af b.length (q6 bD.cells bg) from (aY bU (i:=3) rfl (ax (P2.2 ⟨_,v5 _ b1, .tail _ b1⟩) (fun w9 h9 a9 b9=>pg (az bu) (aP w9 h9 a9 b9))))).addr (i:=u) e6) e6) (fw (.agg (bD.cells F).toArray) (F7 rfl (Gf (cs:=(bD.cells F)) Tryz.isAgg172 Tryz.sizeOf172 ((show bA _ 3 af b.length (q6 bD.cells bg) from (aY bU (i:=3) rfl (ax (P2.2 ⟨_,v5 _ b1, .tail _ b1⟩) (fun w9 h9 a9 b9=>pg (az bu) (aP w9 h9 a9 b9))))).elem bD.len bV f3))) ?_)))))))
 refine dM [vI 0, .slice none 0 0, .slice none 0 0] 172 bU ?_
 intro ji uM oM
 refine Az rfl ?_
 refine dN (bD.cells F) 0 oM Tryz.sizeOf172 ?_
 intro uN cZ
 refine ns (Mz rfl (Kz (vP aM 0) (Kz (vP aM 6) (Lz (.slice B (s2 (s0 b.length false)) b.length) cZ 3 Tryz.isAgg104 (Mz rfl ?_)))))
 obtain⟨iB,eB⟩:=dK (ls:=(s0 b.length false)) (i:=u) ow f3 (show bA _ 1 B (s2 (s0 b.length false)) (q6 eL (s0 b.length false)) from (aY cZ (i:=4) rfl (ax (P2.2 ⟨_,v5 _ b1, .tail _ b2⟩) aP))) e9
 refine fw (.pointer (some ⟨ab B,ao B+u *1,none⟩)) (F4 (xC) rfl rfl ((show bA _ 1 B (s2 (s0 b.length false)) (q6 eL (s0 b.length false)) from (aY cZ (i:=4) rfl (ax (P2.2 ⟨_,v5 _ b1, .tail _ b2⟩) aP))).addr (i:=u) e6) e6) (fw (.bool iB) (F7 rfl (bX.one Tryz.isAgg4 (((show bA _ 1 B (s2 (s0 b.length false)) (q6 eL (s0 b.length false)) from (aY cZ (i:=4) rfl (ax (P2.2 ⟨_,v5 _ b1, .tail _ b2⟩) aP))).elem ow eB f3).at_ (k:=0) rfl))) (Kz (.bool (!iB)) (nt ?_)))
 rcases JS (iB) with dH | dH
 refine jF (cn dH) (Gn (bN (FY (FV (fw (vJ (u+1)) (FX (e:=C7.wrap (((u:Nat):Int)+1)) yk f1) (Mz rfl (WL.nil ?_)))))))
 have oN:=cZ.px [] [0] []
 exact Gc (u+1,cK,cO,bT,aG) ⟨rfl,rfl,rfl,rfl,rfl,trivial⟩ (dx.2 ⟨oN,by exact dz,e6,e6,e6,et (eu) (et (congrArg (fun q=>il p1 d a h b q u aG) iA) (et (ai (bF eB)) (ip dH)))⟩) (by show b.length - (u+1) < b.length - u; omega)
 refine jT (cn dH) ?_
 refine oL 23 [19] (bL.block (Gb (Gb (bL.block Gj)))) cZ ?_
 intro uO oO
 refine qv 0 rfl rfl (qp ji 0 1 rfl (ql 2 rfl 0 Tryz.isAgg3 rfl rfl rfl (qv 3 rfl rfl (qp aM 0 4 rfl (qp aM 0 5 rfl (ql 6 rfl 3 E1 rfl rfl rfl (qv 7 rfl rfl (qp g0 0 8 rfl (qp g0 0 9 rfl (ql 10 rfl 2 O2 rfl rfl rfl (qv 12 rfl rfl (qp aM 0 13 rfl (qp aM 3 14 rfl (ql 15 rfl 3 E1 rfl rfl rfl (qp ji 1 16 rfl (ql 17 rfl 0 P6 rfl rfl rfl ?_))))))))))))))))
 have bf:=oO.pf [1]
 have sO:=bf.rowC (i:=7) rfl
 have sP:=bf.rowC (i:=5) rfl
 obtain⟨eG,iC⟩:∃ q,gG (aB.mk a.aa (D2 (D3.wrap (((a.bP:Nat):Int)+1))) (E4 (a.au.ls++ [(dD.mk h p1 d.aO a.aa.aL (E4 d.aF.ls) (E4 b) (E4 (s0 b.length false)) (E4 (s0 b.length (E4 []:Ll aS))) 0)])) a.bH a.bf a.bi a.bn a.aZ a.dI a.dz a.dB a.dA a.dC)=q:=⟨_,rfl⟩
 obtain⟨uP,jO,sQ,jQ,aK⟩:=Gq bf
 refine qd 11 rfl (Gg Tryz.call108 rfl (om _ _ g (aB.mk a.aa (D2 (D3.wrap (((a.bP:Nat):Int)+1))) (E4 (a.au.ls++ [(dD.mk h p1 d.aO a.aa.aL (E4 d.aF.ls) (E4 b) (E4 (s0 b.length false)) (E4 (s0 b.length (E4 []:Ll aS))) 0)])) a.bH a.bf a.bi a.bn a.aZ a.dI a.dz a.dB a.dA a.dC) n p r j N C E dG cB (I++ [(bz.mk h p1 d.aO a.aa.aL (H3 K L d.aF.ls) (H3 af aJ bg) (H3 B b.length (s0 b.length false)) (H3 M b.length (s0 b.length (H3 none 0 []:bK))) 0)]) O P Q S T U V W X Y eG jO ay (aK _ 6 _ rfl aP) (show a.aa.ak.ls.length≤j∧a.aa.ak.ls.length≤9223372036854775807 from by omega) (fun x9 h9=>⟨aK _ 7 _ rfl (ax (P2.2 ⟨x9,h9,b1⟩) aP),aY (φ:=fun _=>_) bf (i:=8) rfl (ax (P2.2 ⟨x9,h9,b1⟩) aV)⟩) (oG (es:= [(bz.mk h p1 d.aO a.aa.aL (H3 K L d.aF.ls) (H3 af aJ bg) (H3 B b.length (s0 b.length false)) (H3 M b.length (s0 b.length (H3 none 0 []:bK))) 0)]) (ms:= [(dD.mk h p1 d.aO a.aa.aL (E4 d.aF.ls) (E4 b) (E4 (s0 b.length false)) (E4 (s0 b.length (E4 []:Ll aS))) 0)]) Z (DK (fun z9 z8=> [dD.mk h p1 d.aO a.aa.aL (E4 d.aF.ls) (E4 z9) (E4 (s0 b.length false)) (E4 z8) 0]) bu (K3 (f:=bK.abs)))) (aK _ 4 _ rfl aP) (show s2 (a.au.ls++ [(dD.mk h p1 d.aO a.aa.aL (E4 d.aF.ls) (E4 b) (E4 (s0 b.length false)) (E4 (s0 b.length (E4 []:Ll aS))) 0)])≤cB∧s2 (a.au.ls++ [(dD.mk h p1 d.aO a.aa.aL (E4 d.aF.ls) (E4 b) (E4 (s0 b.length false)) (E4 (s0 b.length (E4 []:Ll aS))) 0)])≤9223372036854775807 from by omega) (fun x9 h9=>⟨aK _ 3 _ rfl (ax (P2.2 ⟨x9,h9,b1⟩) aP),aY (φ:=fun _=>_) bf (i:=4) rfl (ax (P2.2 ⟨x9,h9,b1⟩) aV),aK _ 3 _ rfl (ax (P2.2 ⟨x9,h9, .tail _ b1⟩) aP),aY (φ:=fun _=>_) bf (i:=4) rfl (ax (P2.2 ⟨x9,h9, .tail _ b1⟩) aV),(fun y1 k1=>⟨aK _ 3 _ rfl (ax (P2.2 ⟨x9,h9, .tail _ b4⟩) (ax (P2.2 ⟨y1,k1,b1⟩) aP)),aY (φ:=fun _=>_) bf (i:=4) rfl (ax (P2.2 ⟨x9,h9, .tail _ b4⟩) (ax (P2.2 ⟨y1,k1,b1⟩) aV)),aK _ 3 _ rfl (ax (P2.2 ⟨x9,h9, .tail _ b4⟩) (ax (P2.2 ⟨y1,k1, .tail _ b1⟩) aP)),aY (φ:=fun _=>_) bf (i:=4) rfl (ax (P2.2 ⟨x9,h9, .tail _ b4⟩) (ax (P2.2 ⟨y1,k1, .tail _ b1⟩) aV))⟩),aK _ 3 _ rfl (ax (P2.2 ⟨x9,h9, .tail _ b2⟩) aP),aY (φ:=fun _=>_) bf (i:=4) rfl (ax (P2.2 ⟨x9,h9, .tail _ b2⟩) aV),aK _ 3 _ rfl (ax (P2.2 ⟨x9,h9, .tail _ b3⟩) aP),aY (φ:=fun _=>_) bf (i:=4) rfl (ax (P2.2 ⟨x9,h9, .tail _ b3⟩) aV),(fun y1 k1=>⟨aK _ 3 _ rfl (ax (P2.2 ⟨x9,h9, .tail _ b5⟩) (ax (P2.2 ⟨y1,k1,b1⟩) aP)),aY (φ:=fun _=>_) bf (i:=4) rfl (ax (P2.2 ⟨x9,h9, .tail _ b5⟩) (ax (P2.2 ⟨y1,k1,b1⟩) aV)),(fun y2 k2=>⟨aK _ 3 _ rfl (ax (P2.2 ⟨x9,h9, .tail _ b5⟩) (ax (P2.2 ⟨y1,k1, .tail _ b1⟩) (ax (P2.2 ⟨y2,k2,b1⟩) aP))),aY (φ:=fun _=>_) bf (i:=4) rfl (ax (P2.2 ⟨x9,h9, .tail _ b5⟩) (ax (P2.2 ⟨y1,k1, .tail _ b1⟩) (ax (P2.2 ⟨y2,k2,b1⟩) aV)))⟩)⟩)⟩) e8 iC) ?_)
 rintro _ uQ ⟨rfl,jR⟩
 have oP:=jQ _ _ jR
 have jk:=oP.pf [1]
 refine⟨.inr ⟨_,jk⟩, ?_⟩
 refine qk (.agg (gD 3 0 F.dV 0 0 0 0 0 h eG 0 a.aa.aL 0 0 0 false ([]) ([]) F.aF.A F.aF.ls.length F.aF.c none 0 0 none 0 0).toArray) 18 rfl ?_
 have oQ:=jk.pf [2,21,22]
 obtain⟨iD,iE⟩:∃ q,df (bE.mk (E4 aG)) (bM.mk 3 0 F.dV 0 0 0 0 0 h eG 0 a.aa.aL 0 0 0 false (bI.mk ([]) ([])) (E4 F.aF.ls) (E4 ([])) (E4 ([])))=q:=⟨_,rfl⟩
 obtain⟨uR,jS,sS,jU,jV⟩:=Gx oQ
 refine qd 19 rfl (Gg Tryz.call65 rfl (fI _ _ g0 (bE.mk (E4 aG)) cK cO bT g (bM.mk 3 0 F.dV 0 0 0 0 0 h eG 0 a.aa.aL 0 0 0 false (bI.mk ([]) ([])) (E4 F.aF.ls) (E4 ([])) (E4 ([]))) F.aF.A F.aF.ls.length F.aF.c none 0 0 [] none 0 0 iD jS dz rfl (jV _ 3 _ rfl (ax (P2.2 ⟨_,v5 _ b1, .tail _ b4⟩) (ax (P2.2 ⟨F,E0 bV,b1⟩) aP))) (show F.aF.ls.length≤F.aF.c∧F.aF.ls.length≤9223372036854775807 from by omega) rfl rfl (fun _ _=>bA.nil _ _ _) f2 (fun _ h9=>absurd h9 B3) rfl (fun _ _=>bA.nil _ _ _) f2 e8 (by first | assumption | exact dE f4 | exact fun x hx=>absurd hx B3 | exact dE (Mk.l8 f4).1 | exact dE (Mk.lq f4).1 | exact dE (Mk.mo f4).1 | exact dE (Mk.mr f4).1 | exact dE (Mk.mq f4).1) iE) ?_)
 rintro _ uS ⟨oU,oV,oW,rfl,jW,iF,iG⟩
 have jl:=jU _ _ jW
 have sU:=az iF
 have sV:=jl.rowC (i:=1) rfl
 replace iG:iD.bq.ls.length=aG.length+1:=iG
 refine⟨.inl e7, ?_⟩
 refine qn (bN (FY (FV (fw (vJ (u+1)) (FX (e:=C7.wrap (((u:Nat):Int)+1)) yk f1) (Mz rfl (WL.nil ?_))))))
 have oZ:=jl.px [4] [3] [1,2]
 exact Gc (u+1,oU,oV,oW,iD.bq.ls) ⟨rfl,rfl,rfl,rfl,rfl,trivial⟩ (dx.2 ⟨oZ,by exact iF,e6,e6,e6,et (eu) (et (congrArg (fun q=>il p1 d a h b q u aG) iA) (et (ai (bF eB)) (et (gB dH) (et (ai iC) (ai iE)))))⟩) (by show b.length - (u+1) < b.length - u; omega)
 refine jF (dF jh) (Wp.exit (F6 ?_))
 have jX:il p1 d a h b b 0 p0.bq.ls=aG:=et (eu) (et (congrArg (fun q=>il p1 d a h b q u aG) (eZ (ls:=b) (i:=u) e6)) rfl)
 refine F6 (Gi (Gh (res0 rfl) (WL.nil (Gh (res0 rfl) ?_))))
 have o5:=bU.px [1,20,21,0,5,6,7,8,9,4] [2] []
 obtain⟨rfl,rfl⟩:=gm (hr.symm.trans (show _=(bE.mk (E4 aG),aB.mk a.aa (D2 (D3.wrap (((a.bP:Nat):Int)+1))) (E4 (a.au.ls++ [(dD.mk h p1 d.aO a.aa.aL (E4 d.aF.ls) (E4 b) (E4 (s0 b.length false)) (E4 (s0 b.length (E4 []:Ll aS))) 0)])) a.bH a.bf a.bi a.bn a.aZ a.dI a.dz a.dB a.dA a.dC) from et (ai cu) (et (ai cz) (et (ai bJ) (et (iN l) (et (iN aL) (et (iN bB) (et (ip eD) (ai jX)))))))))
 exact⟨cK,cO,bT,n,p,r,j,N,C,E,ag,dG,cB,(I++ [(bz.mk h p1 d.aO a.aa.aL (H3 K L d.aF.ls) (H3 af aJ bg) (H3 B b.length (s0 b.length false)) (H3 M b.length (s0 b.length (H3 none 0 []:bK))) 0)]),O,P,ah,Q,S,aj,T,U,ak,V,W,au,X,Y,av,(by(first | rw [← ed] | skip); (first | rw [← ek] | skip); first | done | rfl),o5,dz,ay,aN,(oG (es:= [(bz.mk h p1 d.aO a.aa.aL (H3 K L d.aF.ls) (H3 af aJ bg) (H3 B b.length (s0 b.length false)) (H3 M b.length (s0 b.length (H3 none 0 []:bK))) 0)]) (ms:= [(dD.mk h p1 d.aO a.aa.aL (E4 d.aF.ls) (E4 b) (E4 (s0 b.length false)) (E4 (s0 b.length (E4 []:Ll aS))) 0)]) Z (DK (fun z9 z8=> [dD.mk h p1 d.aO a.aa.aL (E4 d.aF.ls) (E4 z9) (E4 (s0 b.length false)) (E4 z8) 0]) bu (K3 (f:=bK.abs)))),aO,aQ,aR,aU,aX⟩
 refine jT (dT eD) (sr (Mz rfl (Mz rfl (Kz (vP dX 6) (Lz (vU d.aO) dw 1 E1 ?_)))))
 have o6:=dw.px [2,3,4] [] [1,5,6,7,8,9,10,11,22,23]
 obtain⟨⟨iH,aH⟩,iI⟩:∃ q:bE × aB,dh p0 p1 d.aO 2 ([]) (aB.mk a.aa (D2 (D3.wrap (((a.bP:Nat):Int)+1))) (E4 a.au.ls) a.bH a.bf a.bi a.bn a.aZ a.dI a.dz a.dB a.dA a.dC)=q:=⟨_,rfl⟩
 obtain⟨uT,jY,sW,j3,sZ⟩:=GR o6
 refine cl P7 (jP _ _ g0 p0 bP bQ bH p1 d.aO 2 none 0 0 [] ([]) g (aB.mk a.aa (D2 (D3.wrap (((a.bP:Nat):Int)+1))) (E4 a.au.ls) a.bH a.bf a.bi a.bn a.aZ a.dI a.dz a.dB a.dA a.dC) n p r j C E J G O P ah Q S aj T U ak V W au X Y av iH aH jY bG rfl (fun _ _=>bA.nil _ _ _) (fun _ h9=>absurd h9 B3) rfl i8 g6 aO aQ aR aU aX e8 g3 g3 i2 iI) ?_
 rintro _ uU ⟨o7,o8,o9,pq,pz,pE,pF,pG,pI,pJ,pK,pM,pO,pQ,pR,pU,pV,pW,rfl,j4,iJ,iK,iL,iM,iO,iP,iQ⟩
 have bW:=j3 _ _ j4
 have tq:=az iJ
 have tu:=az iK
 have tC:=az iL
 have tF:=az iM
 have tH:=az iO
 have tJ:=az iP
 have tL:=bW.rowC (i:=1) rfl
 have tN:=bW.rowC (i:=4) rfl
 have tO:=bW.rowC (i:=6) rfl
 have tQ:=bW.rowC (i:=8) rfl
 have tT:=bW.rowC (i:=10) rfl
 have tV:=bW.rowC (i:=12) rfl
 replace iQ:iH.bq.ls.length=p0.bq.ls.length+1:=iQ
 refine nt (rt (tR (Fin.res (res0 rfl) ?_)))
 have pX:=bW.px [] [14,22,23] [4,5,6,7,8,9,10,11,12,13]
 obtain⟨rfl,rfl⟩:=gm (hr.symm.trans (show _=(iH,aB.mk (di.mk aH.aa.av aH.aa.ay aH.aa.aX aH.aa.aL (E4 a.aa.ag.ls) (E4 a.aa.ak.ls) (E4 a.aa.aJ.ls)) aH.bP (E4 a.au.ls) aH.bH aH.bf aH.bi aH.bn aH.aZ aH.dI aH.dz aH.dB aH.dA aH.dC) from et (ai cu) (et (ai cz) (et (ai bJ) (et (iN l) (et (iN aL) (et (iN bB) (et (iN eD) (ai iI)))))))))
 exact⟨o7,o8,o9,n,p,r,j,N,C,E,ag,J,G,I,pq,pz,pE,pF,pG,pI,pJ,pK,pM,pO,pQ,pR,pU,pV,pW,rfl,pX,iJ,ay,aN,Z,iK,iL,iM,iO,iP⟩
end Go.Proofs.YtbkagebjhbphaaaGreat
