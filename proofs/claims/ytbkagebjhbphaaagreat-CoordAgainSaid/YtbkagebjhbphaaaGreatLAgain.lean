/-
 coord: the law CoordAgain
-/
import Derived.Test.YtbkagebjhbphaaaGreatLv
import Derived.Test.YtbkagebjhbphaaaGreatCoU
namespace Go.Proofs.YtbkagebjhbphaaaGreat
open Int renaming toNat→D2
open IntKind renaming i64→C7,u64→D3
open List renaming drop→r6,flatMap→q6,length→s2,length_map→s6,map→s8,mem_flatMap→P2,mem_of_getElem?→E0,not_mem_nil→B3,toArray→y6
open Ll renaming mk→E4
open Sum renaming inl→C1
open _root_.Go.Proofs.Tryz renaming call10→U2,call12→T4,func12→T5,isAgg28→E1,isAgg3→C6,isAgg33→S7,isAgg65→U4,isAgg84→T6,sizeOf28→M6,sizeOf33→H8,sizeOf42→M5,sizeOf44→U1,sizeOf47→S3,sizeOf65→U3,underlying63→U5
open WL renaming nil→D0
set_option maxRecDepth 100000
open Go.RowKit
set_option linter.unusedVariables false
set_option linter.unusedSectionVars false
set_option linter.unusedSimpArgs false
instance:DecidableEq iH:=fun a b=>if h:a.nC=b.nC∧a.aM=b.aM then isTrue (by cases a; cases b; obtain⟨c,d⟩:=h; simp only at c d; subst c; subst d; rfl) else isFalse (fun e=>h (by rw [e]; exact⟨rfl,rfl⟩))
def iH.key (q:iH):Value:= .agg (y6 (iH.cells q))
theorem wC:yg Tryz.prog 65 iH.key:=CX (x:=fun q=>q.nC) (y:=fun q=>((q.aM:Nat):Int)) (fun _=>rfl) (fun a b e f=>by
 cases a; cases b
 have c:=e
 have d:=(Int.ofNat.inj f)
 simp only at c d
 subst c; subst d; rfl) Tryz.underlying65 rfl rfl Tryz.underlying3 Tryz.underlying28 f3 f3 e7
def gH (b:aB):List bM→List (iH × Int)→(List (iH × Int)) ⊕ Bool
  | [],c=>C1 c
  | a::d,c=>if a.aG=2 then bnd (oH c (iH.mk a.eP a.aO)) fun e=>if(Option.getD e 0)=0 then gH b d (lH c (iH.mk a.eP a.aO) a.cZ) else bnd (oH c (iH.mk a.eP a.aO)) fun f=>if(Option.getD f 0)=a.cZ then gH b d (lH c (iH.mk a.eP a.aO) a.cZ) else Sum.inr (false) else gH b d c
def gM (h:Bool):List StepT→List (iH × Int)→aB→Unit ⊕ Bool
  | [],f,b=>C1 ()
  | a::g,f,b=>bnd (if a.kX=0 then bnd (bnd (j3 b) fun c=>(ko a.ed a.aC.aG 1 c.ay a.aC.ay,nT a.ed a.aC.aU c.ay,ko a.ed a.aC.aG 9 c.aX a.aC.aX)) fun sJrbbtbbfLsJjtJ=>bnd (if a.aC.aG=1 then 1 else sJrbbtbbfLsJjtJ.1) fun sJrbbtbbfLsJjtJaJ=>bnd (eF b (bM.mk a.aC.aG a.aC.aH a.aC.eP a.aC.aN a.aC.cZ a.aC.eu a.aC.aO sJrbbtbbfLsJjtJaJ sJrbbtbbfLsJjtJ.2.1 a.aC.dW sJrbbtbbfLsJjtJ.2.2 a.aC.aL (oD a.ed a.aC.dH 0) a.aC.bZ a.aC.xN a.aC.d9 a.aC.bT (E4 a.aC.aF.ls) (E4 a.aC.ah.ls) (E4 a.aC.ag.ls))) fun d=>(d.1.eO.ls,d.2.2) else if a.kX=1 then bnd (jk b) fun e=>(e.1.eO.ls,e.2) else([],b)) fun sJrbbtbbfLsJ=>sK (gH sJrbbtbbfLsJ.2 sJrbbtbbfLsJ.1 f) fun sLrbbtbbfLsJaL=>gM h g sLrbbtbbfLsJaL sJrbbtbbfLsJ.2
def q8 (l0:List StepT):Bool:=
 bnd (uO) fun b=>bnd (jc (di.mk 2 0 0 1 (E4 ([(aW.mk ([]) 1),(aW.mk ([109]) 2)])) (E4 ([])) (E4 ([])))) fun d=>if d=0 then bnd (jm (di.mk 2 0 0 1 (E4 ([(aW.mk ([]) 1),(aW.mk ([109]) 2)])) (E4 ([])) (E4 ([])))) fun a=>bnd ((aB.mk (di.mk a.av (D2 (D3.wrap (((a.ay:Nat):Int)+1))) (fD (D2 (D3.wrap (((a.ay:Nat):Int)+1))) 32) a.aL (E4 a.ag.ls) (E4 a.ak.ls) (E4 a.aJ.ls)) 0 (E4 ([])) (dX.mk false 0 0 (E4 ([]))) (dX.mk false 0 0 (E4 ([]))) (dX.mk false 0 0 (E4 ([]))) (dX.mk false 0 0 (E4 ([]))) (dX.mk false 0 0 (E4 ([]))) 0 0 0 0 0)) fun c=>if((l0.length:Nat):Int) > 100 then if b=true then true else false else lp (gM b l0 ([]) c) fun _=>b else if b=true then false else false
set_option maxHeartbeats 4000000 in
theorem wJ (w D A0 n0 c0 d0 l0 r0) (H:Own w D w []) (jU:s8 fU.abs d0=l0) (iU:Ro w D fun w'=>bA w' 25 A0 n0 (q6 fU.cells d0)) (bY:∀ x ∈ d0,Ro w D (fun w'=>bA w' 6 x.aC.aF.A x.aC.aF.ls.length (q6 bv.cells x.aC.aF.ls))∧(x.aC.aF.ls.length≤x.aC.aF.c∧x.aC.aF.ls.length≤9223372036854775807)∧Ro w D (fun w'=>bA w' 3 x.aC.ah.A x.aC.ah.ls.length (q6 ae.cells x.aC.ah.ls))∧(x.aC.ah.ls.length≤x.aC.ah.c∧x.aC.ah.ls.length≤9223372036854775807)∧(∀ y1 ∈ x.aC.ah.ls,Ro w D (fun w'=>bA w' 2 y1.aj.A y1.aj.ls.length (q6 aI.cells y1.aj.ls))∧(y1.aj.ls.length≤y1.aj.c∧y1.aj.ls.length≤9223372036854775807))∧Ro w D (fun w'=>bA w' 2 x.aC.ag.A x.aC.ag.ls.length (q6 aW.cells x.aC.ag.ls))∧(x.aC.ag.ls.length≤x.aC.ag.c∧x.aC.ag.ls.length≤9223372036854775807)) (nA:n0=l0.length) (rP:l0.length *272≤211106232532992) (rQ:l0.length *272≤140737488351232) (nC:∀ x ∈ l0,x.aC.aO≤18446744073709551615∧x.aC.aF.ls.length≤140737488351232∧x.aC.ah.ls.length≤140737488351232∧x.aC.ag.ls.length≤140737488351232) (hr:q8 l0=r0):
    Calls Tryz.prog 5 #[.slice A0 n0 c0] w (dR fun v w'=>v= .bool r0∧Own w D w' []):=by
 subst nA
 have p9:=az jU
 refine cb Tryz.func5 ?_
 refine sr (Ar rfl ?_)
 obtain⟨P,aM⟩:∃ q,uO=q:=⟨_,rfl⟩
 obtain⟨rR,jV,qa,jX,qc⟩:=F3 H
 refine cl Tryz.call7 (AC _ _ P jV aM) ?_
 rintro _ rT ⟨rfl,jY⟩
 have nD:=jX _ _ jY
 refine Ar rfl ?_
 refine WL.do rfl (Gg Tryz.call9 rfl ?_ (fun _ _ k=>k))
 refine cb Tryz.func9 ?_
 refine sr ?_
 refine dM [vI 0, .int .u64 0, .int .u64 0, .int .u64 0, .slice none 0 0, .slice none 0 0, .slice none 0 0] 33 nD ?_
 intro rU rV nE
 refine ns (Kz (.agg #[.string ⟨y6 ([])⟩,vI 1]) (Kz (.agg #[.string ⟨y6 ([109])⟩,vI 2]) ?_))
 refine kL [.string ⟨y6 ([])⟩,vI 1, .string ⟨y6 ([109])⟩,vI 2] 89 2 2 nE ?_
 intro bI rW iV
 replace iV:=Gs (y:=row bI 2 2 (q6 aW.cells ([(aW.mk ([]) 1),(aW.mk ([109]) 2)])) 89 2) rfl iV
 refine Kz (.agg #[vI 2, .int .u64 0, .int .u64 0, .int .u64 1, .slice bI 2 2, .slice none 0 0, .slice none 0 0]) ?_
 have nG:=iV.pb [0]
 refine dN [vI 2, .int .u64 0, .int .u64 0, .int .u64 1, .slice bI 2 2, .slice none 0 0, .slice none 0 0] 0 nG H8 ?_
 intro rX j4
 refine nt (rt (Fin.res (ni rfl rfl (Gf (cs:= [vI 2, .int .u64 0, .int .u64 0, .int .u64 1, .slice bI 2 2, .slice none 0 0, .slice none 0 0]) S7 H8 ((j4.cls (i:=0) rfl).lit (k:=0) (m:=7) rfl))) ?_))
 refine WL.do rfl (Gg Tryz.call8 rfl ?_ (fun _ _ k=>k))
 refine cb Tryz.func8 ?_
 refine FW ?_
 have nH:=j4.pk [1]
 refine FV ?_
 refine dM [vI 2, .int .u64 0, .int .u64 0, .int .u64 1, .slice bI 2 2, .slice none 0 0, .slice none 0 0] 33 nH ?_
 intro nI rY j5
 refine Az rfl (An rfl (FW (sr (La ([vI 2, .int .u64 0, .int .u64 0, .int .u64 1, .slice bI 2 2, .slice none 0 0, .slice none 0 0]) j5 0 S7 H8 ?_))))
 obtain⟨fQ,aN⟩:∃ q,jc (di.mk 2 0 0 1 (E4 ([(aW.mk ([]) 1),(aW.mk ([109]) 2)])) (E4 ([])) (E4 ([])))=q:=⟨_,rfl⟩
 obtain⟨rZ,j6,qf,kg,kr⟩:=F3 j5
 refine cl Tryz.call19 (nY _ _ (di.mk 2 0 0 1 (E4 ([(aW.mk ([]) 1),(aW.mk ([109]) 2)])) (E4 ([])) (E4 ([]))) bI 2 2 none 0 0 [] none 0 0 [] fQ j6 rfl (kr _ 1 _ rfl aP) f2 rfl rfl (fun _ _=>bA.nil _ _ _) f2 (fun _ h9=>absurd h9 B3) rfl rfl (fun _ _=>bA.nil _ _ _) f2 (fun _ h9=>absurd h9 B3) e8 aN) ?_
 rintro _ r9 ⟨rfl,ku⟩
 have fT:=kg _ _ ku
 refine fw (.bool (decide (¬ (fQ=0)))) (Gm (e:= !(decide (fQ=0))) yk decide_not.symm) (Mz rfl ?_)
 by_cases ah:fQ=0
 refine gw (vP nI 1) (dF (JR ah)) yk (gw (.int .u64 0) (dF (JR ah)) (F7 rfl (bX.one E1 (jL.of (fT.cls (i:=0) rfl) rfl))) (gw (.bool false) (dF (JR ah)) yk (fw (.bool false) (FZ rfl (dF (JR ah)) rfl) (nt (jf (sk (sr (La ([vI 2, .int .u64 0, .int .u64 0, .int .u64 1, .slice bI 2 2, .slice none 0 0, .slice none 0 0]) fT 0 S7 H8 ?_))))))))
 obtain⟨n,bK⟩:∃ q,jm (di.mk 2 0 0 1 (E4 ([(aW.mk ([]) 1),(aW.mk ([109]) 2)])) (E4 ([])) (E4 ([])))=q:=⟨_,rfl⟩
 obtain⟨si,kv,qg,kw,ky⟩:=F3 fT
 refine cl Tryz.call20 (oJ _ _ (di.mk 2 0 0 1 (E4 ([(aW.mk ([]) 1),(aW.mk ([109]) 2)])) (E4 ([])) (E4 ([]))) bI 2 2 none 0 0 [] none 0 0 [] n kv rfl (ky _ 1 _ rfl aP) f2 rfl rfl (fun _ _=>bA.nil _ _ _) f2 (fun _ h9=>absurd h9 B3) rfl rfl (fun _ _=>bA.nil _ _ _) f2 (fun _ h9=>absurd h9 B3) e8 (by first | assumption | exact Am f4 | exact fun _ h9=>absurd h9 B3) (by first | assumption | exact Ao f4 | exact fun _ h9=>absurd h9 B3) bK) ?_
 rintro _ sj ⟨kz,kC,kD,kE,kF,kG,su,sw,rfl,kH,gm,gp⟩
 have fV:=kw _ _ kH
 have qh:=az gm
 have qi:=az gp
 have qj:=fV.rowC (i:=0) rfl
 have ql:=fV.rowC (i:=1) rfl
 have qm:=fV.rowC (i:=3) rfl
 have qo:n.ag.ls.length=2∧n.av=2∧n.ak.ls.length=0∧n.aJ.ls.length=0:=Bq bK
 refine Kz (.agg #[vI n.av,vU n.ay,vU n.aX,vU n.aL, .slice kz n.ag.ls.length kC, .slice kD n.ak.ls.length kE, .slice kF n.aJ.ls.length kG, .int .u64 0, .slice none 0 0, .bool false, .int .u64 0,vI 0, .slice none 0 0, .bool false, .int .u64 0,vI 0, .slice none 0 0, .bool false, .int .u64 0,vI 0, .slice none 0 0, .bool false, .int .u64 0,vI 0, .slice none 0 0, .bool false, .int .u64 0,vI 0, .slice none 0 0, .int .u64 0, .int .u64 0, .int .u64 0, .int .u64 0, .int .u64 0, .pointer none]) ?_
 refine dM [vI n.av,vU n.ay,vU n.aX,vU n.aL, .slice kz n.ag.ls.length kC, .slice kD n.ak.ls.length kE, .slice kF n.aJ.ls.length kG, .int .u64 0, .slice none 0 0, .bool false, .int .u64 0,vI 0, .slice none 0 0, .bool false, .int .u64 0,vI 0, .slice none 0 0, .bool false, .int .u64 0,vI 0, .slice none 0 0, .bool false, .int .u64 0,vI 0, .slice none 0 0, .bool false, .int .u64 0,vI 0, .slice none 0 0, .int .u64 0, .int .u64 0, .int .u64 0, .int .u64 0, .int .u64 0, .pointer none] 86 fV ?_
 intro l sD nJ
 refine An rfl (FW ?_)
 have kJ:=nJ.px [] [6] []
 refine FV (Mz rfl (Kz (vP l 0) (Kz (vP l 0) (Kz (vP l 1) (Lz (vU n.ay) kJ 0 E1 (fw (.int .u64 ((D2 (D3.wrap (((n.ay:Nat):Int)+1)):Nat):Int)) (FX (e:=D3.wrap (((n.ay:Nat):Int)+1)) yk (fC _)) (Kz (vP l 0) (Kz (vP l 0) (Kz (vP l 1) ?_)))))))))
 refine dN [.int .u64 ((D2 (D3.wrap (((n.ay:Nat):Int)+1)):Nat):Int)] 1 kJ M6 ?_
 intro sF kK
 refine ns (Mz rfl (Mz rfl (Kz (vP l 0) (Kz (vP l 0) (Kz (vP l 1) (Lz (.int .u64 ((D2 (D3.wrap (((n.ay:Nat):Int)+1)):Nat):Int)) kK 0 E1 ?_))))))
 have qp:fD (D2 (D3.wrap (((n.ay:Nat):Int)+1))) 32≤18446744073709551615:=oQ _ _
 refine fw (.int .u64 ((fD (D2 (D3.wrap (((n.ay:Nat):Int)+1))) 32:Nat):Int)) (FX (Hz (m:=32) rfl rfl) (fC _)) (Kz (vP l 0) (Kz (vP l 0) (Kz (vP l 2) ?_)))
 refine dN [.int .u64 ((fD (D2 (D3.wrap (((n.ay:Nat):Int)+1))) 32:Nat):Int)] 2 kK M6 ?_
 intro aj nK
 refine ns (Mz rfl (Az rfl (An rfl (rt (Fin.res (lY rfl rfl rfl) ?_)))))
 have nL:Own w D aj (sepL (q6 bz.own ([]))::_):=nK.sepNil
 have nM:Own w D aj (row none 0 0 (q6 bz.cells ([])) 107 9::_):=nL.free (fB 107 9)
 have nN:Own w D aj (sepL (q6 ae.own ([]))::_):=nM.sepNil
 have nO:Own w D aj (row none 0 0 (q6 ae.cells ([])) 149 3::_):=nN.free (fB 149 3)
 have nP:Own w D aj (sepL (q6 ae.own ([]))::_):=nO.sepNil
 have nQ:Own w D aj (row none 0 0 (q6 ae.cells ([])) 149 3::_):=nP.free (fB 149 3)
 have nR:Own w D aj (sepL (q6 ae.own ([]))::_):=nQ.sepNil
 have nS:Own w D aj (row none 0 0 (q6 ae.cells ([])) 149 3::_):=nR.free (fB 149 3)
 have nV:Own w D aj (sepL (q6 ae.own ([]))::_):=nS.sepNil
 have nW:Own w D aj (row none 0 0 (q6 ae.cells ([])) 149 3::_):=nV.free (fB 149 3)
 have kM:Own w D aj (sepL (q6 ae.own ([]))::_):=nW.sepNil
 have kN:Own w D aj (row none 0 0 (q6 ae.cells ([])) 149 3::_):=kM.free (fB 149 3)
 have kP:=kN.pf [12,13,14,15,16,17,10,11]
 have kQ:Own w D aj (iE l (aB.mk (di.mk n.av (D2 (D3.wrap (((n.ay:Nat):Int)+1))) (fD (D2 (D3.wrap (((n.ay:Nat):Int)+1))) 32) n.aL (E4 n.ag.ls) (E4 n.ak.ls) (E4 n.aJ.ls)) 0 (E4 ([])) (dX.mk false 0 0 (E4 ([]))) (dX.mk false 0 0 (E4 ([]))) (dX.mk false 0 0 (E4 ([]))) (dX.mk false 0 0 (E4 ([]))) (dX.mk false 0 0 (E4 ([]))) 0 0 0 0 0)::_):=fA gm gp rfl rfl rfl rfl rfl rfl kP
 obtain⟨z,aO⟩:∃ q,(aB.mk (di.mk n.av (D2 (D3.wrap (((n.ay:Nat):Int)+1))) (fD (D2 (D3.wrap (((n.ay:Nat):Int)+1))) 32) n.aL (E4 n.ag.ls) (E4 n.ak.ls) (E4 n.aJ.ls)) 0 (E4 ([])) (dX.mk false 0 0 (E4 ([]))) (dX.mk false 0 0 (E4 ([]))) (dX.mk false 0 0 (E4 ([]))) (dX.mk false 0 0 (E4 ([]))) (dX.mk false 0 0 (E4 ([]))) 0 0 0 0 0)=q:=⟨_,rfl⟩
 have kR:Own w D aj [iE l z,row bI 2 2 (q6 aW.cells ([(aW.mk ([]) 1),(aW.mk ([109]) 2)])) 89 2]:=by rw [← aO]; exact kQ
 have nX:Mk z:=xX f4 f4
 have nZ:z.aa.ag.ls.length≤1000∧z.aa.av≤4∧z.au.ls.length+z.aa.ak.ls.length≤8∧z.aa.aJ.ls.length≤0:=uN f4 f4
 refine Mz rfl (Kz (vP l 0) (Kz (vI 0) (Az rfl (An rfl (FW (FW ?_))))))
 have eD:=kR.pk [0]
 refine FV (Mz rfl (Kz (.bool false) (Mz rfl (gw (vI 0) rfl (F9 rfl) (Gz (.bool false) rfl (fw (.bool false) (FZ rfl rfl rfl) (Mz rfl (gw (.slice A0 l0.length c0) rfl (F9 rfl) (Gz (vJ l0.length) rfl (Gz (.bool (decide (((l0.length:Nat):Int) > 100))) rfl (fw (.bool (decide (((l0.length:Nat):Int) > 100))) (FZ rfl rfl rfl) (nt ?_))))))))))))
 by_cases bO:((l0.length:Nat):Int) > 100
 refine jT (dT bO) (sr (Mz rfl (Mz rfl ?_)))
 rcases JS (P) with ak | ak
 refine GM (v:=vP l 0) rfl rfl ak rfl (F9 rfl) (Gz (.bool true) ak (fw (.bool true) (Gd rfl ak rfl) (An rfl (rt (tR (rs ?_))))))
 have kS:=eD.pk []
 obtain rfl:_=true:=hr.symm.trans (et (ai aM) (et (ai aN) (et (ip ah) (et (ai bK) (et (ai aO) (et (ip bO) (ip ak)))))))
 exact⟨rfl,kS⟩
 refine Sz ak (Sz ak (fw (.bool false) (FZ rfl ak rfl) (An rfl (rt (tR (rs ?_))))))
 have kT:=eD.pk []
 obtain rfl:_=false:=hr.symm.trans (et (ai aM) (et (ai aN) (et (ip ah) (et (ai bK) (et (ai aO) (et (ip bO) (gB ak)))))))
 exact⟨rfl,kT⟩
 refine jF (dF bO) (sk (sr ?_))
 refine WL.do rfl (I6 (κ:=iH) (ν:=Int) iH.key kI eD ?_)
 intro F qx kU
 refine An rfl (FW (sr (Mz rfl (Kz (vJ l0.length) (Mn rfl (bo ?_))))))
 have kV:=kU.pf []
 obtain⟨kW,dA⟩:=qK fun (h:Nat) aa (g:aB) w'=>Own w D w' [pq F iH.key kI aa,iE l g]∧h≤l0.length∧(g.aa.ag.ls.length≤1000∧g.aa.av≤4∧g.au.ls.length+g.aa.ak.ls.length≤8∧g.aa.aJ.ls.length≤h)∧Mk g∧gM P l0 ([]) z=gM P (r6 h l0) aa g
 refine Wp.loop (fun i:Nat × (List (iH × Int)) × aB=> [(2, .bool false),(39,vJ i.1),(38,vJ l0.length),(37, .slice A0 l0.length c0),(6, .map (some F)),(4,vP l 0),(3, .bool P)]) kW (fun i=>l0.length - i.1) (0, [],z) ⟨rfl,rfl,rfl,rfl,rfl,rfl,rfl,trivial⟩ (dA.2 ⟨kV,(show 0≤l0.length∧(z.aa.ag.ls.length≤1000∧z.aa.av≤4∧z.au.ls.length+z.aa.ak.ls.length≤8∧z.aa.aJ.ls.length≤0)∧Mk z∧gM P l0 ([]) z=gM P (r6 0 l0) ([]) z from ⟨e6,by first | omega | (dsimp only; omega) | exact uN f4 f4,by first | assumption | exact xX f4 f4,rfl⟩)⟩) ?_
 rintro ⟨h,aa,g⟩ qy iW
 obtain⟨bZ,og,oh,ol,dB⟩:=dA.1 iW
 refine sr (Kz (.bool (decide (((h:Nat):Int) < ((l0.length:Nat):Int)))) (nt (FW ?_)))
 by_cases gq:((h:Nat):Int) < ((l0.length:Nat):Int)
 obtain⟨a,Q⟩:=dK (ls:=d0) (i:=h) fU.len f3 (bZ.ro iU) e9
 have eG:=fo jU Q
 have om:=(bY _ (E0 Q)).2.1
 have oo:=(bY _ (E0 Q)).2.2.2.1
 have oq:s2 (s8 ae.abs a.aC.ah.ls)=a.aC.ah.ls.length:=s6 ..
 have ou:=(bY _ (E0 Q)).2.2.2.2.2.2
 have ow:a.aC.aO≤18446744073709551615∧a.aC.aF.ls.length≤140737488351232∧a.aC.ah.ls.length≤140737488351232∧a.aC.ag.ls.length≤140737488351232:=by have q:=nC _ (E0 eG); exact⟨q.1,q.2.1,Nat.le_trans (Nat.le_of_eq (s6 ..).symm) q.2.2.1,q.2.2.2⟩
 have eH:=drop_at eG
 refine jT (dT gq) (sk (FW (bo (sr (fw (.pointer (some ⟨ab A0,ao A0+h *25,none⟩)) (F4 (FD) rfl rfl ((bZ.ro iU).addr (i:=h) e6) e6) (fw (.agg (fU.cells a).toArray) (F7 rfl (Gf (cs:=(fU.cells a)) Tryz.isAgg44 U1 ((bZ.ro iU).elem fU.len Q f3))) ?_))))))
 refine dM (Fe 0 0 0 0 0 0 0 0 0 0 0 0 0 0 0 0 0 false ([]) ([]) none 0 0 none 0 0 none 0 0 false ([])) 44 bZ ?_
 intro r qz kX
 refine dN (fU.cells a) 0 kX U1 ?_
 intro qA kY
 refine ns (Kz (.agg #[.slice none 0 0, .bool false]) ?_)
 refine dM [.slice none 0 0, .bool false] 47 kY ?_
 intro G qB kZ
 refine dN [.slice none 0 0, .bool false] 0 kZ S3 ?_
 intro gu dP
 refine nt (FW (sr (Kz (vP r 0) (Lz (vI a.kX) dP 1 C6 (nt ?_)))))
 obtain⟨lc,bS⟩:=En fun s (B:Nat) I f aQ (j:aB) w'=>Own w D w' [blk G [.slice s f.length B, .bool aQ] 47,blk r (fU.cells a) 44,pq F iH.key kI aa,iE l j,row s f.length B (q6 bC.cells I) 42 21,sepL (q6 bC.own I)]∧s8 bC.abs I=f∧0≤f.length∧f.length≤9223372036854775807∧(j.aa.ag.ls.length≤1000∧j.aa.av≤4∧j.au.ls.length+j.aa.ak.ls.length≤8∧j.aa.aJ.ls.length≤g.aa.aJ.ls.length+1)∧Mk j∧(if a.kX=0 then bnd (bnd (j3 g) fun J=>(ko a.ed a.aC.aG 1 J.ay a.aC.ay,nT a.ed a.aC.aU J.ay,ko a.ed a.aC.aG 9 J.aX a.aC.aX)) fun sJrbbtbbfLsJjtJ=>bnd (if a.aC.aG=1 then 1 else sJrbbtbbfLsJjtJ.1) fun sJrbbtbbfLsJjtJaJ=>bnd (eF g (bM.mk a.aC.aG a.aC.aH a.aC.eP a.aC.aN a.aC.cZ a.aC.eu a.aC.aO sJrbbtbbfLsJjtJaJ sJrbbtbbfLsJjtJ.2.1 a.aC.dW sJrbbtbbfLsJjtJ.2.2 a.aC.aL (oD a.ed a.aC.dH 0) a.aC.bZ a.aC.xN a.aC.d9 a.aC.bT (E4 a.aC.aF.ls) (E4 (s8 ae.abs a.aC.ah.ls)) (E4 a.aC.ag.ls))) fun aR=>(aR.1.eO.ls,aR.2.2) else if a.kX=1 then bnd (jk g) fun aS=>(aS.1.eO.ls,aS.2) else([],g))=(f,j)
 refine GG (fun i:(Option Addr) × Nat × (List bC) × (List bM) × Bool × aB=> [(46, .bool (decide (a.kX=0))),(47, .bool (decide (a.kX=0))),(45,vI a.kX),(44,vP r 0),(9,vP G 0),(43, .agg #[.slice none 0 0, .bool false]),(8,vP r 0),(42, .agg (fU.cells a).toArray),(41, .pointer (some ⟨ab A0,ao A0+h *25,none⟩)),(40, .bool (decide (((h:Nat):Int) < ((l0.length:Nat):Int)))),(2, .bool false),(39,vJ h),(38,vJ l0.length),(37, .slice A0 l0.length c0),(6, .map (some F)),(4,vP l 0),(3, .bool P)]) lc ?_ ?_
 refine bo (sr (Kz (.bool (decide (a.kX=0))) (An rfl ?_)))
 by_cases cu:a.kX=0
 refine jT (dT cu) (FW ?_)
 obtain⟨lg,bT⟩:=FB fun (u:Nat) (af:Nat) (K:Nat) (L:Nat) (au:Int) (av:Nat) (ay:Nat) (aC:Nat) R (S:Nat) C T (U:Nat) V M W (X:Nat) Y N (aD:Nat) (aF:Nat) (aG:Nat) w'=>Own w D w' [blk u [vI a.aC.aG,vI a.aC.aH,vI a.aC.eP,vI a.aC.aN,vI a.aC.cZ,vI a.aC.eu,vU a.aC.aO,vU af,vU K,vU a.aC.dW,vU L,vU a.aC.aL,vU (oD a.ed a.aC.dH 0),vU a.aC.bZ,vU a.aC.xN, .bool a.aC.d9, .string ⟨y6 a.aC.bT.bG⟩, .string ⟨y6 a.aC.bT.bU⟩, .slice a.aC.aF.A a.aC.aF.ls.length a.aC.aF.c, .slice a.aC.ah.A a.aC.ah.ls.length a.aC.ah.c, .slice a.aC.ag.A a.aC.ag.ls.length a.aC.ag.c] 42,blk G [.slice none 0 0, .bool false] 47,blk r (fU.cells a) 44,pq F iH.key kI aa,iE l g,row R C.length S (q6 aW.cells C) 89 2,row T M.length U (q6 aA.cells V) 60 5,sepL (q6 aA.own V),row W N.length X (q6 aT.cells Y) 56 4,sepL (q6 aT.own Y)]∧s8 aA.abs V=M∧s8 aT.abs Y=N∧(bnd (j3 g) fun J=>(ko a.ed a.aC.aG 1 J.ay a.aC.ay,nT a.ed a.aC.aU J.ay,ko a.ed a.aC.aG 9 J.aX a.aC.aX))=(af,K,L)
 refine GG (fun i:Nat × Nat × Nat × Nat × Int × Nat × Nat × Nat × (Option Addr) × Nat × (List aW) × (Option Addr) × Nat × (List aA) × (List bJ) × (Option Addr) × Nat × (List aT) × (List fE) × Nat × Nat × Nat=> [(10, .pointer (some ⟨i.1,0,none⟩)),(48, .agg (fU.cells a).toArray),(49,vP l 0),(50, .agg #[vI i.2.2.2.2.1,vU i.2.2.2.2.2.1,vU i.2.2.2.2.2.2.1,vU i.2.2.2.2.2.2.2.1, .slice i.2.2.2.2.2.2.2.2.1 i.2.2.2.2.2.2.2.2.2.2.1.length i.2.2.2.2.2.2.2.2.2.1, .slice i.2.2.2.2.2.2.2.2.2.2.2.1 i.2.2.2.2.2.2.2.2.2.2.2.2.2.2.1.length i.2.2.2.2.2.2.2.2.2.2.2.2.1, .slice i.2.2.2.2.2.2.2.2.2.2.2.2.2.2.2.1 i.2.2.2.2.2.2.2.2.2.2.2.2.2.2.2.2.2.2.1.length i.2.2.2.2.2.2.2.2.2.2.2.2.2.2.2.2.1]),(51,vP l 0),(52, .int .u64 0),(53, .agg #[vI a.aC.aG,vI a.aC.aH,vI a.aC.eP,vI a.aC.aN,vI a.aC.cZ,vI a.aC.eu,vU a.aC.aO,vU i.2.2.2.2.2.2.2.2.2.2.2.2.2.2.2.2.2.2.2.1,vU i.2.2.2.2.2.2.2.2.2.2.2.2.2.2.2.2.2.2.2.2.1,vU a.aC.dW,vU i.2.2.2.2.2.2.2.2.2.2.2.2.2.2.2.2.2.2.2.2.2,vU a.aC.aL,vU (oD a.ed a.aC.dH 0),vU a.aC.bZ,vU a.aC.xN, .bool a.aC.d9, .string ⟨y6 a.aC.bT.bG⟩, .string ⟨y6 a.aC.bT.bU⟩, .slice a.aC.aF.A a.aC.aF.ls.length a.aC.aF.c, .slice a.aC.ah.A a.aC.ah.ls.length a.aC.ah.c, .slice a.aC.ag.A a.aC.ag.ls.length a.aC.ag.c]),(46, .bool (decide (a.kX=0))),(47, .bool (decide (a.kX=0))),(45,vI a.kX),(44,vP r 0),(9,vP G 0),(43, .agg #[.slice none 0 0, .bool false]),(8,vP r 0),(42, .agg (fU.cells a).toArray),(41, .pointer (some ⟨ab A0,ao A0+h *25,none⟩)),(40, .bool (decide (((h:Nat):Int) < ((l0.length:Nat):Int)))),(2, .bool false),(39,vJ h),(38,vJ l0.length),(37, .slice A0 l0.length c0),(6, .map (some F)),(4,vP l 0),(3, .bool P)]) lg ?_ ?_
 refine Cc [] (Gb (bL.block (Gb (bL.block (Gb (Gb (bL.block (Gb Gj)))))))) dP ?_
 intro qC gy
 refine qt (v:= .agg (fU.cells a).toArray) 0 rfl (fun _ ⟨_,H9⟩=>F7 rfl (Gf (cs:=(fU.cells a)) Tryz.isAgg44 U1 ((H9.cls (i:=1) rfl).lit (k:=0) (m:=25) rfl))) (qv 1 rfl rfl (qv 3 rfl rfl ?_))
 refine Hm 2 6 e7 ?_ ?_
 have lh:=gy.pf [3]
 obtain⟨b,dC⟩:∃ q,j3 g=q:=⟨_,rfl⟩
 obtain⟨qD,iX,oz,iY,oC⟩:=Gq lh
 refine GY.do 2 rfl e7 (Gg Tryz.call11 rfl (pR _ _ l g b iX e8 f4 dC) ?_)
 rintro _ qE ⟨dQ,dS,dU,dV,aU,aX,gz,gF,rfl,iZ,dD,dE⟩
 have dW:=iY _ _ iZ
 have oF:=az dD
 have oG:=az dE
 have oI:=dW.rowC (i:=0) rfl
 have oK:=dW.rowC (i:=1) rfl
 have oM:=dW.rowC (i:=3) rfl
 have eO:=dW.pf [6,7,8]
 refine⟨.inr ⟨_,eO⟩, ?_⟩
 refine Hm 4 6 e7 ?_ ?_
 refine GY.do 4 rfl e7 (Gg T4 rfl ?_ (fun _ _ k=>k))
 refine cb T5 ?_
 refine sr (An rfl (FW (FW ?_)))
 have ll:=eO.pf [8]
 obtain⟨qF,qG,qH,qI,qJ,gG,gI,gJ,gK,gL,gN,gP,gQ,gT,gU,gV,gW,gX,gY,gZ,ib,ic,ig,ik,il,iq,ja,aZ,bf,bg,bi,bn,bq,bu,oN,iw⟩:=ji ll
 refine FV (Mz rfl (Kz (vP l 0) (Kz (vP l 34) (Lz (.pointer none) iw 0 T6 (Kz (.bool true) (nt (jt (sr (An rfl (rt (tR (rs ?_))))))))))))
 have iy:=iw.pf [18,19,20]
 refine⟨.inr ⟨_,iy⟩, ?_⟩
 refine Fa ⟨5,_,_,_,_,_,Unit,fun g9=> .agg #[vI a.aC.aG,vI a.aC.aH,vI a.aC.eP,vI a.aC.aN,vI a.aC.cZ,vI a.aC.eu,vU a.aC.aO,vU (ko a.ed a.aC.aG 1 b.ay a.aC.ay),vU (nT a.ed a.aC.aU b.ay),vU a.aC.dW,vU (ko a.ed a.aC.aG 9 b.aX a.aC.aX),vU a.aC.aL,vU (oD a.ed a.aC.dH 0),vU a.aC.bZ,vU a.aC.xN, .bool a.aC.d9, .string ⟨y6 a.aC.bT.bG⟩, .string ⟨y6 a.aC.bT.bU⟩, .slice a.aC.aF.A a.aC.aF.ls.length a.aC.aF.c, .slice a.aC.ah.A a.aC.ah.ls.length a.aC.ah.c, .slice a.aC.ag.A a.aC.ag.ls.length a.aC.ag.c],fun _=>True,fun g9=> []⟩ ⟨6,_,_,_,_,_,Nat,fun g9=>vP g9 0,fun _=>True,fun g9=> [blk g9 (gD 0 0 0 0 0 0 0 0 0 0 0 0 0 0 0 false ([]) ([]) none 0 0 none 0 0 none 0 0) 42]⟩ 3 iy ⟨⟨rfl,rfl,rfl, ?_⟩,⟨rfl,rfl,rfl, ?_⟩,trivial⟩ ?_
 intro qL L' lq
 obtain⟨qM,jb,oO,jd,oP⟩:=F3 lq
 refine(Gg U2 rfl (vW _ _ a b.av b.ay b.aX b.aL dQ b.ag.ls.length dS dU b.ak.ls.length dV aU b.aJ.ls.length aX 0 jb) ?_)
 rintro _ qN ⟨rfl,je⟩
 have lu:=jd _ _ je
 exact⟨(),rfl,trivial,lu⟩
 intro qO L' bB
 refine(GH (cs:=(gD 0 0 0 0 0 0 0 0 0 0 0 0 0 0 0 false ([]) ([]) none 0 0 none 0 0 none 0 0)) (t:=42) bB rfl rfl (fun _=>by kernel_rfl) ?_)
 intro dY iA cz
 exact⟨dY,rfl,trivial,cz⟩
 rintro ⟨⟩ _ dY _
 intro lv cB
 have cK:Own w D lv (blk dY (gD 0 0 0 0 0 0 0 0 0 0 0 0 0 0 0 false ([]) ([]) none 0 0 none 0 0 none 0 0) 42::_):=cB.flat.pf []
 have cO:=cK.pf [1,2,3]
 have lw:=cO.pf [3]
 refine qe 7 rfl (Do.store (vs:= [vI a.aC.aG,vI a.aC.aH,vI a.aC.eP,vI a.aC.aN,vI a.aC.cZ,vI a.aC.eu,vU a.aC.aO,vU (ko a.ed a.aC.aG 1 b.ay a.aC.ay),vU (nT a.ed a.aC.aU b.ay),vU a.aC.dW,vU (ko a.ed a.aC.aG 9 b.aX a.aC.aX),vU a.aC.aL,vU (oD a.ed a.aC.dH 0),vU a.aC.bZ,vU a.aC.xN, .bool a.aC.d9, .string ⟨y6 a.aC.bT.bG⟩, .string ⟨y6 a.aC.bT.bU⟩, .slice a.aC.aF.A a.aC.aF.ls.length a.aC.aF.c, .slice a.aC.ah.A a.aC.ah.ls.length a.aC.ah.c, .slice a.aC.ag.A a.aC.ag.ls.length a.aC.ag.c]) (o:=0) lw rfl rfl M5 rfl rfl rfl rfl ?_)
 intro qP lC
 have iB:=lC.pf [1,2,3]
 refine⟨.inr ⟨_,iB⟩, ?_⟩
 refine qn ?_
 have lD:=iB.pb [0,1,2,3,22,23,24,25,26]
 have lF:=fA ja aZ bf bg bi bn bq bu lD
 have lG:=lF.pf [4,1,2,3]
 exact Gv (dY,ko a.ed a.aC.aG 1 b.ay a.aC.ay,nT a.ed a.aC.aU b.ay,ko a.ed a.aC.aG 9 b.aX a.aC.aX,b.av,b.ay,b.aX,b.aL,dQ,dS,b.ag.ls,dU,dV,gz,b.ak.ls,aU,aX,gF,b.aJ.ls,ko a.ed a.aC.aG 1 b.ay a.aC.ay,nT a.ed a.aC.aU b.ay,ko a.ed a.aC.aG 9 b.aX a.aC.aX) ⟨rfl,rfl,rfl,rfl,rfl,rfl,rfl,rfl,rfl,rfl,rfl,rfl,rfl,rfl,rfl,rfl,rfl,rfl,rfl,rfl,rfl,rfl,rfl,rfl,trivial⟩ (bT.2 ⟨lG,by exact dD,by exact dE,ai dC⟩)
 refine GY.do 6 rfl e7 (GH (cs:=(gD 0 0 0 0 0 0 0 0 0 0 0 0 0 0 0 false ([]) ([]) none 0 0 none 0 0 none 0 0)) (t:=42) eO rfl rfl (fun _=>by kernel_rfl) ?_)
 intro lI qQ lJ
 have cZ:=lJ.pf [1,2,3]
 refine⟨.inr ⟨_,cZ⟩, ?_⟩
 refine GX.do 4 rfl e7 (Gg T4 rfl ?_ (fun _ _ k=>k))
 refine cb T5 ?_
 refine sr (An rfl (FW (FW ?_)))
 have eP:=cZ.pf [9]
 obtain⟨lK,lL,gG,gI,gJ,gK,gL,gN,gP,gQ,gT,gU,gV,gW,gX,gY,gZ,ib,ic,ig,ik,il,iq,lM,lN,lQ,aZ,bf,bg,bi,bn,bq,bu,dG,jg,df⟩:=ji eP
 refine FV (Mz rfl (Kz (vP l 0) (Kz (vP l 34) (Lz (.pointer none) df 0 T6 (Kz (.bool true) (nt (jt (sr (An rfl (rt (tR (rs ?_))))))))))))
 have dh:=df.pf [18,19,20]
 refine⟨.inr ⟨_,dh⟩, ?_⟩
 obtain⟨lS,dH,jh,dI,jl⟩:=F3 dh
 refine qd 5 rfl (Gg U2 rfl (vW _ _ a b.av b.ay b.aX b.aL dQ b.ag.ls.length dS dU b.ak.ls.length dV aU b.aJ.ls.length aX 0 dH) ?_)
 rintro _ lT ⟨rfl,dJ⟩
 have bB:=dI _ _ dJ
 refine⟨.inr ⟨_,bB⟩, ?_⟩
 have eQ:=bB.pf [21]
 refine qe 7 rfl (Do.store (vs:= [vI a.aC.aG,vI a.aC.aH,vI a.aC.eP,vI a.aC.aN,vI a.aC.cZ,vI a.aC.eu,vU a.aC.aO,vU (ko a.ed a.aC.aG 1 b.ay a.aC.ay),vU (nT a.ed a.aC.aU b.ay),vU a.aC.dW,vU (ko a.ed a.aC.aG 9 b.aX a.aC.aX),vU a.aC.aL,vU (oD a.ed a.aC.dH 0),vU a.aC.bZ,vU a.aC.xN, .bool a.aC.d9, .string ⟨y6 a.aC.bT.bG⟩, .string ⟨y6 a.aC.bT.bU⟩, .slice a.aC.aF.A a.aC.aF.ls.length a.aC.aF.c, .slice a.aC.ah.A a.aC.ah.ls.length a.aC.ah.c, .slice a.aC.ag.A a.aC.ag.ls.length a.aC.ag.c]) (o:=0) eQ rfl rfl M5 rfl rfl rfl rfl ?_)
 intro iA cz
 have dm:=cz.pf [1,2,3]
 refine⟨.inr ⟨_,dm⟩, ?_⟩
 refine qn ?_
 have cB:=dm.pb [0,1,2,3,22,23,24,25,26]
 have cK:=fA aZ bf bg bi bn bq bu dG cB
 have cO:=cK.pf [4,1,2,3]
 exact Gv (lI,ko a.ed a.aC.aG 1 b.ay a.aC.ay,nT a.ed a.aC.aU b.ay,ko a.ed a.aC.aG 9 b.aX a.aC.aX,b.av,b.ay,b.aX,b.aL,dQ,dS,b.ag.ls,dU,dV,gz,b.ak.ls,aU,aX,gF,b.aJ.ls,ko a.ed a.aC.aG 1 b.ay a.aC.ay,nT a.ed a.aC.aU b.ay,ko a.ed a.aC.aG 9 b.aX a.aC.aX) ⟨rfl,rfl,rfl,rfl,rfl,rfl,rfl,rfl,rfl,rfl,rfl,rfl,rfl,rfl,rfl,rfl,rfl,rfl,rfl,rfl,rfl,rfl,rfl,rfl,trivial⟩ (bT.2 ⟨cO,by exact dD,by exact dE,ai dC⟩)
 refine GY.do 6 rfl e7 (GH (cs:=(gD 0 0 0 0 0 0 0 0 0 0 0 0 0 0 0 false ([]) ([]) none 0 0 none 0 0 none 0 0)) (t:=42) gy rfl rfl (fun _=>by kernel_rfl) ?_)
 intro lU qR lV
 have iC:=lV.pb [0,4]
 refine⟨.inr ⟨_,iC⟩, ?_⟩
 have lW:=iC.pf [4]
 obtain⟨b,eT⟩:∃ q,j3 g=q:=⟨_,rfl⟩
 obtain⟨qU,jo,oU,jr,oV⟩:=Gq lW
 refine qd 2 rfl (Gg Tryz.call11 rfl (pR _ _ l g b jo e8 f4 eT) ?_)
 rintro _ qV ⟨aU,aX,iD,iF,iG,iI,lX,lZ,rfl,jv,eU,eX⟩
 have dZ:=jr _ _ jv
 have oW:=az eU
 have oZ:=az eX
 have o5:=dZ.rowC (i:=0) rfl
 have o6:=dZ.rowC (i:=1) rfl
 have o7:=dZ.rowC (i:=3) rfl
 have cZ:=dZ.pf [6,7,8]
 refine⟨.inr ⟨_,cZ⟩, ?_⟩
 refine GX.do 4 rfl e7 (Gg T4 rfl ?_ (fun _ _ k=>k))
 refine cb T5 ?_
 refine sr (An rfl (FW (FW ?_)))
 have eP:=cZ.pf [8]
 obtain⟨lK,lL,gG,gI,gJ,gK,gL,gN,gP,gQ,gT,gU,gV,gW,gX,gY,gZ,ib,ic,ig,ik,il,iq,lM,lN,lQ,aZ,bf,bg,bi,bn,bq,bu,dG,jg,df⟩:=ji eP
 refine FV (Mz rfl (Kz (vP l 0) (Kz (vP l 34) (Lz (.pointer none) df 0 T6 (Kz (.bool true) (nt (jt (sr (An rfl (rt (tR (rs ?_))))))))))))
 have dh:=df.pf [18,19,20]
 refine⟨.inr ⟨_,dh⟩, ?_⟩
 obtain⟨lS,dH,jh,dI,jl⟩:=F3 dh
 refine qd 5 rfl (Gg U2 rfl (vW _ _ a b.av b.ay b.aX b.aL aU b.ag.ls.length aX iD b.ak.ls.length iF iG b.aJ.ls.length iI 0 dH) ?_)
 rintro _ lT ⟨rfl,dJ⟩
 have bB:=dI _ _ dJ
 refine⟨.inr ⟨_,bB⟩, ?_⟩
 have eQ:=bB.pf [26]
 refine qe 7 rfl (Do.store (vs:= [vI a.aC.aG,vI a.aC.aH,vI a.aC.eP,vI a.aC.aN,vI a.aC.cZ,vI a.aC.eu,vU a.aC.aO,vU (ko a.ed a.aC.aG 1 b.ay a.aC.ay),vU (nT a.ed a.aC.aU b.ay),vU a.aC.dW,vU (ko a.ed a.aC.aG 9 b.aX a.aC.aX),vU a.aC.aL,vU (oD a.ed a.aC.dH 0),vU a.aC.bZ,vU a.aC.xN, .bool a.aC.d9, .string ⟨y6 a.aC.bT.bG⟩, .string ⟨y6 a.aC.bT.bU⟩, .slice a.aC.aF.A a.aC.aF.ls.length a.aC.aF.c, .slice a.aC.ah.A a.aC.ah.ls.length a.aC.ah.c, .slice a.aC.ag.A a.aC.ag.ls.length a.aC.ag.c]) (o:=0) eQ rfl rfl M5 rfl rfl rfl rfl ?_)
 intro iA cz
 have dm:=cz.pf [1,2,3]
 refine⟨.inr ⟨_,dm⟩, ?_⟩
 refine qn ?_
 have cB:=dm.pb [0,1,2,3,22,23,24,25,26]
 have cK:=fA aZ bf bg bi bn bq bu dG cB
 have cO:=cK.pf [4,1,2,3]
 exact Gv (lU,ko a.ed a.aC.aG 1 b.ay a.aC.ay,nT a.ed a.aC.aU b.ay,ko a.ed a.aC.aG 9 b.aX a.aC.aX,b.av,b.ay,b.aX,b.aL,aU,aX,b.ag.ls,iD,iF,lX,b.ak.ls,iG,iI,lZ,b.aJ.ls,ko a.ed a.aC.aG 1 b.ay a.aC.ay,nT a.ed a.aC.aU b.ay,ko a.ed a.aC.aG 9 b.aX a.aC.aX) ⟨rfl,rfl,rfl,rfl,rfl,rfl,rfl,rfl,rfl,rfl,rfl,rfl,rfl,rfl,rfl,rfl,rfl,rfl,rfl,rfl,rfl,rfl,rfl,rfl,trivial⟩ (bT.2 ⟨cO,by exact eU,by exact eX,ai eT⟩)
 rintro ⟨u,af,K,L,au,av,ay,aC,R,S,C,T,U,V,M,W,X,Y,N,aD,aF,aG⟩ qW jw
 obtain⟨eY,jy,jA,jB⟩:=bT.1 jw
 have o8:=az jy
 have o9:=az jA
 refine FW (sr (Kz (vP u 0) (Lz (vI a.aC.aG) eY 0 C6 (Kz (.bool (decide (a.aC.aG=1))) (nt ?_)))))
 obtain⟨l5,dL⟩:=mZ fun (Z:Nat) w'=>Own w D w' [blk u [vI a.aC.aG,vI a.aC.aH,vI a.aC.eP,vI a.aC.aN,vI a.aC.cZ,vI a.aC.eu,vU a.aC.aO,vU Z,vU K,vU a.aC.dW,vU L,vU a.aC.aL,vU (oD a.ed a.aC.dH 0),vU a.aC.bZ,vU a.aC.xN, .bool a.aC.d9, .string ⟨y6 a.aC.bT.bG⟩, .string ⟨y6 a.aC.bT.bU⟩, .slice a.aC.aF.A a.aC.aF.ls.length a.aC.aF.c, .slice a.aC.ah.A a.aC.ah.ls.length a.aC.ah.c, .slice a.aC.ag.A a.aC.ag.ls.length a.aC.ag.c] 42,blk G [.slice none 0 0, .bool false] 47,blk r (fU.cells a) 44,pq F iH.key kI aa,iE l g,row R C.length S (q6 aW.cells C) 89 2,row T M.length U (q6 aA.cells V) 60 5,sepL (q6 aA.own V),row W N.length X (q6 aT.cells Y) 56 4,sepL (q6 aT.own Y)]∧(if a.aC.aG=1 then 1 else af)=Z
 refine GG (fun i:Nat=> [(56, .bool (decide (a.aC.aG=1))),(55,vI a.aC.aG),(54,vP u 0),(10,vP u 0),(48, .agg (fU.cells a).toArray),(49,vP l 0),(50, .agg #[vI au,vU av,vU ay,vU aC, .slice R C.length S, .slice T M.length U, .slice W N.length X]),(51,vP l 0),(52, .int .u64 0),(53, .agg #[vI a.aC.aG,vI a.aC.aH,vI a.aC.eP,vI a.aC.aN,vI a.aC.cZ,vI a.aC.eu,vU a.aC.aO,vU aD,vU aF,vU a.aC.dW,vU aG,vU a.aC.aL,vU (oD a.ed a.aC.dH 0),vU a.aC.bZ,vU a.aC.xN, .bool a.aC.d9, .string ⟨y6 a.aC.bT.bG⟩, .string ⟨y6 a.aC.bT.bU⟩, .slice a.aC.aF.A a.aC.aF.ls.length a.aC.aF.c, .slice a.aC.ah.A a.aC.ah.ls.length a.aC.ah.c, .slice a.aC.ag.A a.aC.ag.ls.length a.aC.ag.c]),(46, .bool (decide (a.kX=0))),(47, .bool (decide (a.kX=0))),(45,vI a.kX),(44,vP r 0),(9,vP G 0),(43, .agg #[.slice none 0 0, .bool false]),(8,vP r 0),(42, .agg (fU.cells a).toArray),(41, .pointer (some ⟨ab A0,ao A0+h *25,none⟩)),(40, .bool (decide (((h:Nat):Int) < ((l0.length:Nat):Int)))),(2, .bool false),(39,vJ h),(38,vJ l0.length),(37, .slice A0 l0.length c0),(6, .map (some F)),(4,vP l 0),(3, .bool P)]) l5 ?_ ?_
 by_cases d9:a.aC.aG=1
 refine jT (dT d9) (FV (Kz (vP u 7) ?_))
 refine dN [.int .u64 1] 7 eY M6 ?_
 intro qX l6
 refine D0 ?_
 have l7:=l6.pf []
 exact Gv 1 ⟨rfl,rfl,rfl,rfl,rfl,rfl,rfl,rfl,rfl,rfl,rfl,rfl,rfl,rfl,rfl,rfl,rfl,rfl,rfl,rfl,rfl,rfl,rfl,rfl,rfl,rfl,rfl,trivial⟩ (dL.2 ⟨l7,ip d9⟩)
 refine jF (dF d9) (Gn ?_)
 have l8:=eY.pf []
 exact Gv af ⟨rfl,rfl,rfl,rfl,rfl,rfl,rfl,rfl,rfl,rfl,rfl,rfl,rfl,rfl,rfl,rfl,rfl,rfl,rfl,rfl,rfl,rfl,rfl,rfl,rfl,rfl,rfl,trivial⟩ (dL.2 ⟨l8,iN d9⟩)
 rintro Z qY jC
 obtain⟨iJ,jD⟩:=dL.1 jC
 refine FV (Mz rfl (La ([vI a.aC.aG,vI a.aC.aH,vI a.aC.eP,vI a.aC.aN,vI a.aC.cZ,vI a.aC.eu,vU a.aC.aO,vU Z,vU K,vU a.aC.dW,vU L,vU a.aC.aL,vU (oD a.ed a.aC.dH 0),vU a.aC.bZ,vU a.aC.xN, .bool a.aC.d9, .string ⟨y6 a.aC.bT.bG⟩, .string ⟨y6 a.aC.bT.bU⟩, .slice a.aC.aF.A a.aC.aF.ls.length a.aC.aF.c, .slice a.aC.ah.A a.aC.ah.ls.length a.aC.ah.c, .slice a.aC.ag.A a.aC.ag.ls.length a.aC.ag.c]) iJ 0 Tryz.isAgg42 M5 ?_))
 have l9:=iJ.pf [4]
 obtain⟨⟨bD,iK,aJ⟩,fe⟩:∃ q:jW × Int × aB,eF g (bM.mk a.aC.aG a.aC.aH a.aC.eP a.aC.aN a.aC.cZ a.aC.eu a.aC.aO Z K a.aC.dW L a.aC.aL (oD a.ed a.aC.dH 0) a.aC.bZ a.aC.xN a.aC.d9 a.aC.bT (E4 a.aC.aF.ls) (E4 (s8 ae.abs a.aC.ah.ls)) (E4 a.aC.ag.ls))=q:=⟨_,rfl⟩
 obtain⟨qZ,jE,bU,jG,pu⟩:=Gq l9
 refine cl Tryz.call13 (jK _ _ l g (bM.mk a.aC.aG a.aC.aH a.aC.eP a.aC.aN a.aC.cZ a.aC.eu a.aC.aO Z K a.aC.dW L a.aC.aL (oD a.ed a.aC.dH 0) a.aC.bZ a.aC.xN a.aC.d9 a.aC.bT (E4 a.aC.aF.ls) (E4 (s8 ae.abs a.aC.ah.ls)) (E4 a.aC.ag.ls)) a.aC.aF.A a.aC.aF.ls.length a.aC.aF.c a.aC.ah.A a.aC.ah.ls.length a.aC.ah.c a.aC.ah.ls a.aC.ag.A a.aC.ag.ls.length a.aC.ag.c bD iK aJ jE rfl (bU _ (bY _ (E0 Q)).1) (show a.aC.aF.ls.length≤a.aC.aF.c∧a.aC.aF.ls.length≤9223372036854775807 from by omega) (rfl:s8 ae.abs a.aC.ah.ls=s8 ae.abs a.aC.ah.ls) f0 (fun w9 h9=>pg (az (rfl:s8 ae.abs a.aC.ah.ls=s8 ae.abs a.aC.ah.ls)) ((bU _ (bY _ (E0 Q)).2.2.1) w9 h9)) (show s2 (s8 ae.abs a.aC.ah.ls)≤a.aC.ah.c∧s2 (s8 ae.abs a.aC.ah.ls)≤9223372036854775807 from by omega) (fun x9 h9=>⟨bU _ ((bY _ (E0 Q)).2.2.2.2.1 x9 h9).1,((bY _ (E0 Q)).2.2.2.2.1 x9 h9).2⟩) rfl (bU _ (bY _ (E0 Q)).2.2.2.2.2.1) (show a.aC.ag.ls.length≤a.aC.ag.c∧a.aC.ag.ls.length≤9223372036854775807 from by omega) f9 f4 fe) ?_
 rintro _ rf ⟨fq,fu,ma,rfl,jH,fF,fG,fH⟩
 have iL:=jG _ _ jH
 have pz:=az fF
 have pE:=iL.rowC (i:=0) rfl
 replace fG:aJ.aa.ag.ls.length=g.aa.ag.ls.length∧aJ.aa.av=g.aa.av∧aJ.au.ls.length+aJ.aa.ak.ls.length≤8∧aJ.aa.aJ.ls.length≤g.aa.aJ.ls.length+1:=fG
 replace fH:Mk aJ:=fH
 refine Mz rfl (Kz (.agg #[.slice fq bD.eO.ls.length fu, .bool bD.iQ]) (Kz (vI iK) ?_))
 have mf:=iL.pf [4]
 refine dN [.slice fq bD.eO.ls.length fu, .bool bD.iQ] 0 mf S3 ?_
 intro rq mg
 refine D0 (bN ?_)
 have mh:=mg.pk [0,5,6,3,1,2]
 exact Gv (fq,fu,ma,bD.eO.ls,bD.iQ,aJ) ⟨rfl,rfl,rfl,rfl,rfl,rfl,rfl,rfl,rfl,rfl,rfl,rfl,rfl,rfl,rfl,rfl,rfl,trivial⟩ (bS.2 ⟨mh,by exact fF,e6,e6,e6,f4,et (ip cu) (et (ai jB) (et (ai jD) (ai fe)))⟩)
 refine jF (dF cu) (sr (Kz (.bool (decide (a.kX=1))) (An rfl ?_)))
 by_cases ed:a.kX=1
 refine jT (dT ed) (FV (Mz rfl ?_))
 have mi:=dP.pf [3]
 obtain⟨⟨dn,aK⟩,fI⟩:∃ q:jW × aB,jk g=q:=⟨_,rfl⟩
 obtain⟨ru,jI,pF,jJ,pG⟩:=Gq mi
 refine cl Tryz.call14 (uy _ _ l g dn aK jI e8 f4 fI) ?_
 rintro _ ry ⟨iM,iO,mo,rfl,jM,fJ,fK,fM⟩
 have iP:=jJ _ _ jM
 have pI:=az fJ
 have pJ:=iP.rowC (i:=0) rfl
 replace fK:aK.aa.ag.ls.length=g.aa.ag.ls.length∧aK.aa.av=g.aa.av∧aK.au.ls.length+aK.aa.ak.ls.length≤8∧aK.aa.aJ.ls.length≤g.aa.aJ.ls.length+0:=fK
 replace fM:Mk aK:=fM
 have mq:=iP.pf [3]
 refine dN [.slice iM dn.eO.ls.length iO, .bool dn.iQ] 0 mq S3 ?_
 intro rz mr
 refine D0 (bN ?_)
 have mD:=mr.pb [3,1,2]
 exact Gv (iM,iO,mo,dn.eO.ls,dn.iQ,aK) ⟨rfl,rfl,rfl,rfl,rfl,rfl,rfl,rfl,rfl,rfl,rfl,rfl,rfl,rfl,rfl,rfl,rfl,trivial⟩ (bS.2 ⟨mD,by exact fJ,e6,e6,e6,f4,et (iN cu) (et (ip ed) (ai fI))⟩)
 refine jF (dF ed) (Gn (bN ?_))
 have mE:Own w D gu (sepL (q6 bC.own ([]))::_):=dP.sepNil
 have mF:Own w D gu (row none 0 0 (q6 bC.cells ([])) 42 21::_):=mE.free (fB 42 21)
 have mG:=mF.pb [0,1]
 exact Gv (none,0, [], [],false,g) ⟨rfl,rfl,rfl,rfl,rfl,rfl,rfl,rfl,rfl,rfl,rfl,rfl,rfl,rfl,rfl,rfl,rfl,trivial⟩ (bS.2 ⟨mG,(show s8 bC.abs ([])=([])∧0≤s2 ([])∧0≤9223372036854775807∧(g.aa.ag.ls.length≤1000∧g.aa.av≤4∧g.au.ls.length+g.aa.ak.ls.length≤8∧g.aa.aJ.ls.length≤g.aa.aJ.ls.length+1)∧Mk g∧(if a.kX=0 then bnd (bnd (j3 g) fun J=>(ko a.ed a.aC.aG 1 J.ay a.aC.ay,nT a.ed a.aC.aU J.ay,ko a.ed a.aC.aG 9 J.aX a.aC.aX)) fun sJrbbtbbfLsJjtJ=>bnd (if a.aC.aG=1 then 1 else sJrbbtbbfLsJjtJ.1) fun sJrbbtbbfLsJjtJaJ=>bnd (eF g (bM.mk a.aC.aG a.aC.aH a.aC.eP a.aC.aN a.aC.cZ a.aC.eu a.aC.aO sJrbbtbbfLsJjtJaJ sJrbbtbbfLsJjtJ.2.1 a.aC.dW sJrbbtbbfLsJjtJ.2.2 a.aC.aL (oD a.ed a.aC.dH 0) a.aC.bZ a.aC.xN a.aC.d9 a.aC.bT (E4 a.aC.aF.ls) (E4 (s8 ae.abs a.aC.ah.ls)) (E4 a.aC.ag.ls))) fun aR=>(aR.1.eO.ls,aR.2.2) else if a.kX=1 then bnd (jk g) fun aS=>(aS.1.eO.ls,aS.2) else([],g))=(([]),g) from ⟨by exact rfl,e6,e6,e6,f4,et (iN cu) (iN ed)⟩)⟩)
 rintro ⟨s,B,I,f,aQ,j⟩ rA jN
 obtain⟨iQ,fO,pK,pM,pO,pQ,fP⟩:=bS.1 jN
 have pU:=az fO
 refine sr (Kz (vP G 0) (Lz (.slice s f.length B) iQ 0 Tryz.isAgg45 (Kz (vJ f.length) (Mn rfl (bo ?_)))))
 have mH:=iQ.pf []
 obtain⟨mI,bE⟩:=Em fun (p:Nat) O w'=>Own w D w' [blk G [.slice s f.length B, .bool aQ] 47,blk r (fU.cells a) 44,pq F iH.key kI O,iE l j,row s f.length B (q6 bC.cells I) 42 21,sepL (q6 bC.own I)]∧p≤f.length∧gH j f aa=gH j (r6 p f) O
 refine Wp.loop (fun i:Nat × (List (iH × Int))=> [(2, .bool false),(71,vJ i.1),(70,vJ f.length),(69, .slice s f.length B),(68,vP G 0),(46, .bool (decide (a.kX=0))),(47, .bool (decide (a.kX=0))),(45,vI a.kX),(44,vP r 0),(9,vP G 0),(43, .agg #[.slice none 0 0, .bool false]),(8,vP r 0),(42, .agg (fU.cells a).toArray),(41, .pointer (some ⟨ab A0,ao A0+h *25,none⟩)),(40, .bool (decide (((h:Nat):Int) < ((l0.length:Nat):Int)))),(39,vJ h),(38,vJ l0.length),(37, .slice A0 l0.length c0),(6, .map (some F)),(4,vP l 0),(3, .bool P)]) mI (fun i=>f.length - i.1) (0,aa) ⟨rfl,rfl,rfl,rfl,rfl,rfl,rfl,rfl,rfl,rfl,rfl,rfl,rfl,rfl,rfl,rfl,rfl,rfl,rfl,rfl,rfl,trivial⟩ (bE.2 ⟨mH,e6,rfl⟩) ?_
 rintro ⟨p,O⟩ rC jO
 obtain⟨aL,pV,bF⟩:=bE.1 jO
 refine sr (Kz (.bool (decide (((p:Nat):Int) < ((f.length:Nat):Int)))) (nt (FW ?_)))
 by_cases iR:((p:Nat):Int) < ((f.length:Nat):Int)
 obtain⟨d,bG⟩:=dK (ls:=I) (i:=p) bC.len f3 (aL.rds (i:=4) rfl) e9
 have jP:=fo fO bG
 have pW:d.aF.ls.length≤d.aF.c∧d.aF.ls.length≤9223372036854775807:=aY aL (i:=5) rfl (φ:=fun _=>_) (ax (P2.2 ⟨d,E0 bG,b1⟩) aV)
 have pX:d.ah.ls.length≤d.ah.c∧d.ah.ls.length≤9223372036854775807:=aY aL (i:=5) rfl (φ:=fun _=>_) (ax (P2.2 ⟨d,E0 bG, .tail _ b1⟩) aV)
 have pY:d.ag.ls.length≤d.ag.c∧d.ag.ls.length≤9223372036854775807:=aY aL (i:=5) rfl (φ:=fun _=>_) (ax (P2.2 ⟨d,E0 bG, .tail _ b2⟩) aV)
 have bV:=drop_at jP
 refine jT (dT iR) (sk (FW (bo (sr (fw (.pointer (some ⟨ab s,ao s+p *21,none⟩)) (F4 (uD) rfl rfl ((aL.rds (i:=4) rfl).addr (i:=p) e6) e6) (fw (.agg (bC.cells d).toArray) (F7 rfl (Gf (cs:=(bC.cells d)) Tryz.isAgg42 M5 ((aL.rds (i:=4) rfl).elem bC.len bG f3))) ?_))))))
 refine dM (gD 0 0 0 0 0 0 0 0 0 0 0 0 0 0 0 false ([]) ([]) none 0 0 none 0 0 none 0 0) 42 aL ?_
 intro bP rD mJ
 refine dN (bC.cells d) 0 mJ M5 ?_
 intro rE dw
 refine nt (FW (sr (Kz (vP bP 0) (Lz (vI d.aG) dw 0 C6 (fw (.bool (decide (¬ (d.aG=2)))) (Gm (e:= !(decide (d.aG=2))) yk decide_not.symm) (nt ?_))))))
 by_cases bQ:d.aG=2
 refine jF (dF (JR bQ)) (sk (sr (Kz (vP bP 2) (Lz (vI d.eP) dw 0 C6 (Kz (vP bP 6) (Lz (vU d.aO) dw 0 E1 (Kz (.agg #[vI d.eP,vU d.aO]) ?_)))))))
 refine dM [vI 0, .int .u64 0] 65 dw ?_
 intro rF rG mK
 refine dN [vI d.eP,vU d.aO] 0 mK U3 ?_
 intro rH mM
 refine nt (FW (FW ?_))
 refine oL 8 [] (Gb (Gb (bL.block (Gb (Gb (bL.block (bL.block (Gb (Gb (bL.block (Gb Gj))))))))))) mM ?_
 intro rJ bH
 refine qv 0 rfl rfl (qb 1 rfl 0 U4 U3 rfl rfl rfl ?_)
 obtain⟨ek,bW⟩:∃ q,oH O (iH.mk d.eP d.aO)=q:=⟨_,rfl⟩
 refine qt (v:=vI (Option.getD ek 0)) 2 rfl (fun _ ⟨_,H9⟩=>Ip (k:=(iH.mk d.eP d.aO)) (d0:=0) (i:=4) H9 rfl wC U5 (fun _=>by kernel_rfl) rfl rfl bW) (qt (v:= .bool (decide (¬ ((Option.getD ek 0)=0)))) 3 rfl (fun _ _=>Gm (e:= !(decide ((Option.getD ek 0)=0))) yk decide_not.symm) (qv 4 rfl rfl ?_))
 by_cases E:(Option.getD ek 0)=0
 refine F5 (rs:= []) 5 rfl rfl rfl (dF (JR E)) e7 (F5 (rs:= []) 6 rfl rfl rfl (dF (JR E)) e7 (F5 (rs:= []) 7 rfl rfl rfl (dF (JR E)) e7 (F5 (rs:= []) 8 rfl rfl rfl (dF (JR E)) e7 (F5 (rs:= []) 9 rfl rfl rfl (dF (JR E)) e7 (F5 (rs:= []) 10 rfl rfl rfl (dF (JR E)) e7 (qt (v:= .bool false) 11 rfl (fun _ _=>FZ rfl (dF (JR E)) rfl) (qn (FY (jf (sk (FV (Mz rfl (La ([vI d.eP,vU d.aO]) bH 0 U4 U3 (Kz (vP bP 4) (Lz (vI d.cZ) bH 1 C6 ?_)))))))))))))))
 have mO:=bH.pf [4]
 refine G5 (Ib (k:=(iH.mk d.eP d.aO)) (v:=d.cZ) mO wC U5 rfl rfl rfl ?_)
 intro rM mP
 refine D0 (bN (FY (FV (fw (vJ (p+1)) (FX (e:=C7.wrap (((p:Nat):Int)+1)) yk f1) (Mz rfl (D0 ?_))))))
 have mQ:=mP.px [3,4] [1,2] []
 exact Gc (p+1,(lH O (iH.mk d.eP d.aO) d.cZ)) ⟨rfl,rfl,rfl,rfl,rfl,rfl,rfl,rfl,rfl,rfl,rfl,rfl,rfl,rfl,rfl,rfl,rfl,rfl,rfl,rfl,rfl,trivial⟩ (bE.2 ⟨mQ,e6,et (bF) (et (congrArg (fun q=>gH j q O) bV) (et (ip bQ) (et (ai bW) (ip E))))⟩) (by show f.length - (p+1) < f.length - p; omega)
 refine F8 (v:= .map (some F)) (rs:= []) 5 rfl rfl rfl (dT E) e7 (fun _ _=>F9 rfl) (F8 (v:= .agg #[vI d.eP,vU d.aO]) (rs:= []) 6 rfl rfl rfl (dT E) e7 (fun _ ⟨_,H9⟩=>F7 rfl (Gf (cs:= [vI d.eP,vU d.aO]) U4 U3 ((H9.cls (i:=0) rfl).lit (k:=0) (m:=2) rfl))) ?_)
 obtain⟨dx,dO⟩:∃ q,oH O (iH.mk d.eP d.aO)=q:=⟨_,rfl⟩
 refine F8 (v:=vI (Option.getD dx 0)) (rs:= []) 7 rfl rfl rfl (dT E) e7 (fun _ ⟨_,H9⟩=>Ip (k:=(iH.mk d.eP d.aO)) (d0:=0) (i:=4) H9 rfl wC U5 (fun _=>by kernel_rfl) rfl rfl dO) (F8 (v:=vP bP 4) (rs:= []) 8 rfl rfl rfl (dT E) e7 (fun _ _=>yk) (F8 (v:=vI d.cZ) (rs:= []) 9 rfl rfl rfl (dT E) e7 (fun _ ⟨_,H9⟩=>F7 rfl (bX.one C6 (jL.of (H9.cls (i:=1) rfl) rfl))) (F8 (v:= .bool (decide (¬ ((Option.getD dx 0)=d.cZ)))) (rs:= []) 10 rfl rfl rfl (dT E) e7 (fun _ _=>Gm (e:= !(decide ((Option.getD dx 0)=d.cZ))) yk decide_not.symm) (qt (v:= .bool (decide (¬ ((Option.getD dx 0)=d.cZ)))) 11 rfl (fun _ _=>Gd rfl (dT E) rfl) (qn (FY ?_))))))
 by_cases eu:(Option.getD dx 0)=d.cZ
 refine jF (dF (JR eu)) (sk (FV (Mz rfl (La ([vI d.eP,vU d.aO]) bH 0 U4 U3 (Kz (vP bP 4) (Lz (vI d.cZ) bH 1 C6 ?_))))))
 have mR:=bH.pf [4]
 refine G5 (Ib (k:=(iH.mk d.eP d.aO)) (v:=d.cZ) mR wC U5 rfl rfl rfl ?_)
 intro rO mU
 refine D0 (bN (FY (FV (fw (vJ (p+1)) (FX (e:=C7.wrap (((p:Nat):Int)+1)) yk f1) (Mz rfl (D0 ?_))))))
 have mV:=mU.px [3,4] [1,2] []
 exact Gc (p+1,(lH O (iH.mk d.eP d.aO) d.cZ)) ⟨rfl,rfl,rfl,rfl,rfl,rfl,rfl,rfl,rfl,rfl,rfl,rfl,rfl,rfl,rfl,rfl,rfl,rfl,rfl,rfl,rfl,trivial⟩ (bE.2 ⟨mV,e6,et (bF) (et (congrArg (fun q=>gH j q O) bV) (et (ip bQ) (et (ai bW) (et (iN E) (et (ai dO) (ip eu))))))⟩) (by show f.length - (p+1) < f.length - p; omega)
 refine jT (dT eu) (sr (An rfl (rt (tR (bR (tR (tR (bR (bR (tR (tR (bR (tR (rs ?_))))))))))))))
 have mW:=bH.pk []
 obtain rfl:_=false:=hr.symm.trans (et (ai aM) (et (ai aN) (et (ip ah) (et (ai bK) (et (ai aO) (et (iN bO) (jq (et (dB) (et (congrArg (fun q=>gM P q aa g) eH) (et (ai fP) (qw (et (bF) (et (congrArg (fun q=>gH j q O) bV) (et (ip bQ) (et (ai bW) (et (iN E) (et (ai dO) (iN eu))))))))))))))))))
 exact⟨rfl,mW⟩
 refine jT (dT bQ) (Wp.exit (F6 (Gi (FY (FV (fw (vJ (p+1)) (FX (e:=C7.wrap (((p:Nat):Int)+1)) yk f1) (Mz rfl (D0 ?_))))))))
 have mX:=dw.px [] [0] []
 exact Gc (p+1,O) ⟨rfl,rfl,rfl,rfl,rfl,rfl,rfl,rfl,rfl,rfl,rfl,rfl,rfl,rfl,rfl,rfl,rfl,rfl,rfl,rfl,rfl,trivial⟩ (bE.2 ⟨mX,e6,et (bF) (et (congrArg (fun q=>gH j q O) bV) (iN bQ))⟩) (by show f.length - (p+1) < f.length - p; omega)
 refine jF (dF iR) (Wp.exit (F6 ?_))
 have jQ:gH j f aa=C1 O:=et (bF) (et (congrArg (fun q=>gH j q O) (eZ (ls:=f) (i:=p) e6)) rfl)
 refine F6 (Gi (bN (FY (FV (fw (vJ (h+1)) (FX (e:=C7.wrap (((h:Nat):Int)+1)) yk f1) (Mz rfl (D0 ?_)))))))
 have mY:=aL.pk [2,3]
 exact Gc (h+1,O,j) ⟨rfl,rfl,rfl,rfl,rfl,rfl,rfl,trivial⟩ (dA.2 ⟨mY,e6,by first | omega | (dsimp only; omega) | exact uN f4 f4,by first | assumption | exact xX f4 f4,Eq.trans (dB) (Eq.trans (congrArg (fun q=>gM P q aa g) eH) (Eq.trans (ai fP) (tH jQ)))⟩) (by show l0.length - (h+1) < l0.length - h; omega)
 refine jF (dF gq) (Wp.exit (F6 ?_))
 have jR:gM P l0 ([]) z=C1 ():=et (dB) (et (congrArg (fun q=>gM P q aa g) (eZ (ls:=l0) (i:=h) e6)) rfl)
 refine F6 (Gi (FY (FW ?_)))
 have ng:=bZ.pk []
 refine FV (Mz rfl (An rfl (rt (rs ?_))))
 have nk:=ng.pk []
 obtain rfl:_=P:=hr.symm.trans (et (ai aM) (et (ai aN) (et (ip ah) (et (ai bK) (et (ai aO) (et (iN bO) (nU jR)))))))
 exact⟨rfl,nk⟩
 refine Sz (dT ah) (Sz (dT ah) (Sz (dT ah) (fw (.bool true) (Gd rfl (dT ah) rfl) (nt (jt (sr (Az rfl (An rfl (rt (tR (Fin.res (lY rfl rfl rfl) (Mz rfl (Kz (.pointer none) (Kz (vI 1) (Az rfl (An rfl (FW (FW ?_))))))))))))))))))
 have iT:=fT.pk []
 refine FV (Mz rfl (Kz (.bool true) (Mz rfl (Sz rfl (Sz rfl (fw (.bool true) (Gd rfl rfl rfl) (Mz rfl (Sz rfl (Sz rfl (Sz rfl (fw (.bool true) (Gd rfl rfl rfl) (nt (jt (sr (Mz rfl (Mz rfl ?_))))))))))))))))
 rcases JS (P) with aH | aH
 refine GM (v:= .pointer none) rfl rfl aH rfl (F9 rfl) (Gz (.bool false) aH (fw (.bool false) (Gd rfl aH rfl) (An rfl (rt (tR (rs ?_))))))
 have nu:=iT.pk []
 obtain rfl:_=false:=hr.symm.trans (et (ai aM) (et (ai aN) (et (iN ah) (ip aH))))
 exact⟨rfl,nu⟩
 refine Sz aH (Sz aH (fw (.bool false) (FZ rfl aH rfl) (An rfl (rt (tR (rs ?_))))))
 have ny:=iT.pk []
 obtain rfl:_=false:=hr.symm.trans (et (ai aM) (et (ai aN) (et (iN ah) (gB aH))))
 exact⟨rfl,ny⟩
end Go.Proofs.YtbkagebjhbphaaaGreat
