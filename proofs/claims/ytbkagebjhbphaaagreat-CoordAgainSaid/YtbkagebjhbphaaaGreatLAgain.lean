/-
 coord: the law CoordAgain
-/
import Derived.Test.YtbkagebjhbphaaaGreatLv
import Derived.Test.YtbkagebjhbphaaaGreatCoU
namespace Go.Proofs.YtbkagebjhbphaaaGreat
open Int renaming toNat→D2
open IntKind renaming i64→C7,u64→D3
open List renaming drop→r6,flatMap→q6,length→s2,length_map→s6,map→s8,mem_flatMap→P3,mem_of_getElem?→E0,not_mem_nil→B3,toArray→y6
open Ll renaming mk→E4
open Sum renaming inl→C1
open _root_.Go.Proofs.Tryz renaming call10→U3,call12→T5,func12→T6,isAgg28→E1,isAgg3→C6,isAgg33→S8,isAgg65→U5,isAgg84→U0,sizeOf28→M7,sizeOf33→I0,sizeOf42→M6,sizeOf44→U2,sizeOf47→S4,sizeOf65→U4,underlying63→U6
open WL renaming nil→D0
set_option maxRecDepth 100000
open Go.RowKit
set_option linter.unusedVariables false
set_option linter.unusedSectionVars false
set_option linter.unusedSimpArgs false
instance:DecidableEq iH:=fun a b=>if h:a.ny=b.ny∧a.aF=b.aF then isTrue (by cases a; cases b; obtain⟨c,d⟩:=h; simp only at c d; subst c; subst d; rfl) else isFalse (fun e=>h (by rw [e]; exact⟨rfl,rfl⟩))
def iH.key (q:iH):Value:= .agg (y6 (iH.cells q))
theorem wz:yc Tryz.prog 65 iH.key:=CV (x:=fun q=>q.ny) (y:=fun q=>((q.aF:Nat):Int)) (fun _=>rfl) (fun a b e f=>by
 cases a; cases b
 have c:=e
 have d:=(Int.ofNat.inj f)
 simp only at c d
 subst c; subst d; rfl) Tryz.underlying65 rfl rfl Tryz.underlying3 Tryz.underlying28 f3 f3 e7
def gH (b:aB):List bQ→List (iH × Int)→(List (iH × Int)) ⊕ Bool
  | [],c=>C1 c
  | a::d,c=>if a.aH=2 then bnd (oF c (iH.mk a.eO a.aU)) fun e=>if(Option.getD e 0)=0 then gH b d (lH c (iH.mk a.eO a.aU) a.dz) else bnd (oF c (iH.mk a.eO a.aU)) fun f=>if(Option.getD f 0)=a.dz then gH b d (lH c (iH.mk a.eO a.aU) a.dz) else Sum.inr (false) else gH b d c
def gM (h:Bool):List StepT→List (iH × Int)→aB→Unit ⊕ Bool
  | [],f,b=>C1 ()
  | a::g,f,b=>bnd (if a.kX=0 then bnd (bnd (j3 b) fun c=>(ko a.ed a.aC.aH 1 c.ax a.aC.ax,nR a.ed a.aC.bi c.ax,ko a.ed a.aC.aH 9 c.bf a.aC.bf)) fun sJrbbtbbfLsJjtJ=>bnd (if a.aC.aH=1 then 1 else sJrbbtbbfLsJjtJ.1) fun sJrbbtbbfLsJjtJaJ=>bnd (eF b (bQ.mk a.aC.aH a.aC.aJ a.aC.eO a.aC.aS a.aC.dz a.aC.eu a.aC.aU sJrbbtbbfLsJjtJaJ sJrbbtbbfLsJjtJ.2.1 a.aC.dW sJrbbtbbfLsJjtJ.2.2 a.aC.aK (oz a.ed a.aC.dI 0) a.aC.cZ a.aC.xN a.aC.d9 a.aC.bV (E4 a.aC.aG.ls) (E4 a.aC.ah.ls) (E4 a.aC.ag.ls))) fun d=>(d.1.eP.ls,d.2.2) else if a.kX=1 then bnd (jk b) fun e=>(e.1.eP.ls,e.2) else([],b)) fun sJrbbtbbfLsJ=>sI (gH sJrbbtbbfLsJ.2 sJrbbtbbfLsJ.1 f) fun sLrbbtbbfLsJaL=>gM h g sLrbbtbbfLsJaL sJrbbtbbfLsJ.2
def qY (l0:List StepT):Bool:=
 bnd (uM) fun b=>bnd (jc (dC.mk 2 0 0 1 (E4 ([(bv.mk ([]) 1),(bv.mk ([109]) 2)])) (E4 ([])) (E4 ([])))) fun d=>if d=0 then bnd (jm (dC.mk 2 0 0 1 (E4 ([(bv.mk ([]) 1),(bv.mk ([109]) 2)])) (E4 ([])) (E4 ([])))) fun a=>bnd ((aB.mk (dC.mk a.av (D2 (D3.wrap (((a.ax:Nat):Int)+1))) (fD (D2 (D3.wrap (((a.ax:Nat):Int)+1))) 32) a.aK (E4 a.ag.ls) (E4 a.aj.ls) (E4 a.aI.ls)) 0 (E4 ([])) (dX.mk false 0 0 (E4 ([]))) (dX.mk false 0 0 (E4 ([]))) (dX.mk false 0 0 (E4 ([]))) (dX.mk false 0 0 (E4 ([]))) (dX.mk false 0 0 (E4 ([]))) 0 0 0 0 0)) fun c=>if((l0.length:Nat):Int) > 100 then if b=true then true else false else lp (gM b l0 ([]) c) fun _=>b else if b=true then false else false
set_option maxHeartbeats 4000000 in
theorem wH (w:World) (D:Nat→Prop) (A0:Option Addr) (n0 c0:Nat) (d0:List fU) (l0:List StepT) (r0:Bool) (H:Own w D w []) (jU:s8 fU.abs d0=l0) (iU:Ro w D fun w'=>bD w' 25 A0 n0 (q6 fU.cells d0)) (bX:∀ x ∈ d0,Ro w D (fun w'=>bD w' 6 x.aC.aG.A x.aC.aG.ls.length (q6 bC.cells x.aC.aG.ls))∧(x.aC.aG.ls.length≤x.aC.aG.c∧x.aC.aG.ls.length≤9223372036854775807)∧Ro w D (fun w'=>bD w' 3 x.aC.ah.A x.aC.ah.ls.length (q6 af.cells x.aC.ah.ls))∧(x.aC.ah.ls.length≤x.aC.ah.c∧x.aC.ah.ls.length≤9223372036854775807)∧(∀ y1 ∈ x.aC.ah.ls,Ro w D (fun w'=>bD w' 2 y1.au.A y1.au.ls.length (q6 aL.cells y1.au.ls))∧(y1.au.ls.length≤y1.au.c∧y1.au.ls.length≤9223372036854775807))∧Ro w D (fun w'=>bD w' 2 x.aC.ag.A x.aC.ag.ls.length (q6 bv.cells x.aC.ag.ls))∧(x.aC.ag.ls.length≤x.aC.ag.c∧x.aC.ag.ls.length≤9223372036854775807)) (nA:n0=l0.length) (rP:l0.length *272≤211106232532992) (rQ:l0.length *272≤140737488351232) (nC:∀ x ∈ l0,x.aC.aU≤18446744073709551615∧x.aC.aG.ls.length≤140737488351232∧x.aC.ah.ls.length≤140737488351232∧x.aC.ag.ls.length≤140737488351232) (hr:qY l0=r0):
    Calls Tryz.prog 5 #[.slice A0 n0 c0] w (dR fun v w'=>v= .bool r0∧Own w D w' []):=by
 subst nA
 have p9:=az jU
 refine cb Tryz.func5 ?_
 refine sr (Ar rfl ?_)
 obtain⟨P,aM⟩:∃ q,uM=q:=⟨_,rfl⟩
 obtain⟨rR,jV,qa,jX,qc⟩:=FY H
 refine cl Tryz.call7 (AA _ _ P jV aM) ?_
 rintro _ rT ⟨rfl,jY⟩
 have nD:=jX _ _ jY
 refine Ar rfl ?_
 refine WL.do rfl (Gd Tryz.call9 rfl ?_ (fun _ _ k=>k))
 refine cb Tryz.func9 ?_
 refine sr ?_
 refine dM [vI 0, .int .u64 0, .int .u64 0, .int .u64 0, .slice none 0 0, .slice none 0 0, .slice none 0 0] 33 nD ?_
 intro rU rV nE
 refine ns (Kz (.agg #[.string ⟨y6 ([])⟩,vI 1]) (Kz (.agg #[.string ⟨y6 ([109])⟩,vI 2]) ?_))
 refine kL [.string ⟨y6 ([])⟩,vI 1, .string ⟨y6 ([109])⟩,vI 2] 89 2 2 nE ?_
 intro bI rW iV
 replace iV:=Gq (y:=row bI 2 2 (q6 bv.cells ([(bv.mk ([]) 1),(bv.mk ([109]) 2)])) 89 2) rfl iV
 refine Kz (.agg #[vI 2, .int .u64 0, .int .u64 0, .int .u64 1, .slice bI 2 2, .slice none 0 0, .slice none 0 0]) ?_
 have nG:=iV.pb [0]
 refine dN [vI 2, .int .u64 0, .int .u64 0, .int .u64 1, .slice bI 2 2, .slice none 0 0, .slice none 0 0] 0 nG I0 ?_
 intro rX j4
 refine nt (rt (Fin.res (mZ rfl rfl (Gc (cs:= [vI 2, .int .u64 0, .int .u64 0, .int .u64 1, .slice bI 2 2, .slice none 0 0, .slice none 0 0]) S8 I0 ((j4.cls (i:=0) rfl).lit (k:=0) (m:=7) rfl))) ?_))
 refine WL.do rfl (Gd Tryz.call8 rfl ?_ (fun _ _ k=>k))
 refine cb Tryz.func8 ?_
 refine FU ?_
 have nH:=j4.pk [1]
 refine FT ?_
 refine dM [vI 2, .int .u64 0, .int .u64 0, .int .u64 1, .slice bI 2 2, .slice none 0 0, .slice none 0 0] 33 nH ?_
 intro nI rY j5
 refine Az rfl (An rfl (FU (sr (La ([vI 2, .int .u64 0, .int .u64 0, .int .u64 1, .slice bI 2 2, .slice none 0 0, .slice none 0 0]) j5 0 S8 I0 ?_))))
 obtain⟨fQ,aN⟩:∃ q,jc (dC.mk 2 0 0 1 (E4 ([(bv.mk ([]) 1),(bv.mk ([109]) 2)])) (E4 ([])) (E4 ([])))=q:=⟨_,rfl⟩
 obtain⟨rZ,j6,qf,kg,kr⟩:=FY j5
 refine cl Tryz.call19 (nW _ _ (dC.mk 2 0 0 1 (E4 ([(bv.mk ([]) 1),(bv.mk ([109]) 2)])) (E4 ([])) (E4 ([]))) bI 2 2 none 0 0 [] none 0 0 [] fQ j6 rfl (kr _ 1 _ rfl aV) f2 rfl rfl (fun _ _=>bD.nil _ _ _) f2 (fun _ h9=>absurd h9 B3) rfl rfl (fun _ _=>bD.nil _ _ _) f2 (fun _ h9=>absurd h9 B3) e8 aN) ?_
 rintro _ r9 ⟨rfl,ku⟩
 have fT:=kg _ _ ku
 refine fw (.bool (decide (¬ (fQ=0)))) (Gi (e:= !(decide (fQ=0))) yk decide_not.symm) (Mz rfl ?_)
 by_cases ah:fQ=0
 refine gw (vP nI 1) (dF (JP ah)) yk (gw (.int .u64 0) (dF (JP ah)) (F5 rfl (bZ.one E1 (jL.of (fT.cls (i:=0) rfl) rfl))) (gw (.bool false) (dF (JP ah)) yk (fw (.bool false) (FX rfl (dF (JP ah)) rfl) (nt (jf (sk (sr (La ([vI 2, .int .u64 0, .int .u64 0, .int .u64 1, .slice bI 2 2, .slice none 0 0, .slice none 0 0]) fT 0 S8 I0 ?_))))))))
 obtain⟨n,bJ⟩:∃ q,jm (dC.mk 2 0 0 1 (E4 ([(bv.mk ([]) 1),(bv.mk ([109]) 2)])) (E4 ([])) (E4 ([])))=q:=⟨_,rfl⟩
 obtain⟨si,kv,qg,kw,ky⟩:=FY fT
 refine cl Tryz.call20 (oH _ _ (dC.mk 2 0 0 1 (E4 ([(bv.mk ([]) 1),(bv.mk ([109]) 2)])) (E4 ([])) (E4 ([]))) bI 2 2 none 0 0 [] none 0 0 [] n kv rfl (ky _ 1 _ rfl aV) f2 rfl rfl (fun _ _=>bD.nil _ _ _) f2 (fun _ h9=>absurd h9 B3) rfl rfl (fun _ _=>bD.nil _ _ _) f2 (fun _ h9=>absurd h9 B3) e8 (by first | assumption | exact Aj f4 | exact fun _ h9=>absurd h9 B3) (by first | assumption | exact Al f4 | exact fun _ h9=>absurd h9 B3) bJ) ?_
 rintro _ sj ⟨kz,kC,kD,kE,kF,kG,su,sw,rfl,kH,gm,gp⟩
 have fV:=kw _ _ kH
 have qh:=az gm
 have qi:=az gp
 have qj:=fV.rowC (i:=0) rfl
 have ql:=fV.rowC (i:=1) rfl
 have qo:=fV.rowC (i:=3) rfl
 have qp:n.ag.ls.length=2∧n.av=2∧n.aj.ls.length=0∧n.aI.ls.length=0:=Bo bJ
 refine Kz (.agg #[vI n.av,vU n.ax,vU n.bf,vU n.aK, .slice kz n.ag.ls.length kC, .slice kD n.aj.ls.length kE, .slice kF n.aI.ls.length kG, .int .u64 0, .slice none 0 0, .bool false, .int .u64 0,vI 0, .slice none 0 0, .bool false, .int .u64 0,vI 0, .slice none 0 0, .bool false, .int .u64 0,vI 0, .slice none 0 0, .bool false, .int .u64 0,vI 0, .slice none 0 0, .bool false, .int .u64 0,vI 0, .slice none 0 0, .int .u64 0, .int .u64 0, .int .u64 0, .int .u64 0, .int .u64 0, .pointer none]) ?_
 refine dM [vI n.av,vU n.ax,vU n.bf,vU n.aK, .slice kz n.ag.ls.length kC, .slice kD n.aj.ls.length kE, .slice kF n.aI.ls.length kG, .int .u64 0, .slice none 0 0, .bool false, .int .u64 0,vI 0, .slice none 0 0, .bool false, .int .u64 0,vI 0, .slice none 0 0, .bool false, .int .u64 0,vI 0, .slice none 0 0, .bool false, .int .u64 0,vI 0, .slice none 0 0, .bool false, .int .u64 0,vI 0, .slice none 0 0, .int .u64 0, .int .u64 0, .int .u64 0, .int .u64 0, .int .u64 0, .pointer none] 86 fV ?_
 intro l sD nJ
 refine An rfl (FU ?_)
 have kJ:=nJ.px [] [6] []
 refine FT (Mz rfl (Kz (vP l 0) (Kz (vP l 0) (Kz (vP l 1) (Lz (vU n.ax) kJ 0 E1 (fw (.int .u64 ((D2 (D3.wrap (((n.ax:Nat):Int)+1)):Nat):Int)) (FV (e:=D3.wrap (((n.ax:Nat):Int)+1)) yk (fC _)) (Kz (vP l 0) (Kz (vP l 0) (Kz (vP l 1) ?_)))))))))
 refine dN [.int .u64 ((D2 (D3.wrap (((n.ax:Nat):Int)+1)):Nat):Int)] 1 kJ M7 ?_
 intro sF kK
 refine ns (Mz rfl (Mz rfl (Kz (vP l 0) (Kz (vP l 0) (Kz (vP l 1) (Lz (.int .u64 ((D2 (D3.wrap (((n.ax:Nat):Int)+1)):Nat):Int)) kK 0 E1 ?_))))))
 have qw:fD (D2 (D3.wrap (((n.ax:Nat):Int)+1))) 32≤18446744073709551615:=oO _ _
 refine fw (.int .u64 ((fD (D2 (D3.wrap (((n.ax:Nat):Int)+1))) 32:Nat):Int)) (FV (Hw (m:=32) rfl rfl) (fC _)) (Kz (vP l 0) (Kz (vP l 0) (Kz (vP l 2) ?_)))
 refine dN [.int .u64 ((fD (D2 (D3.wrap (((n.ax:Nat):Int)+1))) 32:Nat):Int)] 2 kK M7 ?_
 intro aj nK
 refine ns (Mz rfl (Az rfl (An rfl (rt (Fin.res (lY rfl rfl rfl) ?_)))))
 have nL:Own w D aj (sepL (q6 bA.own ([]))::_):=nK.sepNil
 have nM:Own w D aj (row none 0 0 (q6 bA.cells ([])) 107 9::_):=nL.free (fB 107 9)
 have nN:Own w D aj (sepL (q6 af.own ([]))::_):=nM.sepNil
 have nO:Own w D aj (row none 0 0 (q6 af.cells ([])) 149 3::_):=nN.free (fB 149 3)
 have nP:Own w D aj (sepL (q6 af.own ([]))::_):=nO.sepNil
 have nQ:Own w D aj (row none 0 0 (q6 af.cells ([])) 149 3::_):=nP.free (fB 149 3)
 have nT:Own w D aj (sepL (q6 af.own ([]))::_):=nQ.sepNil
 have nU:Own w D aj (row none 0 0 (q6 af.cells ([])) 149 3::_):=nT.free (fB 149 3)
 have nV:Own w D aj (sepL (q6 af.own ([]))::_):=nU.sepNil
 have nX:Own w D aj (row none 0 0 (q6 af.cells ([])) 149 3::_):=nV.free (fB 149 3)
 have kM:Own w D aj (sepL (q6 af.own ([]))::_):=nX.sepNil
 have kN:Own w D aj (row none 0 0 (q6 af.cells ([])) 149 3::_):=kM.free (fB 149 3)
 have kP:=kN.pf [12,13,14,15,16,17,10,11]
 have kQ:Own w D aj (iE l (aB.mk (dC.mk n.av (D2 (D3.wrap (((n.ax:Nat):Int)+1))) (fD (D2 (D3.wrap (((n.ax:Nat):Int)+1))) 32) n.aK (E4 n.ag.ls) (E4 n.aj.ls) (E4 n.aI.ls)) 0 (E4 ([])) (dX.mk false 0 0 (E4 ([]))) (dX.mk false 0 0 (E4 ([]))) (dX.mk false 0 0 (E4 ([]))) (dX.mk false 0 0 (E4 ([]))) (dX.mk false 0 0 (E4 ([]))) 0 0 0 0 0)::_):=fA gm gp rfl rfl rfl rfl rfl rfl kP
 obtain⟨z,aO⟩:∃ q,(aB.mk (dC.mk n.av (D2 (D3.wrap (((n.ax:Nat):Int)+1))) (fD (D2 (D3.wrap (((n.ax:Nat):Int)+1))) 32) n.aK (E4 n.ag.ls) (E4 n.aj.ls) (E4 n.aI.ls)) 0 (E4 ([])) (dX.mk false 0 0 (E4 ([]))) (dX.mk false 0 0 (E4 ([]))) (dX.mk false 0 0 (E4 ([]))) (dX.mk false 0 0 (E4 ([]))) (dX.mk false 0 0 (E4 ([]))) 0 0 0 0 0)=q:=⟨_,rfl⟩
 have kR:Own w D aj [iE l z,row bI 2 2 (q6 bv.cells ([(bv.mk ([]) 1),(bv.mk ([109]) 2)])) 89 2]:=by rw [← aO]; exact kQ
 have nY:Mk z:=xV f4 f4
 have nZ:z.aa.ag.ls.length≤1000∧z.aa.av≤4∧z.ak.ls.length+z.aa.aj.ls.length≤8∧z.aa.aI.ls.length≤0:=uL f4 f4
 refine Mz rfl (Kz (vP l 0) (Kz (vI 0) (Az rfl (An rfl (FU (FU ?_))))))
 have eD:=kR.pk [0]
 refine FT (Mz rfl (Kz (.bool false) (Mz rfl (gw (vI 0) rfl (F7 rfl) (Gz (.bool false) rfl (fw (.bool false) (FX rfl rfl rfl) (Mz rfl (gw (.slice A0 l0.length c0) rfl (F7 rfl) (Gz (vJ l0.length) rfl (Gz (.bool (decide (((l0.length:Nat):Int) > 100))) rfl (fw (.bool (decide (((l0.length:Nat):Int) > 100))) (FX rfl rfl rfl) (nt ?_))))))))))))
 by_cases bK:((l0.length:Nat):Int) > 100
 refine jT (dT bK) (sr (Mz rfl (Mz rfl ?_)))
 rcases JQ (P) with ak | ak
 refine GK (v:=vP l 0) rfl rfl ak rfl (F7 rfl) (Gz (.bool true) ak (fw (.bool true) (Gb rfl ak rfl) (An rfl (rt (tR (rs ?_))))))
 have kS:=eD.pk []
 obtain rfl:_=true:=hr.symm.trans (et (ai aM) (et (ai aN) (et (ip ah) (et (ai bJ) (et (ai aO) (et (ip bK) (ip ak)))))))
 exact⟨rfl,kS⟩
 refine Sz ak (Sz ak (fw (.bool false) (FX rfl ak rfl) (An rfl (rt (tR (rs ?_))))))
 have kT:=eD.pk []
 obtain rfl:_=false:=hr.symm.trans (et (ai aM) (et (ai aN) (et (ip ah) (et (ai bJ) (et (ai aO) (et (ip bK) (gB ak)))))))
 exact⟨rfl,kT⟩
 refine jF (dF bK) (sk (sr ?_))
 refine WL.do rfl (I4 (κ:=iH) (ν:=Int) iH.key kI eD ?_)
 intro F qx kU
 refine An rfl (FU (sr (Mz rfl (Kz (vJ l0.length) (Mn rfl (bo ?_))))))
 have kV:=kU.pf []
 obtain⟨kW,dz⟩:=qI fun(h:Nat) (aa:List (iH × Int)) (g:aB) (w':World)=>Own w D w' [o9 F iH.key kI aa,iE l g]∧h≤l0.length∧(g.aa.ag.ls.length≤1000∧g.aa.av≤4∧g.ak.ls.length+g.aa.aj.ls.length≤8∧g.aa.aI.ls.length≤h)∧Mk g∧gM P l0 ([]) z=gM P (r6 h l0) aa g
 refine Wp.loop (fun i:Nat × (List (iH × Int)) × aB=> [(2, .bool false),(39,vJ i.1),(38,vJ l0.length),(37, .slice A0 l0.length c0),(6, .map (some F)),(4,vP l 0),(3, .bool P)]) kW (fun i=>l0.length - i.1) (0, [],z) ⟨rfl,rfl,rfl,rfl,rfl,rfl,rfl,trivial⟩ (dz.2 ⟨kV,(show 0≤l0.length∧(z.aa.ag.ls.length≤1000∧z.aa.av≤4∧z.ak.ls.length+z.aa.aj.ls.length≤8∧z.aa.aI.ls.length≤0)∧Mk z∧gM P l0 ([]) z=gM P (r6 0 l0) ([]) z from ⟨e6,by first | omega | (dsimp only; omega) | exact uL f4 f4,by first | assumption | exact xV f4 f4,rfl⟩)⟩) ?_
 rintro ⟨h,aa,g⟩ qy iW
 obtain⟨bY,og,oh,ol,dA⟩:=dz.1 iW
 refine sr (Kz (.bool (decide (((h:Nat):Int) < ((l0.length:Nat):Int)))) (nt (FU ?_)))
 by_cases gq:((h:Nat):Int) < ((l0.length:Nat):Int)
 obtain⟨a,Q⟩:=dK (ls:=d0) (i:=h) fU.len f3 (bY.ro iU) e9
 have eG:=fo jU Q
 have om:=(bX _ (E0 Q)).2.1
 have oo:=(bX _ (E0 Q)).2.2.2.1
 have oq:s2 (s8 af.abs a.aC.ah.ls)=a.aC.ah.ls.length:=s6 ..
 have ou:=(bX _ (E0 Q)).2.2.2.2.2.2
 have ow:a.aC.aU≤18446744073709551615∧a.aC.aG.ls.length≤140737488351232∧a.aC.ah.ls.length≤140737488351232∧a.aC.ag.ls.length≤140737488351232:=by have q:=nC _ (E0 eG); exact⟨q.1,q.2.1,Nat.le_trans (Nat.le_of_eq (s6 ..).symm) q.2.2.1,q.2.2.2⟩
 have eH:=drop_at eG
 refine jT (dT gq) (sk (FU (bo (sr (fw (.pointer (some ⟨ab A0,ao A0+h *25,none⟩)) (FZ (FB) rfl rfl ((bY.ro iU).addr (i:=h) e6) e6) (fw (.agg (fU.cells a).toArray) (F5 rfl (Gc (cs:=(fU.cells a)) Tryz.isAgg44 U2 ((bY.ro iU).elem fU.len Q f3))) ?_))))))
 refine dM (Fa 0 0 0 0 0 0 0 0 0 0 0 0 0 0 0 0 0 false ([]) ([]) none 0 0 none 0 0 none 0 0 false ([])) 44 bY ?_
 intro r qz kX
 refine dN (fU.cells a) 0 kX U2 ?_
 intro qA kY
 refine ns (Kz (.agg #[.slice none 0 0, .bool false]) ?_)
 refine dM [.slice none 0 0, .bool false] 47 kY ?_
 intro G qB kZ
 refine dN [.slice none 0 0, .bool false] 0 kZ S4 ?_
 intro gu dP
 refine nt (FU (sr (Kz (vP r 0) (Lz (vI a.kX) dP 1 C6 (nt ?_)))))
 obtain⟨lc,bS⟩:=El fun(s:Option Addr) (B:Nat) (I:List bF) (f:List bQ) (aP:Bool) (j:aB) (w':World)=>Own w D w' [blk G [.slice s f.length B, .bool aP] 47,blk r (fU.cells a) 44,o9 F iH.key kI aa,iE l j,row s f.length B (q6 bF.cells I) 42 21,sepL (q6 bF.own I)]∧s8 bF.abs I=f∧0≤f.length∧f.length≤9223372036854775807∧(j.aa.ag.ls.length≤1000∧j.aa.av≤4∧j.ak.ls.length+j.aa.aj.ls.length≤8∧j.aa.aI.ls.length≤g.aa.aI.ls.length+1)∧Mk j∧(if a.kX=0 then bnd (bnd (j3 g) fun J=>(ko a.ed a.aC.aH 1 J.ax a.aC.ax,nR a.ed a.aC.bi J.ax,ko a.ed a.aC.aH 9 J.bf a.aC.bf)) fun sJrbbtbbfLsJjtJ=>bnd (if a.aC.aH=1 then 1 else sJrbbtbbfLsJjtJ.1) fun sJrbbtbbfLsJjtJaJ=>bnd (eF g (bQ.mk a.aC.aH a.aC.aJ a.aC.eO a.aC.aS a.aC.dz a.aC.eu a.aC.aU sJrbbtbbfLsJjtJaJ sJrbbtbbfLsJjtJ.2.1 a.aC.dW sJrbbtbbfLsJjtJ.2.2 a.aC.aK (oz a.ed a.aC.dI 0) a.aC.cZ a.aC.xN a.aC.d9 a.aC.bV (E4 a.aC.aG.ls) (E4 (s8 af.abs a.aC.ah.ls)) (E4 a.aC.ag.ls))) fun aQ=>(aQ.1.eP.ls,aQ.2.2) else if a.kX=1 then bnd (jk g) fun aR=>(aR.1.eP.ls,aR.2) else([],g))=(f,j)
 refine GA (fun i:(Option Addr) × Nat × (List bF) × (List bQ) × Bool × aB=> [(46, .bool (decide (a.kX=0))),(47, .bool (decide (a.kX=0))),(45,vI a.kX),(44,vP r 0),(9,vP G 0),(43, .agg #[.slice none 0 0, .bool false]),(8,vP r 0),(42, .agg (fU.cells a).toArray),(41, .pointer (some ⟨ab A0,ao A0+h *25,none⟩)),(40, .bool (decide (((h:Nat):Int) < ((l0.length:Nat):Int)))),(2, .bool false),(39,vJ h),(38,vJ l0.length),(37, .slice A0 l0.length c0),(6, .map (some F)),(4,vP l 0),(3, .bool P)]) lc ?_ ?_
 refine bo (sr (Kz (.bool (decide (a.kX=0))) (An rfl ?_)))
 by_cases cu:a.kX=0
 refine jT (dT cu) (FU ?_)
 obtain⟨lg,bT⟩:=Fy fun(u:Nat) (ae:Nat) (K:Nat) (L:Nat) (au:Int) (av:Nat) (ax:Nat) (aC:Nat) (R:Option Addr) (S:Nat) (C:List bv) (T:Option Addr) (U:Nat) (V:List aA) (M:List bM) (W:Option Addr) (X:Nat) (Y:List aZ) (N:List fE) (aD:Nat) (aF:Nat) (aG:Nat) (w':World)=>Own w D w' [blk u [vI a.aC.aH,vI a.aC.aJ,vI a.aC.eO,vI a.aC.aS,vI a.aC.dz,vI a.aC.eu,vU a.aC.aU,vU ae,vU K,vU a.aC.dW,vU L,vU a.aC.aK,vU (oz a.ed a.aC.dI 0),vU a.aC.cZ,vU a.aC.xN, .bool a.aC.d9, .string ⟨y6 a.aC.bV.bK⟩, .string ⟨y6 a.aC.bV.bW⟩, .slice a.aC.aG.A a.aC.aG.ls.length a.aC.aG.c, .slice a.aC.ah.A a.aC.ah.ls.length a.aC.ah.c, .slice a.aC.ag.A a.aC.ag.ls.length a.aC.ag.c] 42,blk G [.slice none 0 0, .bool false] 47,blk r (fU.cells a) 44,o9 F iH.key kI aa,iE l g,row R C.length S (q6 bv.cells C) 89 2,row T M.length U (q6 aA.cells V) 60 5,sepL (q6 aA.own V),row W N.length X (q6 aZ.cells Y) 56 4,sepL (q6 aZ.own Y)]∧s8 aA.abs V=M∧s8 aZ.abs Y=N∧(bnd (j3 g) fun J=>(ko a.ed a.aC.aH 1 J.ax a.aC.ax,nR a.ed a.aC.bi J.ax,ko a.ed a.aC.aH 9 J.bf a.aC.bf))=(ae,K,L)
 refine GA (fun i:Nat × Nat × Nat × Nat × Int × Nat × Nat × Nat × (Option Addr) × Nat × (List bv) × (Option Addr) × Nat × (List aA) × (List bM) × (Option Addr) × Nat × (List aZ) × (List fE) × Nat × Nat × Nat=> [(10, .pointer (some ⟨i.1,0,none⟩)),(48, .agg (fU.cells a).toArray),(49,vP l 0),(50, .agg #[vI i.2.2.2.2.1,vU i.2.2.2.2.2.1,vU i.2.2.2.2.2.2.1,vU i.2.2.2.2.2.2.2.1, .slice i.2.2.2.2.2.2.2.2.1 i.2.2.2.2.2.2.2.2.2.2.1.length i.2.2.2.2.2.2.2.2.2.1, .slice i.2.2.2.2.2.2.2.2.2.2.2.1 i.2.2.2.2.2.2.2.2.2.2.2.2.2.2.1.length i.2.2.2.2.2.2.2.2.2.2.2.2.1, .slice i.2.2.2.2.2.2.2.2.2.2.2.2.2.2.2.1 i.2.2.2.2.2.2.2.2.2.2.2.2.2.2.2.2.2.2.1.length i.2.2.2.2.2.2.2.2.2.2.2.2.2.2.2.2.1]),(51,vP l 0),(52, .int .u64 0),(53, .agg #[vI a.aC.aH,vI a.aC.aJ,vI a.aC.eO,vI a.aC.aS,vI a.aC.dz,vI a.aC.eu,vU a.aC.aU,vU i.2.2.2.2.2.2.2.2.2.2.2.2.2.2.2.2.2.2.2.1,vU i.2.2.2.2.2.2.2.2.2.2.2.2.2.2.2.2.2.2.2.2.1,vU a.aC.dW,vU i.2.2.2.2.2.2.2.2.2.2.2.2.2.2.2.2.2.2.2.2.2,vU a.aC.aK,vU (oz a.ed a.aC.dI 0),vU a.aC.cZ,vU a.aC.xN, .bool a.aC.d9, .string ⟨y6 a.aC.bV.bK⟩, .string ⟨y6 a.aC.bV.bW⟩, .slice a.aC.aG.A a.aC.aG.ls.length a.aC.aG.c, .slice a.aC.ah.A a.aC.ah.ls.length a.aC.ah.c, .slice a.aC.ag.A a.aC.ag.ls.length a.aC.ag.c]),(46, .bool (decide (a.kX=0))),(47, .bool (decide (a.kX=0))),(45,vI a.kX),(44,vP r 0),(9,vP G 0),(43, .agg #[.slice none 0 0, .bool false]),(8,vP r 0),(42, .agg (fU.cells a).toArray),(41, .pointer (some ⟨ab A0,ao A0+h *25,none⟩)),(40, .bool (decide (((h:Nat):Int) < ((l0.length:Nat):Int)))),(2, .bool false),(39,vJ h),(38,vJ l0.length),(37, .slice A0 l0.length c0),(6, .map (some F)),(4,vP l 0),(3, .bool P)]) lg ?_ ?_
 refine Ca [] (F8 (bP.block (F8 (bP.block (F8 (F8 (bP.block (F8 Gh)))))))) dP ?_
 intro qC gy
 refine qt (v:= .agg (fU.cells a).toArray) 0 rfl (fun _ ⟨_,H9⟩=>F5 rfl (Gc (cs:=(fU.cells a)) Tryz.isAgg44 U2 ((H9.cls (i:=1) rfl).lit (k:=0) (m:=25) rfl))) (qv 1 rfl rfl (qv 3 rfl rfl ?_))
 refine Hg 2 6 e7 ?_ ?_
 have lh:=gy.pf [3]
 obtain⟨b,dB⟩:∃ q,j3 g=q:=⟨_,rfl⟩
 obtain⟨qD,iX,oC,iY,oD⟩:=Gn lh
 refine GY.do 2 rfl e7 (Gd Tryz.call11 rfl (pO _ _ l g b iX e8 f4 dB) ?_)
 rintro _ qE ⟨dQ,dS,dU,dV,aS,aT,gz,gF,rfl,iZ,dD,dE⟩
 have dW:=iY _ _ iZ
 have oG:=az dD
 have oI:=az dE
 have oK:=dW.rowC (i:=0) rfl
 have oL:=dW.rowC (i:=1) rfl
 have oM:=dW.rowC (i:=3) rfl
 have eO:=dW.pf [6,7,8]
 refine⟨.inr ⟨_,eO⟩, ?_⟩
 refine Hg 4 6 e7 ?_ ?_
 refine GY.do 4 rfl e7 (Gd T5 rfl ?_ (fun _ _ k=>k))
 refine cb T6 ?_
 refine sr (An rfl (FU (FU ?_)))
 have ll:=eO.pf [8]
 obtain⟨qF,qG,qH,qJ,qK,gG,gI,gJ,gK,gL,gN,gP,gQ,gT,gU,gV,gW,gX,gY,gZ,ib,ic,ig,ik,il,iq,ja,aU,aW,aX,aY,bf,bg,bi,oN,iw⟩:=ji ll
 refine FT (Mz rfl (Kz (vP l 0) (Kz (vP l 34) (Lz (.pointer none) iw 0 U0 (Kz (.bool true) (nt (jt (sr (An rfl (rt (tR (rs ?_))))))))))))
 have iy:=iw.pf [18,19,20]
 refine⟨.inr ⟨_,iy⟩, ?_⟩
 refine E8 ⟨5,_,_,_,_,_,Unit,fun g9=> .agg #[vI a.aC.aH,vI a.aC.aJ,vI a.aC.eO,vI a.aC.aS,vI a.aC.dz,vI a.aC.eu,vU a.aC.aU,vU (ko a.ed a.aC.aH 1 b.ax a.aC.ax),vU (nR a.ed a.aC.bi b.ax),vU a.aC.dW,vU (ko a.ed a.aC.aH 9 b.bf a.aC.bf),vU a.aC.aK,vU (oz a.ed a.aC.dI 0),vU a.aC.cZ,vU a.aC.xN, .bool a.aC.d9, .string ⟨y6 a.aC.bV.bK⟩, .string ⟨y6 a.aC.bV.bW⟩, .slice a.aC.aG.A a.aC.aG.ls.length a.aC.aG.c, .slice a.aC.ah.A a.aC.ah.ls.length a.aC.ah.c, .slice a.aC.ag.A a.aC.ag.ls.length a.aC.ag.c],fun _=>True,fun g9=> []⟩ ⟨6,_,_,_,_,_,Nat,fun g9=>vP g9 0,fun _=>True,fun g9=> [blk g9 (gD 0 0 0 0 0 0 0 0 0 0 0 0 0 0 0 false ([]) ([]) none 0 0 none 0 0 none 0 0) 42]⟩ 3 iy ⟨⟨rfl,rfl,rfl, ?_⟩,⟨rfl,rfl,rfl, ?_⟩,trivial⟩ ?_
 intro qL L' lq
 obtain⟨qM,jb,oP,jd,oQ⟩:=FY lq
 refine(Gd U3 rfl (vT _ _ a b.av b.ax b.bf b.aK dQ b.ag.ls.length dS dU b.aj.ls.length dV aS b.aI.ls.length aT 0 jb) ?_)
 rintro _ qN ⟨rfl,je⟩
 have lu:=jd _ _ je
 exact⟨(),rfl,trivial,lu⟩
 intro qO L' bn
 refine(GD (cs:=(gD 0 0 0 0 0 0 0 0 0 0 0 0 0 0 0 false ([]) ([]) none 0 0 none 0 0 none 0 0)) (t:=42) bn rfl rfl (fun _=>by kernel_rfl) ?_)
 intro dY iA cz
 exact⟨dY,rfl,trivial,cz⟩
 rintro ⟨⟩ _ dY _
 intro lv cB
 have cK:Own w D lv (blk dY (gD 0 0 0 0 0 0 0 0 0 0 0 0 0 0 0 false ([]) ([]) none 0 0 none 0 0 none 0 0) 42::_):=cB.flat.pf []
 have cO:=cK.pf [1,2,3]
 have lw:=cO.pf [3]
 refine qe 7 rfl (Do.store (vs:= [vI a.aC.aH,vI a.aC.aJ,vI a.aC.eO,vI a.aC.aS,vI a.aC.dz,vI a.aC.eu,vU a.aC.aU,vU (ko a.ed a.aC.aH 1 b.ax a.aC.ax),vU (nR a.ed a.aC.bi b.ax),vU a.aC.dW,vU (ko a.ed a.aC.aH 9 b.bf a.aC.bf),vU a.aC.aK,vU (oz a.ed a.aC.dI 0),vU a.aC.cZ,vU a.aC.xN, .bool a.aC.d9, .string ⟨y6 a.aC.bV.bK⟩, .string ⟨y6 a.aC.bV.bW⟩, .slice a.aC.aG.A a.aC.aG.ls.length a.aC.aG.c, .slice a.aC.ah.A a.aC.ah.ls.length a.aC.ah.c, .slice a.aC.ag.A a.aC.ag.ls.length a.aC.ag.c]) (o:=0) lw rfl rfl M6 rfl rfl rfl rfl ?_)
 intro qP lC
 have iB:=lC.pf [1,2,3]
 refine⟨.inr ⟨_,iB⟩, ?_⟩
 refine qn ?_
 have lD:=iB.pb [0,1,2,3,22,23,24,25,26]
 have lF:=fA ja aU aW aX aY bf bg bi lD
 have lG:=lF.pf [4,1,2,3]
 exact Gt (dY,ko a.ed a.aC.aH 1 b.ax a.aC.ax,nR a.ed a.aC.bi b.ax,ko a.ed a.aC.aH 9 b.bf a.aC.bf,b.av,b.ax,b.bf,b.aK,dQ,dS,b.ag.ls,dU,dV,gz,b.aj.ls,aS,aT,gF,b.aI.ls,ko a.ed a.aC.aH 1 b.ax a.aC.ax,nR a.ed a.aC.bi b.ax,ko a.ed a.aC.aH 9 b.bf a.aC.bf) ⟨rfl,rfl,rfl,rfl,rfl,rfl,rfl,rfl,rfl,rfl,rfl,rfl,rfl,rfl,rfl,rfl,rfl,rfl,rfl,rfl,rfl,rfl,rfl,rfl,trivial⟩ (bT.2 ⟨lG,by exact dD,by exact dE,ai dB⟩)
 refine GY.do 6 rfl e7 (GD (cs:=(gD 0 0 0 0 0 0 0 0 0 0 0 0 0 0 0 false ([]) ([]) none 0 0 none 0 0 none 0 0)) (t:=42) eO rfl rfl (fun _=>by kernel_rfl) ?_)
 intro lI qQ lJ
 have cZ:=lJ.pf [1,2,3]
 refine⟨.inr ⟨_,cZ⟩, ?_⟩
 refine GX.do 4 rfl e7 (Gd T5 rfl ?_ (fun _ _ k=>k))
 refine cb T6 ?_
 refine sr (An rfl (FU (FU ?_)))
 have eP:=cZ.pf [9]
 obtain⟨lK,lL,gG,gI,gJ,gK,gL,gN,gP,gQ,gT,gU,gV,gW,gX,gY,gZ,ib,ic,ig,ik,il,iq,lM,lN,lQ,aU,aW,aX,aY,bf,bg,bi,dG,jg,df⟩:=ji eP
 refine FT (Mz rfl (Kz (vP l 0) (Kz (vP l 34) (Lz (.pointer none) df 0 U0 (Kz (.bool true) (nt (jt (sr (An rfl (rt (tR (rs ?_))))))))))))
 have dh:=df.pf [18,19,20]
 refine⟨.inr ⟨_,dh⟩, ?_⟩
 obtain⟨lS,dH,jh,dI,jl⟩:=FY dh
 refine qd 5 rfl (Gd U3 rfl (vT _ _ a b.av b.ax b.bf b.aK dQ b.ag.ls.length dS dU b.aj.ls.length dV aS b.aI.ls.length aT 0 dH) ?_)
 rintro _ lT ⟨rfl,dJ⟩
 have bn:=dI _ _ dJ
 refine⟨.inr ⟨_,bn⟩, ?_⟩
 have eQ:=bn.pf [21]
 refine qe 7 rfl (Do.store (vs:= [vI a.aC.aH,vI a.aC.aJ,vI a.aC.eO,vI a.aC.aS,vI a.aC.dz,vI a.aC.eu,vU a.aC.aU,vU (ko a.ed a.aC.aH 1 b.ax a.aC.ax),vU (nR a.ed a.aC.bi b.ax),vU a.aC.dW,vU (ko a.ed a.aC.aH 9 b.bf a.aC.bf),vU a.aC.aK,vU (oz a.ed a.aC.dI 0),vU a.aC.cZ,vU a.aC.xN, .bool a.aC.d9, .string ⟨y6 a.aC.bV.bK⟩, .string ⟨y6 a.aC.bV.bW⟩, .slice a.aC.aG.A a.aC.aG.ls.length a.aC.aG.c, .slice a.aC.ah.A a.aC.ah.ls.length a.aC.ah.c, .slice a.aC.ag.A a.aC.ag.ls.length a.aC.ag.c]) (o:=0) eQ rfl rfl M6 rfl rfl rfl rfl ?_)
 intro iA cz
 have di:=cz.pf [1,2,3]
 refine⟨.inr ⟨_,di⟩, ?_⟩
 refine qn ?_
 have cB:=di.pb [0,1,2,3,22,23,24,25,26]
 have cK:=fA aU aW aX aY bf bg bi dG cB
 have cO:=cK.pf [4,1,2,3]
 exact Gt (lI,ko a.ed a.aC.aH 1 b.ax a.aC.ax,nR a.ed a.aC.bi b.ax,ko a.ed a.aC.aH 9 b.bf a.aC.bf,b.av,b.ax,b.bf,b.aK,dQ,dS,b.ag.ls,dU,dV,gz,b.aj.ls,aS,aT,gF,b.aI.ls,ko a.ed a.aC.aH 1 b.ax a.aC.ax,nR a.ed a.aC.bi b.ax,ko a.ed a.aC.aH 9 b.bf a.aC.bf) ⟨rfl,rfl,rfl,rfl,rfl,rfl,rfl,rfl,rfl,rfl,rfl,rfl,rfl,rfl,rfl,rfl,rfl,rfl,rfl,rfl,rfl,rfl,rfl,rfl,trivial⟩ (bT.2 ⟨cO,by exact dD,by exact dE,ai dB⟩)
 refine GY.do 6 rfl e7 (GD (cs:=(gD 0 0 0 0 0 0 0 0 0 0 0 0 0 0 0 false ([]) ([]) none 0 0 none 0 0 none 0 0)) (t:=42) gy rfl rfl (fun _=>by kernel_rfl) ?_)
 intro lU qR lV
 have iC:=lV.pb [0,4]
 refine⟨.inr ⟨_,iC⟩, ?_⟩
 have lW:=iC.pf [4]
 obtain⟨b,eT⟩:∃ q,j3 g=q:=⟨_,rfl⟩
 obtain⟨qU,jo,oU,jr,oV⟩:=Gn lW
 refine qd 2 rfl (Gd Tryz.call11 rfl (pO _ _ l g b jo e8 f4 eT) ?_)
 rintro _ qV ⟨aS,aT,iD,iF,iG,iI,lX,lZ,rfl,jv,eU,eX⟩
 have dZ:=jr _ _ jv
 have oW:=az eU
 have oZ:=az eX
 have o5:=dZ.rowC (i:=0) rfl
 have o6:=dZ.rowC (i:=1) rfl
 have o7:=dZ.rowC (i:=3) rfl
 have cZ:=dZ.pf [6,7,8]
 refine⟨.inr ⟨_,cZ⟩, ?_⟩
 refine GX.do 4 rfl e7 (Gd T5 rfl ?_ (fun _ _ k=>k))
 refine cb T6 ?_
 refine sr (An rfl (FU (FU ?_)))
 have eP:=cZ.pf [8]
 obtain⟨lK,lL,gG,gI,gJ,gK,gL,gN,gP,gQ,gT,gU,gV,gW,gX,gY,gZ,ib,ic,ig,ik,il,iq,lM,lN,lQ,aU,aW,aX,aY,bf,bg,bi,dG,jg,df⟩:=ji eP
 refine FT (Mz rfl (Kz (vP l 0) (Kz (vP l 34) (Lz (.pointer none) df 0 U0 (Kz (.bool true) (nt (jt (sr (An rfl (rt (tR (rs ?_))))))))))))
 have dh:=df.pf [18,19,20]
 refine⟨.inr ⟨_,dh⟩, ?_⟩
 obtain⟨lS,dH,jh,dI,jl⟩:=FY dh
 refine qd 5 rfl (Gd U3 rfl (vT _ _ a b.av b.ax b.bf b.aK aS b.ag.ls.length aT iD b.aj.ls.length iF iG b.aI.ls.length iI 0 dH) ?_)
 rintro _ lT ⟨rfl,dJ⟩
 have bn:=dI _ _ dJ
 refine⟨.inr ⟨_,bn⟩, ?_⟩
 have eQ:=bn.pf [26]
 refine qe 7 rfl (Do.store (vs:= [vI a.aC.aH,vI a.aC.aJ,vI a.aC.eO,vI a.aC.aS,vI a.aC.dz,vI a.aC.eu,vU a.aC.aU,vU (ko a.ed a.aC.aH 1 b.ax a.aC.ax),vU (nR a.ed a.aC.bi b.ax),vU a.aC.dW,vU (ko a.ed a.aC.aH 9 b.bf a.aC.bf),vU a.aC.aK,vU (oz a.ed a.aC.dI 0),vU a.aC.cZ,vU a.aC.xN, .bool a.aC.d9, .string ⟨y6 a.aC.bV.bK⟩, .string ⟨y6 a.aC.bV.bW⟩, .slice a.aC.aG.A a.aC.aG.ls.length a.aC.aG.c, .slice a.aC.ah.A a.aC.ah.ls.length a.aC.ah.c, .slice a.aC.ag.A a.aC.ag.ls.length a.aC.ag.c]) (o:=0) eQ rfl rfl M6 rfl rfl rfl rfl ?_)
 intro iA cz
 have di:=cz.pf [1,2,3]
 refine⟨.inr ⟨_,di⟩, ?_⟩
 refine qn ?_
 have cB:=di.pb [0,1,2,3,22,23,24,25,26]
 have cK:=fA aU aW aX aY bf bg bi dG cB
 have cO:=cK.pf [4,1,2,3]
 exact Gt (lU,ko a.ed a.aC.aH 1 b.ax a.aC.ax,nR a.ed a.aC.bi b.ax,ko a.ed a.aC.aH 9 b.bf a.aC.bf,b.av,b.ax,b.bf,b.aK,aS,aT,b.ag.ls,iD,iF,lX,b.aj.ls,iG,iI,lZ,b.aI.ls,ko a.ed a.aC.aH 1 b.ax a.aC.ax,nR a.ed a.aC.bi b.ax,ko a.ed a.aC.aH 9 b.bf a.aC.bf) ⟨rfl,rfl,rfl,rfl,rfl,rfl,rfl,rfl,rfl,rfl,rfl,rfl,rfl,rfl,rfl,rfl,rfl,rfl,rfl,rfl,rfl,rfl,rfl,rfl,trivial⟩ (bT.2 ⟨cO,by exact eU,by exact eX,ai eT⟩)
 rintro ⟨u,ae,K,L,au,av,ax,aC,R,S,C,T,U,V,M,W,X,Y,N,aD,aF,aG⟩ qW jw
 obtain⟨eY,jy,jA,jB⟩:=bT.1 jw
 have pg:=az jy
 have pq:=az jA
 refine FU (sr (Kz (vP u 0) (Lz (vI a.aC.aH) eY 0 C6 (Kz (.bool (decide (a.aC.aH=1))) (nt ?_)))))
 obtain⟨l5,dL⟩:=mX fun(Z:Nat) (w':World)=>Own w D w' [blk u [vI a.aC.aH,vI a.aC.aJ,vI a.aC.eO,vI a.aC.aS,vI a.aC.dz,vI a.aC.eu,vU a.aC.aU,vU Z,vU K,vU a.aC.dW,vU L,vU a.aC.aK,vU (oz a.ed a.aC.dI 0),vU a.aC.cZ,vU a.aC.xN, .bool a.aC.d9, .string ⟨y6 a.aC.bV.bK⟩, .string ⟨y6 a.aC.bV.bW⟩, .slice a.aC.aG.A a.aC.aG.ls.length a.aC.aG.c, .slice a.aC.ah.A a.aC.ah.ls.length a.aC.ah.c, .slice a.aC.ag.A a.aC.ag.ls.length a.aC.ag.c] 42,blk G [.slice none 0 0, .bool false] 47,blk r (fU.cells a) 44,o9 F iH.key kI aa,iE l g,row R C.length S (q6 bv.cells C) 89 2,row T M.length U (q6 aA.cells V) 60 5,sepL (q6 aA.own V),row W N.length X (q6 aZ.cells Y) 56 4,sepL (q6 aZ.own Y)]∧(if a.aC.aH=1 then 1 else ae)=Z
 refine GA (fun i:Nat=> [(56, .bool (decide (a.aC.aH=1))),(55,vI a.aC.aH),(54,vP u 0),(10,vP u 0),(48, .agg (fU.cells a).toArray),(49,vP l 0),(50, .agg #[vI au,vU av,vU ax,vU aC, .slice R C.length S, .slice T M.length U, .slice W N.length X]),(51,vP l 0),(52, .int .u64 0),(53, .agg #[vI a.aC.aH,vI a.aC.aJ,vI a.aC.eO,vI a.aC.aS,vI a.aC.dz,vI a.aC.eu,vU a.aC.aU,vU aD,vU aF,vU a.aC.dW,vU aG,vU a.aC.aK,vU (oz a.ed a.aC.dI 0),vU a.aC.cZ,vU a.aC.xN, .bool a.aC.d9, .string ⟨y6 a.aC.bV.bK⟩, .string ⟨y6 a.aC.bV.bW⟩, .slice a.aC.aG.A a.aC.aG.ls.length a.aC.aG.c, .slice a.aC.ah.A a.aC.ah.ls.length a.aC.ah.c, .slice a.aC.ag.A a.aC.ag.ls.length a.aC.ag.c]),(46, .bool (decide (a.kX=0))),(47, .bool (decide (a.kX=0))),(45,vI a.kX),(44,vP r 0),(9,vP G 0),(43, .agg #[.slice none 0 0, .bool false]),(8,vP r 0),(42, .agg (fU.cells a).toArray),(41, .pointer (some ⟨ab A0,ao A0+h *25,none⟩)),(40, .bool (decide (((h:Nat):Int) < ((l0.length:Nat):Int)))),(2, .bool false),(39,vJ h),(38,vJ l0.length),(37, .slice A0 l0.length c0),(6, .map (some F)),(4,vP l 0),(3, .bool P)]) l5 ?_ ?_
 by_cases d9:a.aC.aH=1
 refine jT (dT d9) (FT (Kz (vP u 7) ?_))
 refine dN [.int .u64 1] 7 eY M7 ?_
 intro qX l6
 refine D0 ?_
 have l7:=l6.pf []
 exact Gt 1 ⟨rfl,rfl,rfl,rfl,rfl,rfl,rfl,rfl,rfl,rfl,rfl,rfl,rfl,rfl,rfl,rfl,rfl,rfl,rfl,rfl,rfl,rfl,rfl,rfl,rfl,rfl,rfl,trivial⟩ (dL.2 ⟨l7,ip d9⟩)
 refine jF (dF d9) (Gj ?_)
 have l8:=eY.pf []
 exact Gt ae ⟨rfl,rfl,rfl,rfl,rfl,rfl,rfl,rfl,rfl,rfl,rfl,rfl,rfl,rfl,rfl,rfl,rfl,rfl,rfl,rfl,rfl,rfl,rfl,rfl,rfl,rfl,rfl,trivial⟩ (dL.2 ⟨l8,iN d9⟩)
 rintro Z qZ jC
 obtain⟨iJ,jD⟩:=dL.1 jC
 refine FT (Mz rfl (La ([vI a.aC.aH,vI a.aC.aJ,vI a.aC.eO,vI a.aC.aS,vI a.aC.dz,vI a.aC.eu,vU a.aC.aU,vU Z,vU K,vU a.aC.dW,vU L,vU a.aC.aK,vU (oz a.ed a.aC.dI 0),vU a.aC.cZ,vU a.aC.xN, .bool a.aC.d9, .string ⟨y6 a.aC.bV.bK⟩, .string ⟨y6 a.aC.bV.bW⟩, .slice a.aC.aG.A a.aC.aG.ls.length a.aC.aG.c, .slice a.aC.ah.A a.aC.ah.ls.length a.aC.ah.c, .slice a.aC.ag.A a.aC.ag.ls.length a.aC.ag.c]) iJ 0 Tryz.isAgg42 M6 ?_))
 have l9:=iJ.pf [4]
 obtain⟨⟨bu,iK,aI⟩,fe⟩:∃ q:jW × Int × aB,eF g (bQ.mk a.aC.aH a.aC.aJ a.aC.eO a.aC.aS a.aC.dz a.aC.eu a.aC.aU Z K a.aC.dW L a.aC.aK (oz a.ed a.aC.dI 0) a.aC.cZ a.aC.xN a.aC.d9 a.aC.bV (E4 a.aC.aG.ls) (E4 (s8 af.abs a.aC.ah.ls)) (E4 a.aC.ag.ls))=q:=⟨_,rfl⟩
 obtain⟨q8,jE,bU,jG,pu⟩:=Gn l9
 refine cl Tryz.call13 (jK _ _ l g (bQ.mk a.aC.aH a.aC.aJ a.aC.eO a.aC.aS a.aC.dz a.aC.eu a.aC.aU Z K a.aC.dW L a.aC.aK (oz a.ed a.aC.dI 0) a.aC.cZ a.aC.xN a.aC.d9 a.aC.bV (E4 a.aC.aG.ls) (E4 (s8 af.abs a.aC.ah.ls)) (E4 a.aC.ag.ls)) a.aC.aG.A a.aC.aG.ls.length a.aC.aG.c a.aC.ah.A a.aC.ah.ls.length a.aC.ah.c a.aC.ah.ls a.aC.ag.A a.aC.ag.ls.length a.aC.ag.c bu iK aI jE rfl (bU _ (bX _ (E0 Q)).1) (show a.aC.aG.ls.length≤a.aC.aG.c∧a.aC.aG.ls.length≤9223372036854775807 from by omega) (rfl:s8 af.abs a.aC.ah.ls=s8 af.abs a.aC.ah.ls) f0 (fun w9 h9=>o8 (az (rfl:s8 af.abs a.aC.ah.ls=s8 af.abs a.aC.ah.ls)) ((bU _ (bX _ (E0 Q)).2.2.1) w9 h9)) (show s2 (s8 af.abs a.aC.ah.ls)≤a.aC.ah.c∧s2 (s8 af.abs a.aC.ah.ls)≤9223372036854775807 from by omega) (fun x9 h9=>⟨bU _ ((bX _ (E0 Q)).2.2.2.2.1 x9 h9).1,((bX _ (E0 Q)).2.2.2.2.1 x9 h9).2⟩) rfl (bU _ (bX _ (E0 Q)).2.2.2.2.2.1) (show a.aC.ag.ls.length≤a.aC.ag.c∧a.aC.ag.ls.length≤9223372036854775807 from by omega) f9 f4 fe) ?_
 rintro _ rf ⟨fq,fu,ma,rfl,jH,fF,fG,fH⟩
 have iL:=jG _ _ jH
 have pz:=az fF
 have pE:=iL.rowC (i:=0) rfl
 replace fG:aI.aa.ag.ls.length=g.aa.ag.ls.length∧aI.aa.av=g.aa.av∧aI.ak.ls.length+aI.aa.aj.ls.length≤8∧aI.aa.aI.ls.length≤g.aa.aI.ls.length+1:=fG
 replace fH:Mk aI:=fH
 refine Mz rfl (Kz (.agg #[.slice fq bu.eP.ls.length fu, .bool bu.iQ]) (Kz (vI iK) ?_))
 have mf:=iL.pf [4]
 refine dN [.slice fq bu.eP.ls.length fu, .bool bu.iQ] 0 mf S4 ?_
 intro rq mg
 refine D0 (bN ?_)
 have mh:=mg.pk [0,5,6,3,1,2]
 exact Gt (fq,fu,ma,bu.eP.ls,bu.iQ,aI) ⟨rfl,rfl,rfl,rfl,rfl,rfl,rfl,rfl,rfl,rfl,rfl,rfl,rfl,rfl,rfl,rfl,rfl,trivial⟩ (bS.2 ⟨mh,by exact fF,e6,e6,e6,f4,et (ip cu) (et (ai jB) (et (ai jD) (ai fe)))⟩)
 refine jF (dF cu) (sr (Kz (.bool (decide (a.kX=1))) (An rfl ?_)))
 by_cases ed:a.kX=1
 refine jT (dT ed) (FT (Mz rfl ?_))
 have mi:=dP.pf [3]
 obtain⟨⟨dm,aJ⟩,fI⟩:∃ q:jW × aB,jk g=q:=⟨_,rfl⟩
 obtain⟨ru,jI,pF,jJ,pG⟩:=Gn mi
 refine cl Tryz.call14 (uu _ _ l g dm aJ jI e8 f4 fI) ?_
 rintro _ ry ⟨iM,iO,mo,rfl,jM,fJ,fK,fM⟩
 have iP:=jJ _ _ jM
 have pI:=az fJ
 have pJ:=iP.rowC (i:=0) rfl
 replace fK:aJ.aa.ag.ls.length=g.aa.ag.ls.length∧aJ.aa.av=g.aa.av∧aJ.ak.ls.length+aJ.aa.aj.ls.length≤8∧aJ.aa.aI.ls.length≤g.aa.aI.ls.length+0:=fK
 replace fM:Mk aJ:=fM
 have mq:=iP.pf [3]
 refine dN [.slice iM dm.eP.ls.length iO, .bool dm.iQ] 0 mq S4 ?_
 intro rz mr
 refine D0 (bN ?_)
 have mD:=mr.pb [3,1,2]
 exact Gt (iM,iO,mo,dm.eP.ls,dm.iQ,aJ) ⟨rfl,rfl,rfl,rfl,rfl,rfl,rfl,rfl,rfl,rfl,rfl,rfl,rfl,rfl,rfl,rfl,rfl,trivial⟩ (bS.2 ⟨mD,by exact fJ,e6,e6,e6,f4,et (iN cu) (et (ip ed) (ai fI))⟩)
 refine jF (dF ed) (Gj (bN ?_))
 have mE:Own w D gu (sepL (q6 bF.own ([]))::_):=dP.sepNil
 have mF:Own w D gu (row none 0 0 (q6 bF.cells ([])) 42 21::_):=mE.free (fB 42 21)
 have mG:=mF.pb [0,1]
 exact Gt (none,0, [], [],false,g) ⟨rfl,rfl,rfl,rfl,rfl,rfl,rfl,rfl,rfl,rfl,rfl,rfl,rfl,rfl,rfl,rfl,rfl,trivial⟩ (bS.2 ⟨mG,(show s8 bF.abs ([])=([])∧0≤s2 ([])∧0≤9223372036854775807∧(g.aa.ag.ls.length≤1000∧g.aa.av≤4∧g.ak.ls.length+g.aa.aj.ls.length≤8∧g.aa.aI.ls.length≤g.aa.aI.ls.length+1)∧Mk g∧(if a.kX=0 then bnd (bnd (j3 g) fun J=>(ko a.ed a.aC.aH 1 J.ax a.aC.ax,nR a.ed a.aC.bi J.ax,ko a.ed a.aC.aH 9 J.bf a.aC.bf)) fun sJrbbtbbfLsJjtJ=>bnd (if a.aC.aH=1 then 1 else sJrbbtbbfLsJjtJ.1) fun sJrbbtbbfLsJjtJaJ=>bnd (eF g (bQ.mk a.aC.aH a.aC.aJ a.aC.eO a.aC.aS a.aC.dz a.aC.eu a.aC.aU sJrbbtbbfLsJjtJaJ sJrbbtbbfLsJjtJ.2.1 a.aC.dW sJrbbtbbfLsJjtJ.2.2 a.aC.aK (oz a.ed a.aC.dI 0) a.aC.cZ a.aC.xN a.aC.d9 a.aC.bV (E4 a.aC.aG.ls) (E4 (s8 af.abs a.aC.ah.ls)) (E4 a.aC.ag.ls))) fun aQ=>(aQ.1.eP.ls,aQ.2.2) else if a.kX=1 then bnd (jk g) fun aR=>(aR.1.eP.ls,aR.2) else([],g))=(([]),g) from ⟨by exact rfl,e6,e6,e6,f4,et (iN cu) (iN ed)⟩)⟩)
 rintro ⟨s,B,I,f,aP,j⟩ rA jN
 obtain⟨iQ,fO,pK,pM,pQ,pR,fP⟩:=bS.1 jN
 have pU:=az fO
 refine sr (Kz (vP G 0) (Lz (.slice s f.length B) iQ 0 Tryz.isAgg45 (Kz (vJ f.length) (Mn rfl (bo ?_)))))
 have mH:=iQ.pf []
 obtain⟨mI,bB⟩:=Ej fun(p:Nat) (O:List (iH × Int)) (w':World)=>Own w D w' [blk G [.slice s f.length B, .bool aP] 47,blk r (fU.cells a) 44,o9 F iH.key kI O,iE l j,row s f.length B (q6 bF.cells I) 42 21,sepL (q6 bF.own I)]∧p≤f.length∧gH j f aa=gH j (r6 p f) O
 refine Wp.loop (fun i:Nat × (List (iH × Int))=> [(2, .bool false),(71,vJ i.1),(70,vJ f.length),(69, .slice s f.length B),(68,vP G 0),(46, .bool (decide (a.kX=0))),(47, .bool (decide (a.kX=0))),(45,vI a.kX),(44,vP r 0),(9,vP G 0),(43, .agg #[.slice none 0 0, .bool false]),(8,vP r 0),(42, .agg (fU.cells a).toArray),(41, .pointer (some ⟨ab A0,ao A0+h *25,none⟩)),(40, .bool (decide (((h:Nat):Int) < ((l0.length:Nat):Int)))),(39,vJ h),(38,vJ l0.length),(37, .slice A0 l0.length c0),(6, .map (some F)),(4,vP l 0),(3, .bool P)]) mI (fun i=>f.length - i.1) (0,aa) ⟨rfl,rfl,rfl,rfl,rfl,rfl,rfl,rfl,rfl,rfl,rfl,rfl,rfl,rfl,rfl,rfl,rfl,rfl,rfl,rfl,rfl,trivial⟩ (bB.2 ⟨mH,e6,rfl⟩) ?_
 rintro ⟨p,O⟩ rC jO
 obtain⟨aK,pV,bE⟩:=bB.1 jO
 refine sr (Kz (.bool (decide (((p:Nat):Int) < ((f.length:Nat):Int)))) (nt (FU ?_)))
 by_cases iR:((p:Nat):Int) < ((f.length:Nat):Int)
 obtain⟨d,bG⟩:=dK (ls:=I) (i:=p) bF.len f3 (aK.rds (i:=4) rfl) e9
 have jP:=fo fO bG
 have pW:d.aG.ls.length≤d.aG.c∧d.aG.ls.length≤9223372036854775807:=bz aK (i:=5) rfl (φ:=fun _=>_) (ay (P3.2 ⟨d,E0 bG,b1⟩) bq)
 have pX:d.ah.ls.length≤d.ah.c∧d.ah.ls.length≤9223372036854775807:=bz aK (i:=5) rfl (φ:=fun _=>_) (ay (P3.2 ⟨d,E0 bG, .tail _ b1⟩) bq)
 have pY:d.ag.ls.length≤d.ag.c∧d.ag.ls.length≤9223372036854775807:=bz aK (i:=5) rfl (φ:=fun _=>_) (ay (P3.2 ⟨d,E0 bG, .tail _ b2⟩) bq)
 have bV:=drop_at jP
 refine jT (dT iR) (sk (FU (bo (sr (fw (.pointer (some ⟨ab s,ao s+p *21,none⟩)) (FZ (uB) rfl rfl ((aK.rds (i:=4) rfl).addr (i:=p) e6) e6) (fw (.agg (bF.cells d).toArray) (F5 rfl (Gc (cs:=(bF.cells d)) Tryz.isAgg42 M6 ((aK.rds (i:=4) rfl).elem bF.len bG f3))) ?_))))))
 refine dM (gD 0 0 0 0 0 0 0 0 0 0 0 0 0 0 0 false ([]) ([]) none 0 0 none 0 0 none 0 0) 42 aK ?_
 intro bL rD mJ
 refine dN (bF.cells d) 0 mJ M6 ?_
 intro rE dn
 refine nt (FU (sr (Kz (vP bL 0) (Lz (vI d.aH) dn 0 C6 (fw (.bool (decide (¬ (d.aH=2)))) (Gi (e:= !(decide (d.aH=2))) yk decide_not.symm) (nt ?_))))))
 by_cases bO:d.aH=2
 refine jF (dF (JP bO)) (sk (sr (Kz (vP bL 2) (Lz (vI d.eO) dn 0 C6 (Kz (vP bL 6) (Lz (vU d.aU) dn 0 E1 (Kz (.agg #[vI d.eO,vU d.aU]) ?_)))))))
 refine dM [vI 0, .int .u64 0] 65 dn ?_
 intro rF rG mK
 refine dN [vI d.eO,vU d.aU] 0 mK U4 ?_
 intro rH mM
 refine nt (FU (FU ?_))
 refine oJ 8 [] (F8 (F8 (bP.block (F8 (F8 (bP.block (bP.block (F8 (F8 (bP.block (F8 Gh))))))))))) mM ?_
 intro rJ bH
 refine qv 0 rfl rfl (qb 1 rfl 0 U5 U4 rfl rfl rfl ?_)
 obtain⟨ek,bW⟩:∃ q,oF O (iH.mk d.eO d.aU)=q:=⟨_,rfl⟩
 refine qt (v:=vI (Option.getD ek 0)) 2 rfl (fun _ ⟨_,H9⟩=>Il (k:=(iH.mk d.eO d.aU)) (d0:=0) (i:=4) H9 rfl wz U6 (fun _=>by kernel_rfl) rfl rfl bW) (qt (v:= .bool (decide (¬ ((Option.getD ek 0)=0)))) 3 rfl (fun _ _=>Gi (e:= !(decide ((Option.getD ek 0)=0))) yk decide_not.symm) (qv 4 rfl rfl ?_))
 by_cases E:(Option.getD ek 0)=0
 refine F3 (rs:= []) 5 rfl rfl rfl (dF (JP E)) e7 (F3 (rs:= []) 6 rfl rfl rfl (dF (JP E)) e7 (F3 (rs:= []) 7 rfl rfl rfl (dF (JP E)) e7 (F3 (rs:= []) 8 rfl rfl rfl (dF (JP E)) e7 (F3 (rs:= []) 9 rfl rfl rfl (dF (JP E)) e7 (F3 (rs:= []) 10 rfl rfl rfl (dF (JP E)) e7 (qt (v:= .bool false) 11 rfl (fun _ _=>FX rfl (dF (JP E)) rfl) (qn (FW (jf (sk (FT (Mz rfl (La ([vI d.eO,vU d.aU]) bH 0 U5 U4 (Kz (vP bL 4) (Lz (vI d.dz) bH 1 C6 ?_)))))))))))))))
 have mO:=bH.pf [4]
 refine GV (HZ (k:=(iH.mk d.eO d.aU)) (v:=d.dz) mO wz U6 rfl rfl rfl ?_)
 intro rM mP
 refine D0 (bN (FW (FT (fw (vJ (p+1)) (FV (e:=C7.wrap (((p:Nat):Int)+1)) yk f1) (Mz rfl (D0 ?_))))))
 have mQ:=mP.px [3,4] [1,2] []
 exact F9 (p+1,(lH O (iH.mk d.eO d.aU) d.dz)) ⟨rfl,rfl,rfl,rfl,rfl,rfl,rfl,rfl,rfl,rfl,rfl,rfl,rfl,rfl,rfl,rfl,rfl,rfl,rfl,rfl,rfl,trivial⟩ (bB.2 ⟨mQ,e6,et (bE) (et (congrArg (fun q=>gH j q O) bV) (et (ip bO) (et (ai bW) (ip E))))⟩) (by show f.length - (p+1) < f.length - p; omega)
 refine F6 (v:= .map (some F)) (rs:= []) 5 rfl rfl rfl (dT E) e7 (fun _ _=>F7 rfl) (F6 (v:= .agg #[vI d.eO,vU d.aU]) (rs:= []) 6 rfl rfl rfl (dT E) e7 (fun _ ⟨_,H9⟩=>F5 rfl (Gc (cs:= [vI d.eO,vU d.aU]) U5 U4 ((H9.cls (i:=0) rfl).lit (k:=0) (m:=2) rfl))) ?_)
 obtain⟨dw,dO⟩:∃ q,oF O (iH.mk d.eO d.aU)=q:=⟨_,rfl⟩
 refine F6 (v:=vI (Option.getD dw 0)) (rs:= []) 7 rfl rfl rfl (dT E) e7 (fun _ ⟨_,H9⟩=>Il (k:=(iH.mk d.eO d.aU)) (d0:=0) (i:=4) H9 rfl wz U6 (fun _=>by kernel_rfl) rfl rfl dO) (F6 (v:=vP bL 4) (rs:= []) 8 rfl rfl rfl (dT E) e7 (fun _ _=>yk) (F6 (v:=vI d.dz) (rs:= []) 9 rfl rfl rfl (dT E) e7 (fun _ ⟨_,H9⟩=>F5 rfl (bZ.one C6 (jL.of (H9.cls (i:=1) rfl) rfl))) (F6 (v:= .bool (decide (¬ ((Option.getD dw 0)=d.dz)))) (rs:= []) 10 rfl rfl rfl (dT E) e7 (fun _ _=>Gi (e:= !(decide ((Option.getD dw 0)=d.dz))) yk decide_not.symm) (qt (v:= .bool (decide (¬ ((Option.getD dw 0)=d.dz)))) 11 rfl (fun _ _=>Gb rfl (dT E) rfl) (qn (FW ?_))))))
 by_cases eu:(Option.getD dw 0)=d.dz
 refine jF (dF (JP eu)) (sk (FT (Mz rfl (La ([vI d.eO,vU d.aU]) bH 0 U5 U4 (Kz (vP bL 4) (Lz (vI d.dz) bH 1 C6 ?_))))))
 have mR:=bH.pf [4]
 refine GV (HZ (k:=(iH.mk d.eO d.aU)) (v:=d.dz) mR wz U6 rfl rfl rfl ?_)
 intro rO mU
 refine D0 (bN (FW (FT (fw (vJ (p+1)) (FV (e:=C7.wrap (((p:Nat):Int)+1)) yk f1) (Mz rfl (D0 ?_))))))
 have mV:=mU.px [3,4] [1,2] []
 exact F9 (p+1,(lH O (iH.mk d.eO d.aU) d.dz)) ⟨rfl,rfl,rfl,rfl,rfl,rfl,rfl,rfl,rfl,rfl,rfl,rfl,rfl,rfl,rfl,rfl,rfl,rfl,rfl,rfl,rfl,trivial⟩ (bB.2 ⟨mV,e6,et (bE) (et (congrArg (fun q=>gH j q O) bV) (et (ip bO) (et (ai bW) (et (iN E) (et (ai dO) (ip eu))))))⟩) (by show f.length - (p+1) < f.length - p; omega)
 refine jT (dT eu) (sr (An rfl (rt (tR (bR (tR (tR (bR (bR (tR (tR (bR (tR (rs ?_))))))))))))))
 have mW:=bH.pk []
 obtain rfl:_=false:=hr.symm.trans (et (ai aM) (et (ai aN) (et (ip ah) (et (ai bJ) (et (ai aO) (et (iN bK) (jq (et (dA) (et (congrArg (fun q=>gM P q aa g) eH) (et (ai fP) (qm (et (bE) (et (congrArg (fun q=>gH j q O) bV) (et (ip bO) (et (ai bW) (et (iN E) (et (ai dO) (iN eu))))))))))))))))))
 exact⟨rfl,mW⟩
 refine jT (dT bO) (Wp.exit (F4 (Gg (FW (FT (fw (vJ (p+1)) (FV (e:=C7.wrap (((p:Nat):Int)+1)) yk f1) (Mz rfl (D0 ?_))))))))
 have mY:=dn.px [] [0] []
 exact F9 (p+1,O) ⟨rfl,rfl,rfl,rfl,rfl,rfl,rfl,rfl,rfl,rfl,rfl,rfl,rfl,rfl,rfl,rfl,rfl,rfl,rfl,rfl,rfl,trivial⟩ (bB.2 ⟨mY,e6,et (bE) (et (congrArg (fun q=>gH j q O) bV) (iN bO))⟩) (by show f.length - (p+1) < f.length - p; omega)
 refine jF (dF iR) (Wp.exit (F4 ?_))
 have jQ:gH j f aa=C1 O:=et (bE) (et (congrArg (fun q=>gH j q O) (eZ (ls:=f) (i:=p) e6)) rfl)
 refine F4 (Gg (bN (FW (FT (fw (vJ (h+1)) (FV (e:=C7.wrap (((h:Nat):Int)+1)) yk f1) (Mz rfl (D0 ?_)))))))
 have ng:=aK.pk [2,3]
 exact F9 (h+1,O,j) ⟨rfl,rfl,rfl,rfl,rfl,rfl,rfl,trivial⟩ (dz.2 ⟨ng,e6,by first | omega | (dsimp only; omega) | exact uL f4 f4,by first | assumption | exact xV f4 f4,Eq.trans (dA) (Eq.trans (congrArg (fun q=>gM P q aa g) eH) (Eq.trans (ai fP) (tC jQ)))⟩) (by show l0.length - (h+1) < l0.length - h; omega)
 refine jF (dF gq) (Wp.exit (F4 ?_))
 have jR:gM P l0 ([]) z=C1 ():=et (dA) (et (congrArg (fun q=>gM P q aa g) (eZ (ls:=l0) (i:=h) e6)) rfl)
 refine F4 (Gg (FW (FU ?_)))
 have ni:=bY.pk []
 refine FT (Mz rfl (An rfl (rt (rs ?_))))
 have nk:=ni.pk []
 obtain rfl:_=P:=hr.symm.trans (et (ai aM) (et (ai aN) (et (ip ah) (et (ai bJ) (et (ai aO) (et (iN bK) (nS jR)))))))
 exact⟨rfl,nk⟩
 refine Sz (dT ah) (Sz (dT ah) (Sz (dT ah) (fw (.bool true) (Gb rfl (dT ah) rfl) (nt (jt (sr (Az rfl (An rfl (rt (tR (Fin.res (lY rfl rfl rfl) (Mz rfl (Kz (.pointer none) (Kz (vI 1) (Az rfl (An rfl (FU (FU ?_))))))))))))))))))
 have iT:=fT.pk []
 refine FT (Mz rfl (Kz (.bool true) (Mz rfl (Sz rfl (Sz rfl (fw (.bool true) (Gb rfl rfl rfl) (Mz rfl (Sz rfl (Sz rfl (Sz rfl (fw (.bool true) (Gb rfl rfl rfl) (nt (jt (sr (Mz rfl (Mz rfl ?_))))))))))))))))
 rcases JQ (P) with aH | aH
 refine GK (v:= .pointer none) rfl rfl aH rfl (F7 rfl) (Gz (.bool false) aH (fw (.bool false) (Gb rfl aH rfl) (An rfl (rt (tR (rs ?_))))))
 have nu:=iT.pk []
 obtain rfl:_=false:=hr.symm.trans (et (ai aM) (et (ai aN) (et (iN ah) (ip aH))))
 exact⟨rfl,nu⟩
 refine Sz aH (Sz aH (fw (.bool false) (FX rfl aH rfl) (An rfl (rt (tR (rs ?_))))))
 have ny:=iT.pk []
 obtain rfl:_=false:=hr.symm.trans (et (ai aM) (et (ai aN) (et (iN ah) (gB aH))))
 exact⟨rfl,ny⟩
end Go.Proofs.YtbkagebjhbphaaaGreat
