/-
 coord: the law CoordLow
-/
import Derived.Test.YtbkagebjhbphaaaGreatLv
namespace Go.Proofs.YtbkagebjhbphaaaGreat
set_option maxRecDepth 100000
open Go.RowKit
set_option linter.unusedVariables false
set_option linter.unusedSectionVars false
set_option linter.unusedSimpArgs false
def jH (a:bP) (b:aC):List bL→Unit ⊕ Bool
  | []=>Sum.inl ()
  | c::d=>if((c.bf:Nat):Int) < ((a.cz:Nat):Int) then Sum.inr (false) else jH a b d
def jI (a:bP):List Nat→Unit ⊕ Bool
  | []=>Sum.inl ()
  | b::c=>if((b:Nat):Int) < ((a.cz:Nat):Int) then Sum.inr (false) else jI a c
def gI (b:aC) (d:dC):List bP→Nat→Nat ⊕ Bool
  | [],c=>Sum.inl c
  | a::e,c=>if a.aI=3 then if((a.cz:Nat):Int) < ((c:Nat):Int) then Sum.inr (false) else if((a.cz:Nat):Int) > ((a.bf:Nat):Int) then Sum.inr (false) else qQ (jH a b d.aj.ls) fun _=>bnd (gH b) fun f=>qQ (jI a f) fun _=>gI b d e a.cz else gI b d e c
def gU (m:Bool):List StepT→Nat→aC→Unit ⊕ Bool
  | [],j,b=>Sum.inl ()
  | a::l,j,b=>bnd (if a.kR=0 then bnd (iI b) fun c=>if a.sW=true then bnd (if((a.ak.bf:Nat):Int)=0 then a.ak.bf else Int.toNat (IntKind.u64.wrap (((eT c.ay 32:Nat):Int)+((a.ak.bf % 16:Nat):Int)))) fun sJrbbtbbfLsJjtbtJ=>bnd (if a.ak.aI=1 then c.ay else a.ak.ay) fun sJrbbtbbfLsJjtbtJaJ=>if a.ak.aI=9 then if((a.ak.dG:Nat):Int)=0 then bnd (dh b (bP.mk a.ak.aI a.ak.aJ a.ak.eU a.ak.aQ a.ak.dz a.ak.dL a.ak.aU sJrbbtbbfLsJjtbtJaJ sJrbbtbbfLsJjtbtJ a.ak.cz c.aY a.ak.aH a.ak.dG a.ak.bT a.ak.xN a.ak.dI a.ak.bO (Ll.mk a.ak.aD.ls) (Ll.mk a.ak.ah.ls) (Ll.mk a.ak.ag.ls))) fun d=>(d.1.dR.ls,d.2.2) else bnd (dh b (bP.mk a.ak.aI a.ak.aJ a.ak.eU a.ak.aQ a.ak.dz a.ak.dL a.ak.aU sJrbbtbbfLsJjtbtJaJ sJrbbtbbfLsJjtbtJ a.ak.cz c.aY a.ak.aH 0 a.ak.bT a.ak.xN a.ak.dI a.ak.bO (Ll.mk a.ak.aD.ls) (Ll.mk a.ak.ah.ls) (Ll.mk a.ak.ag.ls))) fun e=>(e.1.dR.ls,e.2.2) else if((a.ak.dG:Nat):Int)=0 then bnd (dh b (bP.mk a.ak.aI a.ak.aJ a.ak.eU a.ak.aQ a.ak.dz a.ak.dL a.ak.aU sJrbbtbbfLsJjtbtJaJ sJrbbtbbfLsJjtbtJ a.ak.cz a.ak.aY a.ak.aH a.ak.dG a.ak.bT a.ak.xN a.ak.dI a.ak.bO (Ll.mk a.ak.aD.ls) (Ll.mk a.ak.ah.ls) (Ll.mk a.ak.ag.ls))) fun f=>(f.1.dR.ls,f.2.2) else bnd (dh b (bP.mk a.ak.aI a.ak.aJ a.ak.eU a.ak.aQ a.ak.dz a.ak.dL a.ak.aU sJrbbtbbfLsJjtbtJaJ sJrbbtbbfLsJjtbtJ a.ak.cz a.ak.aY a.ak.aH 0 a.ak.bT a.ak.xN a.ak.dI a.ak.bO (Ll.mk a.ak.aD.ls) (Ll.mk a.ak.ah.ls) (Ll.mk a.ak.ag.ls))) fun g=>(g.1.dR.ls,g.2.2) else bnd (dh b (bP.mk a.ak.aI a.ak.aJ a.ak.eU a.ak.aQ a.ak.dz a.ak.dL a.ak.aU a.ak.ay a.ak.bf a.ak.cz a.ak.aY a.ak.aH a.ak.dG a.ak.bT a.ak.xN a.ak.dI a.ak.bO (Ll.mk a.ak.aD.ls) (Ll.mk a.ak.ah.ls) (Ll.mk a.ak.ag.ls))) fun h=>(h.1.dR.ls,h.2.2) else if a.kR=1 then bnd (jg b) fun i=>(i.1.dR.ls,i.2) else([],b)) fun sJrbbtbbfLsJ=>bnd (iI sJrbbtbbfLsJ.2) fun k=>qQ (gI sJrbbtbbfLsJ.2 k sJrbbtbbfLsJ.1 j) fun sLrbbtbbfLsJabL=>gU m l sLrbbtbbfLsJabL sJrbbtbbfLsJ.2
def su (l0:List StepT):Bool:=
 bnd (uA) fun b=>bnd (iY (dC.mk 2 0 0 1 (Ll.mk ([(bv.mk ([]) 1),(bv.mk ([109]) 2)])) (Ll.mk ([])) (Ll.mk ([])))) fun d=>if d=0 then bnd (jk (dC.mk 2 0 0 1 (Ll.mk ([(bv.mk ([]) 1),(bv.mk ([109]) 2)])) (Ll.mk ([])) (Ll.mk ([])))) fun a=>bnd ((aC.mk (dC.mk a.au (Int.toNat (IntKind.u64.wrap (((a.ay:Nat):Int)+1))) (eT (Int.toNat (IntKind.u64.wrap (((a.ay:Nat):Int)+1))) 32) a.aH (Ll.mk a.ag.ls) (Ll.mk a.aj.ls) (Ll.mk a.aG.ls)) 0 (Ll.mk ([])) (dY.mk false 0 0 (Ll.mk ([]))) (dY.mk false 0 0 (Ll.mk ([]))) (dY.mk false 0 0 (Ll.mk ([]))) (dY.mk false 0 0 (Ll.mk ([]))) (dY.mk false 0 0 (Ll.mk ([]))) 0 0 0 0 0)) fun c=>if((l0.length:Nat):Int) > 100 then if b=true then true else false else lp (gU b l0 0 c) fun _=>b else if b=true then false else false
set_option maxHeartbeats 4000000 in
theorem xA (w:World) (D:Nat→Prop) (A0:Option Addr) (n0 c0:Nat) (d0:List gz) (l0:List StepT) (r0:Bool) (H:Own w D w []) (mP:List.map gz.abs d0=l0) (lm:Ro w D fun w'=>bD w' 25 A0 n0 (List.flatMap gz.cells d0)) (K:∀ x ∈ d0,Ro w D (fun w'=>bD w' 6 x.ak.aD.A x.ak.aD.ls.length (List.flatMap bC.cells x.ak.aD.ls))∧(x.ak.aD.ls.length≤x.ak.aD.c∧x.ak.aD.ls.length≤9223372036854775807)∧Ro w D (fun w'=>bD w' 3 x.ak.ah.A x.ak.ah.ls.length (List.flatMap af.cells x.ak.ah.ls))∧(x.ak.ah.ls.length≤x.ak.ah.c∧x.ak.ah.ls.length≤9223372036854775807)∧(∀ y1 ∈ x.ak.ah.ls,Ro w D (fun w'=>bD w' 2 y1.av.A y1.av.ls.length (List.flatMap aL.cells y1.av.ls))∧(y1.av.ls.length≤y1.av.c∧y1.av.ls.length≤9223372036854775807))∧Ro w D (fun w'=>bD w' 2 x.ak.ag.A x.ak.ag.ls.length (List.flatMap bv.cells x.ak.ag.ls))∧(x.ak.ag.ls.length≤x.ak.ag.c∧x.ak.ag.ls.length≤9223372036854775807)) (q8:n0=l0.length) (wN:l0.length *272≤211106232532992) (wO:l0.length *272≤140737488351232) (q9:∀ x ∈ l0,x.ak.aU≤18446744073709551615∧x.ak.aD.ls.length≤140737488351232∧x.ak.ah.ls.length≤140737488351232∧x.ak.ag.ls.length≤140737488351232) (hr:su l0=r0):
    Calls Tryz.prog 4 #[.slice A0 n0 c0] w (dW fun v w'=>v= .bool r0∧Own w D w' []):=by
 subst q8
 have uH:=aA mP
 refine cb Tryz.func4 ?_
 refine sr (Ar rfl ?_)
 obtain⟨P,ah⟩:∃ q,uA=q:=⟨_,rfl⟩
 obtain⟨wP,mQ,uI,mR,uJ⟩:=EU H
 refine cl Tryz.call7 (zS _ _ P mQ ah) ?_
 rintro _ wQ ⟨rfl,mU⟩
 have rf:=mR _ _ mU
 refine Ar rfl ?_
 refine WL.do rfl (Fe Tryz.call9 rfl ?_ (fun _ _ k=>k))
 refine cb Tryz.func9 ?_
 refine sr ?_
 refine dP [vI 0, .int .u64 0, .int .u64 0, .int .u64 0, .slice none 0 0, .slice none 0 0, .slice none 0 0] 33 rf ?_
 intro wR wS rq
 refine ns (Kz (.agg #[.string ⟨List.toArray ([])⟩,vI 1]) (Kz (.agg #[.string ⟨List.toArray ([109])⟩,vI 2]) ?_))
 refine kG [.string ⟨List.toArray ([])⟩,vI 1, .string ⟨List.toArray ([109])⟩,vI 2] 89 2 2 rq ?_
 intro cK wT lq
 replace lq:=Fx (y:=row cK 2 2 (List.flatMap bv.cells ([(bv.mk ([]) 1),(bv.mk ([109]) 2)])) 89 2) rfl lq
 refine Kz (.agg #[vI 2, .int .u64 0, .int .u64 0, .int .u64 1, .slice cK 2 2, .slice none 0 0, .slice none 0 0]) ?_
 have ru:=lq.pb [0]
 refine dO [vI 2, .int .u64 0, .int .u64 0, .int .u64 1, .slice cK 2 2, .slice none 0 0, .slice none 0 0] 0 ru Tryz.sizeOf33 ?_
 intro wU mV
 refine nt (rt (Fin.res (lX rfl rfl (Fb (cs:= [vI 2, .int .u64 0, .int .u64 0, .int .u64 1, .slice cK 2 2, .slice none 0 0, .slice none 0 0]) Tryz.isAgg33 Tryz.sizeOf33 ((mV.cls (i:=0) rfl).lit (k:=0) (m:=7) rfl))) ?_))
 refine WL.do rfl (Fe Tryz.call8 rfl ?_ (fun _ _ k=>k))
 refine cb Tryz.func8 ?_
 refine EP ?_
 have ry:=mV.pk [1]
 refine EO ?_
 refine dP [vI 2, .int .u64 0, .int .u64 0, .int .u64 1, .slice cK 2 2, .slice none 0 0, .slice none 0 0] 33 ry ?_
 intro rz wV mW
 refine Az rfl (An rfl (EP (sr (La ([vI 2, .int .u64 0, .int .u64 0, .int .u64 1, .slice cK 2 2, .slice none 0 0, .slice none 0 0]) mW 0 Tryz.isAgg33 Tryz.sizeOf33 ?_))))
 obtain⟨jD,aj⟩:∃ q,iY (dC.mk 2 0 0 1 (Ll.mk ([(bv.mk ([]) 1),(bv.mk ([109]) 2)])) (Ll.mk ([])) (Ll.mk ([])))=q:=⟨_,rfl⟩
 obtain⟨wW,mY,uK,ng,ni⟩:=EU mW
 refine cl Tryz.call19 (nN _ _ (dC.mk 2 0 0 1 (Ll.mk ([(bv.mk ([]) 1),(bv.mk ([109]) 2)])) (Ll.mk ([])) (Ll.mk ([]))) cK 2 2 none 0 0 [] none 0 0 [] jD mY rfl (ni _ 1 _ rfl aT) (by first | exact⟨IQ rfl,IQ rfl⟩ | omega | exact⟨Nat.le_refl _,by omega⟩) rfl rfl (fun _ _=>bD.nil _ _ _) (by first | exact⟨IQ rfl,IQ rfl⟩ | omega | exact⟨Nat.le_refl _,by omega⟩) (fun _ Y=>absurd Y List.not_mem_nil) rfl rfl (fun _ _=>bD.nil _ _ _) (by first | exact⟨IQ rfl,IQ rfl⟩ | omega | exact⟨Nat.le_refl _,by omega⟩) (fun _ Y=>absurd Y List.not_mem_nil) (by first | omega | (dsimp only; omega) | (simp only [List.length_nil]; omega) | decide) aj) ?_
 rintro _ wX ⟨rfl,nk⟩
 have jE:=ng _ _ nk
 refine fw (.bool (decide (¬ (jD=0)))) (Fq (e:= !(decide (jD=0))) yk decide_not.symm) (Mz rfl ?_)
 by_cases Z:jD=0
 refine gw (vP rz 1) (dF (IV Z)) yk (gw (.int .u64 0) (dF (IV Z)) (EY rfl (bZ.one Tryz.isAgg28 (FE (jE.cls (i:=0) rfl) rfl))) (gw (.bool false) (dF (IV Z)) yk (fw (.bool false) (ES rfl (dF (IV Z)) rfl) (nt (jf (sk (sr (La ([vI 2, .int .u64 0, .int .u64 0, .int .u64 1, .slice cK 2 2, .slice none 0 0, .slice none 0 0]) jE 0 Tryz.isAgg33 Tryz.sizeOf33 ?_))))))))
 obtain⟨t,aD⟩:∃ q,jk (dC.mk 2 0 0 1 (Ll.mk ([(bv.mk ([]) 1),(bv.mk ([109]) 2)])) (Ll.mk ([])) (Ll.mk ([])))=q:=⟨_,rfl⟩
 obtain⟨wY,nu,uL,ny,nz⟩:=EU jE
 refine cl Tryz.call20 (ol _ _ (dC.mk 2 0 0 1 (Ll.mk ([(bv.mk ([]) 1),(bv.mk ([109]) 2)])) (Ll.mk ([])) (Ll.mk ([]))) cK 2 2 none 0 0 [] none 0 0 [] t nu rfl (nz _ 1 _ rfl aT) (by first | exact⟨IQ rfl,IQ rfl⟩ | omega | exact⟨Nat.le_refl _,by omega⟩) rfl rfl (fun _ _=>bD.nil _ _ _) (by first | exact⟨IQ rfl,IQ rfl⟩ | omega | exact⟨Nat.le_refl _,by omega⟩) (fun _ Y=>absurd Y List.not_mem_nil) rfl rfl (fun _ _=>bD.nil _ _ _) (by first | exact⟨IQ rfl,IQ rfl⟩ | omega | exact⟨Nat.le_refl _,by omega⟩) (fun _ Y=>absurd Y List.not_mem_nil) (by first | omega | (dsimp only; omega) | (simp only [List.length_nil]; omega) | decide) (by first | assumption | exact zI (by assumption) | exact fun _ Y=>absurd Y List.not_mem_nil) (by first | assumption | exact zJ (by assumption) | exact fun _ Y=>absurd Y List.not_mem_nil) aD) ?_
 rintro _ wZ ⟨nA,nC,nD,nE,nG,nH,xc,xe,rfl,nI,jL,jM⟩
 have jG:=ny _ _ nI
 have uM:=aA jL
 have uN:=aA jM
 have uO:=jG.rowC (i:=0) rfl
 have uP:=jG.rowC (i:=1) rfl
 have uQ:=jG.rowC (i:=3) rfl
 have uR:t.ag.ls.length=2∧t.au=2∧t.aj.ls.length=0∧t.aG.ls.length=0:=AB aD
 refine Kz (.agg #[vI t.au,vU t.ay,vU t.aY,vU t.aH, .slice nA t.ag.ls.length nC, .slice nD t.aj.ls.length nE, .slice nG t.aG.ls.length nH, .int .u64 0, .slice none 0 0, .bool false, .int .u64 0,vI 0, .slice none 0 0, .bool false, .int .u64 0,vI 0, .slice none 0 0, .bool false, .int .u64 0,vI 0, .slice none 0 0, .bool false, .int .u64 0,vI 0, .slice none 0 0, .bool false, .int .u64 0,vI 0, .slice none 0 0, .int .u64 0, .int .u64 0, .int .u64 0, .int .u64 0, .int .u64 0, .pointer none]) ?_
 refine dP [vI t.au,vU t.ay,vU t.aY,vU t.aH, .slice nA t.ag.ls.length nC, .slice nD t.aj.ls.length nE, .slice nG t.aG.ls.length nH, .int .u64 0, .slice none 0 0, .bool false, .int .u64 0,vI 0, .slice none 0 0, .bool false, .int .u64 0,vI 0, .slice none 0 0, .bool false, .int .u64 0,vI 0, .slice none 0 0, .bool false, .int .u64 0,vI 0, .slice none 0 0, .bool false, .int .u64 0,vI 0, .slice none 0 0, .int .u64 0, .int .u64 0, .int .u64 0, .int .u64 0, .int .u64 0, .pointer none] 86 jG ?_
 intro n xg rA
 refine An rfl (EP ?_)
 have nK:=rA.px [] [6] []
 refine EO (Mz rfl (Kz (vP n 0) (Kz (vP n 0) (Kz (vP n 1) (Lz (vU t.ay) nK 0 Tryz.isAgg28 (fw (.int .u64 ((Int.toNat (IntKind.u64.wrap (((t.ay:Nat):Int)+1)):Nat):Int)) (EQ (e:=IntKind.u64.wrap (((t.ay:Nat):Int)+1)) yk (fq _)) (Kz (vP n 0) (Kz (vP n 0) (Kz (vP n 1) ?_)))))))))
 refine dO [.int .u64 ((Int.toNat (IntKind.u64.wrap (((t.ay:Nat):Int)+1)):Nat):Int)] 1 nK Tryz.sizeOf28 ?_
 intro xh nL
 refine ns (Mz rfl (Mz rfl (Kz (vP n 0) (Kz (vP n 0) (Kz (vP n 1) (Lz (.int .u64 ((Int.toNat (IntKind.u64.wrap (((t.ay:Nat):Int)+1)):Nat):Int)) nL 0 Tryz.isAgg28 ?_))))))
 have uS:eT (Int.toNat (IntKind.u64.wrap (((t.ay:Nat):Int)+1))) 32≤18446744073709551615:=oD _ _
 refine fw (.int .u64 ((eT (Int.toNat (IntKind.u64.wrap (((t.ay:Nat):Int)+1))) 32:Nat):Int)) (EQ (Gm (m:=32) rfl rfl) (fq _)) (Kz (vP n 0) (Kz (vP n 0) (Kz (vP n 2) ?_)))
 refine dO [.int .u64 ((eT (Int.toNat (IntKind.u64.wrap (((t.ay:Nat):Int)+1))) 32:Nat):Int)] 2 nL Tryz.sizeOf28 ?_
 intro aF rC
 refine ns (Mz rfl (Az rfl (An rfl (rt (Fin.res (lS rfl rfl rfl) ?_)))))
 have rD:Own w D aF (sepL (List.flatMap bB.own ([]))::_):=rC.sepNil
 have rE:Own w D aF (row none 0 0 (List.flatMap bB.cells ([])) 107 9::_):=rD.free (fo 107 9)
 have rF:Own w D aF (sepL (List.flatMap af.own ([]))::_):=rE.sepNil
 have rG:Own w D aF (row none 0 0 (List.flatMap af.cells ([])) 149 3::_):=rF.free (fo 149 3)
 have rH:Own w D aF (sepL (List.flatMap af.own ([]))::_):=rG.sepNil
 have rJ:Own w D aF (row none 0 0 (List.flatMap af.cells ([])) 149 3::_):=rH.free (fo 149 3)
 have rM:Own w D aF (sepL (List.flatMap af.own ([]))::_):=rJ.sepNil
 have rO:Own w D aF (row none 0 0 (List.flatMap af.cells ([])) 149 3::_):=rM.free (fo 149 3)
 have rP:Own w D aF (sepL (List.flatMap af.own ([]))::_):=rO.sepNil
 have rQ:Own w D aF (row none 0 0 (List.flatMap af.cells ([])) 149 3::_):=rP.free (fo 149 3)
 have nM:Own w D aF (sepL (List.flatMap af.own ([]))::_):=rQ.sepNil
 have nO:Own w D aF (row none 0 0 (List.flatMap af.cells ([])) 149 3::_):=nM.free (fo 149 3)
 have nP:=nO.pf [12,13,14,15,16,17,10,11]
 have nQ:Own w D aF (iF n (aC.mk (dC.mk t.au (Int.toNat (IntKind.u64.wrap (((t.ay:Nat):Int)+1))) (eT (Int.toNat (IntKind.u64.wrap (((t.ay:Nat):Int)+1))) 32) t.aH (Ll.mk t.ag.ls) (Ll.mk t.aj.ls) (Ll.mk t.aG.ls)) 0 (Ll.mk ([])) (dY.mk false 0 0 (Ll.mk ([]))) (dY.mk false 0 0 (Ll.mk ([]))) (dY.mk false 0 0 (Ll.mk ([]))) (dY.mk false 0 0 (Ll.mk ([]))) (dY.mk false 0 0 (Ll.mk ([]))) 0 0 0 0 0)::_):=eO jL jM rfl rfl rfl rfl rfl rfl nP
 obtain⟨ak,aa⟩:∃ q,(aC.mk (dC.mk t.au (Int.toNat (IntKind.u64.wrap (((t.ay:Nat):Int)+1))) (eT (Int.toNat (IntKind.u64.wrap (((t.ay:Nat):Int)+1))) 32) t.aH (Ll.mk t.ag.ls) (Ll.mk t.aj.ls) (Ll.mk t.aG.ls)) 0 (Ll.mk ([])) (dY.mk false 0 0 (Ll.mk ([]))) (dY.mk false 0 0 (Ll.mk ([]))) (dY.mk false 0 0 (Ll.mk ([]))) (dY.mk false 0 0 (Ll.mk ([]))) (dY.mk false 0 0 (Ll.mk ([]))) 0 0 0 0 0)=q:=⟨_,rfl⟩
 have nR:Own w D aF [iF n ak,row cK 2 2 (List.flatMap bv.cells ([(bv.mk ([]) 1),(bv.mk ([109]) 2)])) 89 2]:=by rw [← aa]; exact nQ
 have rR:Mk ak:=xz (by assumption) (by assumption)
 have rT:ak.aa.ag.ls.length≤1000∧ak.aa.au≤4∧ak.aB.ls.length+ak.aa.aj.ls.length≤8∧ak.aa.aG.ls.length≤0:=uz (by assumption) (by assumption)
 refine Mz rfl (Kz (vP n 0) (Kz (vI 0) (Az rfl (An rfl (EP (EP ?_))))))
 have gY:=nR.pk [0]
 refine EO (Mz rfl (Kz (.bool false) (Mz rfl (gw (vI 0) rfl (E5 rfl) (Gz (.bool false) rfl (fw (.bool false) (ES rfl rfl rfl) (Mz rfl (gw (.slice A0 l0.length c0) rfl (E5 rfl) (Gz (vJ l0.length) rfl (Gz (.bool (decide (((l0.length:Nat):Int) > 100))) rfl (fw (.bool (decide (((l0.length:Nat):Int) > 100))) (ES rfl rfl rfl) (nt ?_))))))))))))
 by_cases aG:((l0.length:Nat):Int) > 100
 refine jT (dT aG) (sr (Mz rfl (Mz rfl ?_)))
 rcases IW (P) with aH | aH
 refine FO (v:=vP n 0) rfl rfl aH rfl (E5 rfl) (Gz (.bool true) aH (fw (.bool true) (Fa rfl aH rfl) (An rfl (rt (tR (rs ?_))))))
 have nS:=gY.pk []
 obtain rfl:_=true:=hr.symm.trans (et (ai ah) (et (ai aj) (et (ip Z) (et (ai aD) (et (ai aa) (et (ip aG) (ip aH)))))))
 exact⟨rfl,nS⟩
 refine Sz aH (Sz aH (fw (.bool false) (ES rfl aH rfl) (An rfl (rt (tR (rs ?_))))))
 have nT:=gY.pk []
 obtain rfl:_=false:=hr.symm.trans (et (ai ah) (et (ai aj) (et (ip Z) (et (ai aD) (et (ai aa) (et (ip aG) (fU aH)))))))
 exact⟨rfl,nT⟩
 refine jF (dF aG) (sk (sr (An rfl (EP (sr (Mz rfl (Kz (vJ l0.length) (Mn rfl (bo ?_)))))))))
 have nU:=gY.pf []
 obtain⟨nW,dV⟩:=qo fun(R:Nat) (l:Nat) (b:aC) (w':World)=>Own w D w' [iF n b]∧l≤l0.length∧(b.aa.ag.ls.length≤1000∧b.aa.au≤4∧b.aB.ls.length+b.aa.aj.ls.length≤8∧b.aa.aG.ls.length≤l)∧Mk b∧gU P l0 0 ak=gU P (List.drop l l0) R b
 refine Wp.loop (fun i:Nat × Nat × aC=> [(2, .bool false),(6,vU i.1),(41,vJ i.2.1),(40,vJ l0.length),(39, .slice A0 l0.length c0),(4,vP n 0),(3, .bool P)]) nW (fun i=>l0.length - i.2.1) (0,0,ak) ⟨rfl,rfl,rfl,rfl,rfl,rfl,rfl,trivial⟩ (dV.2 ⟨nU,by omega,by first | omega | (dsimp only; omega) | exact uz (by assumption) (by assumption),by first | assumption | exact xz (by assumption) (by assumption),rfl⟩) ?_
 rintro ⟨R,l,b⟩ uT lu
 show Wp _ _ _ [(2, .bool false),(6,vU R),(41,vJ l),(40,vJ l0.length),(39, .slice A0 l0.length c0),(4,vP n 0),(3, .bool P)] _ _
 obtain⟨dG,rU,rV,rW,aM⟩:=dV.1 lu
 refine sr (Kz (.bool (decide (((l:Nat):Int) < ((l0.length:Nat):Int)))) (nt (EP ?_)))
 by_cases jN:((l:Nat):Int) < ((l0.length:Nat):Int)
 obtain⟨a,j⟩:=dK (ls:=d0) (i:=l) gz.len (by decide) (dG.ro lm) (by first | omega | (simp; done) | (simp; omega))
 have gZ:=eQ mP j
 have rX:=(K _ (List.mem_of_getElem? j)).2.1
 have rY:=(K _ (List.mem_of_getElem? j)).2.2.2.1
 have rZ:List.length (List.map af.abs a.ak.ah.ls)=a.ak.ah.ls.length:=List.length_map ..
 have r9:=(K _ (List.mem_of_getElem? j)).2.2.2.2.2.2
 have si:a.ak.aU≤18446744073709551615∧a.ak.aD.ls.length≤140737488351232∧a.ak.ah.ls.length≤140737488351232∧a.ak.ag.ls.length≤140737488351232:=by have q:=q9 _ (List.mem_of_getElem? gZ); exact⟨q.1,q.2.1,Nat.le_trans (Nat.le_of_eq (List.length_map ..).symm) q.2.2.1,q.2.2.2⟩
 have bg:=drop_at gZ
 refine jT (dT jN) (sk (EP (bo (sr (fw (.pointer (some ⟨ab A0,ao A0+l *25,none⟩)) (ET (Ex) rfl rfl ((dG.ro lm).addr (i:=l) (by omega)) (by omega)) (fw (.agg (gz.cells a).toArray) (EY rfl (Fb (cs:=(gz.cells a)) Tryz.isAgg44 Tryz.sizeOf44 ((dG.ro lm).elem gz.len j (by decide)))) ?_))))))
 refine dP (Ei 0 0 0 0 0 0 0 0 0 0 0 0 0 0 0 0 0 false ([]) ([]) none 0 0 none 0 0 none 0 0 false ([])) 44 dG ?_
 intro C uU nX
 refine dO (gz.cells a) 0 nX Tryz.sizeOf44 ?_
 intro uV nY
 refine ns (Kz (.agg #[.slice none 0 0, .bool false]) ?_)
 refine dP [.slice none 0 0, .bool false] 47 nY ?_
 intro F uW nZ
 refine dO [.slice none 0 0, .bool false] 0 nZ Tryz.sizeOf47 ?_
 intro jO eG
 refine nt (EP (sr (Kz (vP C 0) (Lz (vI a.kR) eG 1 Tryz.isAgg3 (nt ?_)))))
 obtain⟨og,ae⟩:=Du fun(z:Option Addr) (O:Nat) (ag:List bA) (h:List bP) (dH:Bool) (p:aC) (w':World)=>Own w D w' [blk F [.slice z h.length O, .bool dH] 47,blk C (gz.cells a) 44,iF n p,row z h.length O (List.flatMap bA.cells ag) 42 21,sepL (List.flatMap bA.own ag)]∧List.map bA.abs ag=h∧0≤h.length∧h.length≤9223372036854775807∧(p.aa.ag.ls.length≤1000∧p.aa.au≤4∧p.aB.ls.length+p.aa.aj.ls.length≤8∧p.aa.aG.ls.length≤b.aa.aG.ls.length+1)∧Mk p∧(if a.kR=0 then bnd (iI b) fun X=>if a.sW=true then bnd (if((a.ak.bf:Nat):Int)=0 then a.ak.bf else Int.toNat (IntKind.u64.wrap (((eT X.ay 32:Nat):Int)+((a.ak.bf % 16:Nat):Int)))) fun sJrbbtbbfLsJjtbtJ=>bnd (if a.ak.aI=1 then X.ay else a.ak.ay) fun sJrbbtbbfLsJjtbtJaJ=>if a.ak.aI=9 then if((a.ak.dG:Nat):Int)=0 then bnd (dh b (bP.mk a.ak.aI a.ak.aJ a.ak.eU a.ak.aQ a.ak.dz a.ak.dL a.ak.aU sJrbbtbbfLsJjtbtJaJ sJrbbtbbfLsJjtbtJ a.ak.cz X.aY a.ak.aH a.ak.dG a.ak.bT a.ak.xN a.ak.dI a.ak.bO (Ll.mk a.ak.aD.ls) (Ll.mk (List.map af.abs a.ak.ah.ls)) (Ll.mk a.ak.ag.ls))) fun bi=>(bi.1.dR.ls,bi.2.2) else bnd (dh b (bP.mk a.ak.aI a.ak.aJ a.ak.eU a.ak.aQ a.ak.dz a.ak.dL a.ak.aU sJrbbtbbfLsJjtbtJaJ sJrbbtbbfLsJjtbtJ a.ak.cz X.aY a.ak.aH 0 a.ak.bT a.ak.xN a.ak.dI a.ak.bO (Ll.mk a.ak.aD.ls) (Ll.mk (List.map af.abs a.ak.ah.ls)) (Ll.mk a.ak.ag.ls))) fun bq=>(bq.1.dR.ls,bq.2.2) else if((a.ak.dG:Nat):Int)=0 then bnd (dh b (bP.mk a.ak.aI a.ak.aJ a.ak.eU a.ak.aQ a.ak.dz a.ak.dL a.ak.aU sJrbbtbbfLsJjtbtJaJ sJrbbtbbfLsJjtbtJ a.ak.cz a.ak.aY a.ak.aH a.ak.dG a.ak.bT a.ak.xN a.ak.dI a.ak.bO (Ll.mk a.ak.aD.ls) (Ll.mk (List.map af.abs a.ak.ah.ls)) (Ll.mk a.ak.ag.ls))) fun bu=>(bu.1.dR.ls,bu.2.2) else bnd (dh b (bP.mk a.ak.aI a.ak.aJ a.ak.eU a.ak.aQ a.ak.dz a.ak.dL a.ak.aU sJrbbtbbfLsJjtbtJaJ sJrbbtbbfLsJjtbtJ a.ak.cz a.ak.aY a.ak.aH 0 a.ak.bT a.ak.xN a.ak.dI a.ak.bO (Ll.mk a.ak.aD.ls) (Ll.mk (List.map af.abs a.ak.ah.ls)) (Ll.mk a.ak.ag.ls))) fun bE=>(bE.1.dR.ls,bE.2.2) else bnd (dh b (bP.mk a.ak.aI a.ak.aJ a.ak.eU a.ak.aQ a.ak.dz a.ak.dL a.ak.aU a.ak.ay a.ak.bf a.ak.cz a.ak.aY a.ak.aH a.ak.dG a.ak.bT a.ak.xN a.ak.dI a.ak.bO (Ll.mk a.ak.aD.ls) (Ll.mk (List.map af.abs a.ak.ah.ls)) (Ll.mk a.ak.ag.ls))) fun bF=>(bF.1.dR.ls,bF.2.2) else if a.kR=1 then bnd (jg b) fun bG=>(bG.1.dR.ls,bG.2) else([],b))=(h,p)
 refine FQ (fun i:(Option Addr) × Nat × (List bA) × (List bP) × Bool × aC=> [(48, .bool (decide (a.kR=0))),(49, .bool (decide (a.kR=0))),(47,vI a.kR),(46,vP C 0),(9,vP F 0),(45, .agg #[.slice none 0 0, .bool false]),(8,vP C 0),(44, .agg (gz.cells a).toArray),(43, .pointer (some ⟨ab A0,ao A0+l *25,none⟩)),(42, .bool (decide (((l:Nat):Int) < ((l0.length:Nat):Int)))),(2, .bool false),(6,vU R),(41,vJ l),(40,vJ l0.length),(39, .slice A0 l0.length c0),(4,vP n 0),(3, .bool P)]) og ?_ ?_
 refine bo (sr (Kz (.bool (decide (a.kR=0))) (An rfl ?_)))
 by_cases aI:a.kR=0
 refine jT (dT aI) ?_
 have oh:=eG.pf [1]
 refine uE [] (bS.block (E9 (bS.block (E9 (E9 (bS.block (E9 Fp))))))) oh ?_
 intro uX om
 refine qv 0 rfl rfl (qt (v:= .agg (gz.cells a).toArray) 1 rfl (fun _ ⟨_,H9⟩=>EY rfl (Fb (cs:=(gz.cells a)) Tryz.isAgg44 Tryz.sizeOf44 ((H9.cls (i:=0) rfl).lit (k:=0) (m:=25) rfl))) (qv 2 rfl rfl (qv 4 rfl rfl ?_)))
 have oo:=om.pf [2]
 obtain⟨g,aN⟩:∃ q,iI b=q:=⟨_,rfl⟩
 obtain⟨uY,lv,sj,lw,sw⟩:=Fu oo
 refine qd 3 rfl (Fe Tryz.call11 rfl (pg _ _ n b g lv (by first | omega | (dsimp only; omega) | (simp only [List.length_nil]; omega) | decide) (by assumption) aN) ?_)
 rintro _ uZ ⟨dI,dJ,dL,dM,dN,dQ,eH,eP,rfl,lC,lD,lF⟩
 have eU:=lw _ _ lC
 have sD:=aA lD
 have sF:=aA lF
 have sG:=eU.rowC (i:=0) rfl
 have sH:=eU.rowC (i:=1) rfl
 have sI:=eU.rowC (i:=3) rfl
 have jP:=eU.pf [6]
 refine⟨.inr ⟨_,jP⟩, ?_⟩
 refine GX.do 5 rfl (by kernel_rfl) (Fe Tryz.call12 rfl ?_ (fun _ _ k=>k))
 refine cb Tryz.func12 ?_
 refine sr (An rfl (EP (EP ?_)))
 have oq:=jP.pf [6]
 obtain⟨eX,eY,eZ,fe,fu,fA,fB,fC,fD,fE,fF,fG,fH,fI,fJ,fK,fM,fO,fP,fQ,fT,fV,fZ,gm,gp,gq,bH,bI,bJ,bK,bL,bM,bO,bQ,sJ,jQ⟩:=jK oq
 refine EO (Mz rfl (Kz (vP n 0) (Kz (vP n 34) (Lz (.pointer none) jQ 0 Tryz.isAgg84 (Kz (.bool true) (nt (jt (sr (An rfl (rt (tR (rs ?_))))))))))))
 have jR:=jQ.pf [18]
 refine⟨.inr ⟨_,jR⟩, ?_⟩
 refine GX.do 6 rfl (by kernel_rfl) (Fe Tryz.call10 rfl ?_ (fun _ _ k=>k))
 refine cb Tryz.func10 ?_
 refine sr ?_
 refine dP (gz.cells a) 44 jR ?_
 intro jS u6 ou
 refine dP [vI g.au,vU g.ay,vU g.aY,vU g.aH, .slice dI g.ag.ls.length dJ, .slice dL g.aj.ls.length dM, .slice dN g.aG.ls.length dQ] 33 ou ?_
 intro aJ u7 ow
 refine dP (gN 0 0 0 0 0 0 0 0 0 0 0 0 0 0 0 false ([]) ([]) none 0 0 none 0 0 none 0 0) 42 ow ?_
 intro cO ve jU
 refine ns (Kz (vP jS 2) (La (bA.cells a.ak) jU 2 Tryz.isAgg42 Tryz.sizeOf42 ?_))
 refine dP (gN 0 0 0 0 0 0 0 0 0 0 0 0 0 0 0 false ([]) ([]) none 0 0 none 0 0 none 0 0) 42 jU ?_
 intro M vg oz
 refine dO (bA.cells a.ak) 0 oz Tryz.sizeOf42 ?_
 intro vk ib
 refine nt (EP (sr (Kz (vP jS 23) (Lz (.bool a.sW) ib 3 Tryz.isAgg4 (Kz (.bool (!a.sW)) (nt ?_))))))
 rcases IW (a.sW) with aQ | aQ
 refine jF (cn aQ) (sk (EP (EP ?_)))
 have dR:=ib.px [] [3] []
 refine EO (Kz (vP M 8) (Lz (vU a.ak.bf) dR 0 Tryz.isAgg28 (fw (.bool (decide (¬ (((a.ak.bf:Nat):Int)=0)))) (Fq (e:= !(decide (((a.ak.bf:Nat):Int)=0))) yk decide_not.symm) (nt ?_))))
 obtain⟨oC,dX⟩:=l8 fun(B:Nat) (w':World)=>Own w D w' [blk M [vI a.ak.aI,vI a.ak.aJ,vI a.ak.eU,vI a.ak.aQ,vI a.ak.dz,vI a.ak.dL,vU a.ak.aU,vU a.ak.ay,vU B,vU a.ak.cz,vU a.ak.aY,vU a.ak.aH,vU a.ak.dG,vU a.ak.bT,vU a.ak.xN, .bool a.ak.dI, .string ⟨List.toArray a.ak.bO.bJ⟩, .string ⟨List.toArray a.ak.bO.bW⟩, .slice a.ak.aD.A a.ak.aD.ls.length a.ak.aD.c, .slice a.ak.ah.A a.ak.ah.ls.length a.ak.ah.c, .slice a.ak.ag.A a.ak.ag.ls.length a.ak.ag.c] 42,blk cO (gN 0 0 0 0 0 0 0 0 0 0 0 0 0 0 0 false ([]) ([]) none 0 0 none 0 0 none 0 0) 42,blk aJ [vI g.au,vU g.ay,vU g.aY,vU g.aH, .slice dI g.ag.ls.length dJ, .slice dL g.aj.ls.length dM, .slice dN g.aG.ls.length dQ] 33,blk C (gz.cells a) 44,blk n [vI b.aa.au,vU b.aa.ay,vU b.aa.aY,vU b.aa.aH, .slice eX b.aa.ag.ls.length eY, .slice eZ b.aa.aj.ls.length fe, .slice fA b.aa.aG.ls.length fB,vU b.bH, .slice fD b.aB.ls.length fE, .bool b.aR.aS,vU b.aR.aK,vI b.aR.bi, .slice fG b.aR.ae.ls.length fH, .bool b.aN.aS,vU b.aN.aK,vI b.aN.bi, .slice fJ b.aN.ae.ls.length fK, .bool b.aM.aS,vU b.aM.aK,vI b.aM.bi, .slice fO b.aM.ae.ls.length fP, .bool b.aO.aS,vU b.aO.aK,vI b.aO.bi, .slice fT b.aO.ae.ls.length fV, .bool b.aP.aS,vU b.aP.aK,vI b.aP.bi, .slice gm b.aP.ae.ls.length gp,vU b.di,vU b.cB,vU b.cZ,vU b.cK,vU b.cO, .pointer none] 86,blk F [.slice none 0 0, .bool false] 47,row eX b.aa.ag.ls.length eY (List.flatMap bv.cells b.aa.ag.ls) 89 2,row eZ b.aa.aj.ls.length fe (List.flatMap az.cells fu) 60 5,sepL (List.flatMap az.own fu),row fA b.aa.aG.ls.length fB (List.flatMap aX.cells fC) 56 4,sepL (List.flatMap aX.own fC),row fD b.aB.ls.length fE (List.flatMap bB.cells fF) 107 9,sepL (List.flatMap bB.own fF),row fG b.aR.ae.ls.length fH (List.flatMap af.cells fI) 149 3,sepL (List.flatMap af.own fI),row fJ b.aN.ae.ls.length fK (List.flatMap af.cells fM) 149 3,sepL (List.flatMap af.own fM),row fO b.aM.ae.ls.length fP (List.flatMap af.cells fQ) 149 3,sepL (List.flatMap af.own fQ),row fT b.aO.ae.ls.length fV (List.flatMap af.cells fZ) 149 3,sepL (List.flatMap af.own fZ),row gm b.aP.ae.ls.length gp (List.flatMap af.cells gq) 149 3,sepL (List.flatMap af.own gq),row dI g.ag.ls.length dJ (List.flatMap bv.cells g.ag.ls) 89 2,row dL g.aj.ls.length dM (List.flatMap az.cells eH) 60 5,sepL (List.flatMap az.own eH),row dN g.aG.ls.length dQ (List.flatMap aX.cells eP) 56 4,sepL (List.flatMap aX.own eP)]∧(if((a.ak.bf:Nat):Int)=0 then a.ak.bf else Int.toNat (IntKind.u64.wrap (((eT g.ay 32:Nat):Int)+((a.ak.bf % 16:Nat):Int))))=B
 refine FQ (fun i:Nat=> [(7,vP M 0),(6,vP cO 0),(4,vP aJ 0),(2, .int .u64 0)]) oC ?_ ?_
 by_cases gu:((a.ak.bf:Nat):Int)=0
 refine jF (dF (IV gu)) (Fs ?_)
 have oF:=dR.pf [0,1,2,3,4,27]
 exact FD a.ak.bf ⟨rfl,rfl,rfl,rfl,trivial⟩ (dX.2 ⟨oF,ip gu⟩)
 refine jT (dT gu) (EO (Kz (vP aJ 1) (Lz (vU g.ay) dR 2 Tryz.isAgg28 ?_)))
 have sK:eT g.ay 32≤18446744073709551615:=oD _ _
 refine fw (vU (eT g.ay 32)) (EQ (Gm (m:=32) rfl rfl) (fq _)) (Kz (vP M 8) (Lz (vU a.ak.bf) dR 0 Tryz.isAgg28 (fw (vU (a.ak.bf % 16)) (EQ (e:=Int.tmod ((a.ak.bf:Nat):Int) 16) yk (Eg _ _)) (fw (.int .u64 ((Int.toNat (IntKind.u64.wrap (((eT g.ay 32:Nat):Int)+((a.ak.bf % 16:Nat):Int))):Nat):Int)) (EQ (e:=IntKind.u64.wrap (((eT g.ay 32:Nat):Int)+((a.ak.bf % 16:Nat):Int))) yk (fq _)) (Kz (vP M 8) ?_)))))
 refine dO [.int .u64 ((Int.toNat (IntKind.u64.wrap (((eT g.ay 32:Nat):Int)+((a.ak.bf % 16:Nat):Int))):Nat):Int)] 8 dR Tryz.sizeOf28 ?_
 intro vo oG
 refine WL.nil ?_
 have oH:=oG.pf [0,1,2,3,4,27]
 exact FD (Int.toNat (IntKind.u64.wrap (((eT g.ay 32:Nat):Int)+((a.ak.bf % 16:Nat):Int)))) ⟨rfl,rfl,rfl,rfl,trivial⟩ (dX.2 ⟨oH,iN gu⟩)
 rintro B vv lG
 show Wp _ _ _ [(7,vP M 0),(6,vP cO 0),(4,vP aJ 0),(2, .int .u64 0)] _ _
 obtain⟨gy,dn⟩:=dX.1 lG
 refine EP (sr (Kz (vP M 0) (Lz (vI a.ak.aI) gy 0 Tryz.isAgg3 (Kz (.bool (decide (a.ak.aI=1))) (nt ?_)))))
 obtain⟨oI,dZ⟩:=l8 fun(E:Nat) (w':World)=>Own w D w' [blk M [vI a.ak.aI,vI a.ak.aJ,vI a.ak.eU,vI a.ak.aQ,vI a.ak.dz,vI a.ak.dL,vU a.ak.aU,vU E,vU B,vU a.ak.cz,vU a.ak.aY,vU a.ak.aH,vU a.ak.dG,vU a.ak.bT,vU a.ak.xN, .bool a.ak.dI, .string ⟨List.toArray a.ak.bO.bJ⟩, .string ⟨List.toArray a.ak.bO.bW⟩, .slice a.ak.aD.A a.ak.aD.ls.length a.ak.aD.c, .slice a.ak.ah.A a.ak.ah.ls.length a.ak.ah.c, .slice a.ak.ag.A a.ak.ag.ls.length a.ak.ag.c] 42,blk cO (gN 0 0 0 0 0 0 0 0 0 0 0 0 0 0 0 false ([]) ([]) none 0 0 none 0 0 none 0 0) 42,blk aJ [vI g.au,vU g.ay,vU g.aY,vU g.aH, .slice dI g.ag.ls.length dJ, .slice dL g.aj.ls.length dM, .slice dN g.aG.ls.length dQ] 33,blk C (gz.cells a) 44,blk n [vI b.aa.au,vU b.aa.ay,vU b.aa.aY,vU b.aa.aH, .slice eX b.aa.ag.ls.length eY, .slice eZ b.aa.aj.ls.length fe, .slice fA b.aa.aG.ls.length fB,vU b.bH, .slice fD b.aB.ls.length fE, .bool b.aR.aS,vU b.aR.aK,vI b.aR.bi, .slice fG b.aR.ae.ls.length fH, .bool b.aN.aS,vU b.aN.aK,vI b.aN.bi, .slice fJ b.aN.ae.ls.length fK, .bool b.aM.aS,vU b.aM.aK,vI b.aM.bi, .slice fO b.aM.ae.ls.length fP, .bool b.aO.aS,vU b.aO.aK,vI b.aO.bi, .slice fT b.aO.ae.ls.length fV, .bool b.aP.aS,vU b.aP.aK,vI b.aP.bi, .slice gm b.aP.ae.ls.length gp,vU b.di,vU b.cB,vU b.cZ,vU b.cK,vU b.cO, .pointer none] 86,blk F [.slice none 0 0, .bool false] 47,row eX b.aa.ag.ls.length eY (List.flatMap bv.cells b.aa.ag.ls) 89 2,row eZ b.aa.aj.ls.length fe (List.flatMap az.cells fu) 60 5,sepL (List.flatMap az.own fu),row fA b.aa.aG.ls.length fB (List.flatMap aX.cells fC) 56 4,sepL (List.flatMap aX.own fC),row fD b.aB.ls.length fE (List.flatMap bB.cells fF) 107 9,sepL (List.flatMap bB.own fF),row fG b.aR.ae.ls.length fH (List.flatMap af.cells fI) 149 3,sepL (List.flatMap af.own fI),row fJ b.aN.ae.ls.length fK (List.flatMap af.cells fM) 149 3,sepL (List.flatMap af.own fM),row fO b.aM.ae.ls.length fP (List.flatMap af.cells fQ) 149 3,sepL (List.flatMap af.own fQ),row fT b.aO.ae.ls.length fV (List.flatMap af.cells fZ) 149 3,sepL (List.flatMap af.own fZ),row gm b.aP.ae.ls.length gp (List.flatMap af.cells gq) 149 3,sepL (List.flatMap af.own gq),row dI g.ag.ls.length dJ (List.flatMap bv.cells g.ag.ls) 89 2,row dL g.aj.ls.length dM (List.flatMap az.cells eH) 60 5,sepL (List.flatMap az.own eH),row dN g.aG.ls.length dQ (List.flatMap aX.cells eP) 56 4,sepL (List.flatMap aX.own eP)]∧(if a.ak.aI=1 then g.ay else a.ak.ay)=E
 refine FQ (fun i:Nat=> [(7,vP M 0),(6,vP cO 0),(4,vP aJ 0),(2, .int .u64 0)]) oI ?_ ?_
 by_cases gB:a.ak.aI=1
 refine jT (dT gB) (EO (Kz (vP aJ 1) (Lz (vU g.ay) gy 2 Tryz.isAgg28 (Kz (vP M 7) ?_))))
 refine dO [vU g.ay] 7 gy Tryz.sizeOf28 ?_
 intro vw oJ
 refine WL.nil ?_
 have oL:=oJ.pf []
 exact FD g.ay ⟨rfl,rfl,rfl,rfl,trivial⟩ (dZ.2 ⟨oL,ip gB⟩)
 refine jF (dF gB) (Fs ?_)
 have oM:=gy.pf []
 exact FD a.ak.ay ⟨rfl,rfl,rfl,rfl,trivial⟩ (dZ.2 ⟨oM,iN gB⟩)
 rintro E vz lH
 show Wp _ _ _ [(7,vP M 0),(6,vP cO 0),(4,vP aJ 0),(2, .int .u64 0)] _ _
 obtain⟨gD,dw⟩:=dZ.1 lH
 refine EP (sr (Kz (vP M 0) (Lz (vI a.ak.aI) gD 0 Tryz.isAgg3 (Kz (.bool (decide (a.ak.aI=9))) (nt ?_)))))
 by_cases cZ:a.ak.aI=9
 refine jT (dT cZ) (EO (Kz (vP aJ 2) (Lz (vU g.aY) gD 2 Tryz.isAgg28 (Kz (vP M 10) ?_))))
 refine dO [vU g.aY] 10 gD Tryz.sizeOf28 ?_
 intro vB oO
 refine nt (EP (EP ?_))
 have gF:=oO.px [] [2] []
 refine EO (Kz (vP M 12) (Lz (vU a.ak.dG) gF 0 Tryz.isAgg28 (fw (.bool (decide (¬ (((a.ak.dG:Nat):Int)=0)))) (Fq (e:= !(decide (((a.ak.dG:Nat):Int)=0))) yk decide_not.symm) (nt ?_))))
 by_cases gG:((a.ak.dG:Nat):Int)=0
 refine jF (dF (IV gG)) (sk (sr (La ([vI a.ak.aI,vI a.ak.aJ,vI a.ak.eU,vI a.ak.aQ,vI a.ak.dz,vI a.ak.dL,vU a.ak.aU,vU E,vU B,vU a.ak.cz,vU g.aY,vU a.ak.aH,vU a.ak.dG,vU a.ak.bT,vU a.ak.xN, .bool a.ak.dI, .string ⟨List.toArray a.ak.bO.bJ⟩, .string ⟨List.toArray a.ak.bO.bW⟩, .slice a.ak.aD.A a.ak.aD.ls.length a.ak.aD.c, .slice a.ak.ah.A a.ak.ah.ls.length a.ak.ah.c, .slice a.ak.ag.A a.ak.ag.ls.length a.ak.ag.c]) gF 0 Tryz.isAgg42 Tryz.sizeOf42 ?_)))
 have oP:=gF.pf [1]
 refine dO [vI a.ak.aI,vI a.ak.aJ,vI a.ak.eU,vI a.ak.aQ,vI a.ak.dz,vI a.ak.dL,vU a.ak.aU,vU E,vU B,vU a.ak.cz,vU g.aY,vU a.ak.aH,vU a.ak.dG,vU a.ak.bT,vU a.ak.xN, .bool a.ak.dI, .string ⟨List.toArray a.ak.bO.bJ⟩, .string ⟨List.toArray a.ak.bO.bW⟩, .slice a.ak.aD.A a.ak.aD.ls.length a.ak.aD.c, .slice a.ak.ah.A a.ak.ah.ls.length a.ak.ah.c, .slice a.ak.ag.A a.ak.ag.ls.length a.ak.ag.c] 0 oP Tryz.sizeOf42 ?_
 intro vC jV
 refine nt (rt (Fin.res (lX rfl rfl (Fb (cs:= [vI a.ak.aI,vI a.ak.aJ,vI a.ak.eU,vI a.ak.aQ,vI a.ak.dz,vI a.ak.dL,vU a.ak.aU,vU E,vU B,vU a.ak.cz,vU g.aY,vU a.ak.aH,vU a.ak.dG,vU a.ak.bT,vU a.ak.xN, .bool a.ak.dI, .string ⟨List.toArray a.ak.bO.bJ⟩, .string ⟨List.toArray a.ak.bO.bW⟩, .slice a.ak.aD.A a.ak.aD.ls.length a.ak.aD.c, .slice a.ak.ah.A a.ak.ah.ls.length a.ak.ah.c, .slice a.ak.ag.A a.ak.ag.ls.length a.ak.ag.c]) Tryz.isAgg42 Tryz.sizeOf42 ((jV.cls (i:=0) rfl).lit (k:=0) (m:=21) rfl))) ?_))
 have jW:=jV.pf [2]
 refine⟨.inr ⟨_,jW⟩, ?_⟩
 have oQ:=jW.pb [0,1,2,4,22,23,24,25,26]
 have oU:=eO bH bI bJ bK bL bM bO bQ oQ
 obtain⟨⟨bT,jX,aR⟩,ic⟩:∃ q:jm × Int × aC,dh b (bP.mk a.ak.aI a.ak.aJ a.ak.eU a.ak.aQ a.ak.dz a.ak.dL a.ak.aU E B a.ak.cz g.aY a.ak.aH a.ak.dG a.ak.bT a.ak.xN a.ak.dI a.ak.bO (Ll.mk a.ak.aD.ls) (Ll.mk (List.map af.abs a.ak.ah.ls)) (Ll.mk a.ak.ag.ls))=q:=⟨_,rfl⟩
 obtain⟨vD,lI,dx,lJ,sM⟩:=Fu oU
 refine qd 7 rfl (Fe Tryz.call13 rfl (gM _ _ n b (bP.mk a.ak.aI a.ak.aJ a.ak.eU a.ak.aQ a.ak.dz a.ak.dL a.ak.aU E B a.ak.cz g.aY a.ak.aH a.ak.dG a.ak.bT a.ak.xN a.ak.dI a.ak.bO (Ll.mk a.ak.aD.ls) (Ll.mk (List.map af.abs a.ak.ah.ls)) (Ll.mk a.ak.ag.ls)) a.ak.aD.A a.ak.aD.ls.length a.ak.aD.c a.ak.ah.A a.ak.ah.ls.length a.ak.ah.c a.ak.ah.ls a.ak.ag.A a.ak.ag.ls.length a.ak.ag.c bT jX aR lI rfl (dx _ (K _ (List.mem_of_getElem? j)).1) (show a.ak.aD.ls.length≤a.ak.aD.c∧a.ak.aD.ls.length≤9223372036854775807 from by omega) (rfl:List.map af.abs a.ak.ah.ls=List.map af.abs a.ak.ah.ls) (by first | rfl | omega | (simp only [List.length_append,List.length_cons,List.length_nil,List.length_take,List.length_drop,List.length_set,List.length_replicate,List.length_map] <;> omega)) (fun w9 Y=>mZ (aA (rfl:List.map af.abs a.ak.ah.ls=List.map af.abs a.ak.ah.ls)) ((dx _ (K _ (List.mem_of_getElem? j)).2.2.1) w9 Y)) (show List.length (List.map af.abs a.ak.ah.ls)≤a.ak.ah.c∧List.length (List.map af.abs a.ak.ah.ls)≤9223372036854775807 from by omega) (fun x9 Y=>⟨dx _ ((K _ (List.mem_of_getElem? j)).2.2.2.2.1 x9 Y).1,((K _ (List.mem_of_getElem? j)).2.2.2.2.1 x9 Y).2⟩) rfl (dx _ (K _ (List.mem_of_getElem? j)).2.2.2.2.2.1) (show a.ak.ag.ls.length≤a.ak.ag.c∧a.ak.ag.ls.length≤9223372036854775807 from by omega) (by first | omega | (dsimp only; omega) | (simp only [List.length_nil]; omega) | decide | (simp only [jh,List.length_cons,List.length_nil,List.length_replicate]; omega)) (by assumption) ic) ?_)
 rintro _ vE ⟨ig,ik,oV,rfl,lK,il,iq,iw⟩
 have jY:=lJ _ _ lK
 have sN:=aA il
 have sP:=jY.rowC (i:=0) rfl
 replace iq:aR.aa.ag.ls.length=b.aa.ag.ls.length∧aR.aa.au=b.aa.au∧aR.aB.ls.length+aR.aa.aj.ls.length≤8∧aR.aa.aG.ls.length≤b.aa.aG.ls.length+1:=iq
 replace iw:Mk aR:=iw
 have jZ:=jY.pf [3]
 refine⟨.inr ⟨_,jZ⟩, ?_⟩
 refine qv 8 rfl rfl (qk (.agg #[.slice ig bT.dR.ls.length ik, .bool bT.gB]) 9 rfl (qk (vI jX) 10 rfl ?_))
 have oW:=jZ.pf [6]
 refine qe 11 rfl (Do.store (vs:= [.slice ig bT.dR.ls.length ik, .bool bT.gB]) (o:=0) oW rfl rfl Tryz.sizeOf47 rfl rfl rfl rfl ?_)
 intro vF oZ
 have j3:=oZ.pf [1]
 refine⟨.inr ⟨_,j3⟩, ?_⟩
 refine qn (bN ?_)
 have o5:=j3.pk [1,0,4,2,3]
 exact FD (ig,ik,oV,bT.dR.ls,bT.gB,aR) ⟨rfl,rfl,rfl,rfl,rfl,rfl,rfl,rfl,rfl,rfl,rfl,rfl,rfl,rfl,rfl,rfl,rfl,trivial⟩ (ae.2 ⟨o5,by exact il,by omega,by omega,by omega,by assumption,et (ip aI) (et (ai aN) (et (ip aQ) (et (ai dn) (et (ai dw) (et (ip cZ) (et (ip gG) (ai ic)))))))⟩)
 refine jT (dT gG) (EO (Mz rfl (Kz (vP M 12) ?_)))
 refine dO [.int .u64 0] 12 gF Tryz.sizeOf28 ?_
 intro vG j4
 refine ns (La ([vI a.ak.aI,vI a.ak.aJ,vI a.ak.eU,vI a.ak.aQ,vI a.ak.dz,vI a.ak.dL,vU a.ak.aU,vU E,vU B,vU a.ak.cz,vU g.aY,vU a.ak.aH, .int .u64 0,vU a.ak.bT,vU a.ak.xN, .bool a.ak.dI, .string ⟨List.toArray a.ak.bO.bJ⟩, .string ⟨List.toArray a.ak.bO.bW⟩, .slice a.ak.aD.A a.ak.aD.ls.length a.ak.aD.c, .slice a.ak.ah.A a.ak.ah.ls.length a.ak.ah.c, .slice a.ak.ag.A a.ak.ag.ls.length a.ak.ag.c]) j4 0 Tryz.isAgg42 Tryz.sizeOf42 ?_)
 have o6:=j4.pf [1]
 refine dO [vI a.ak.aI,vI a.ak.aJ,vI a.ak.eU,vI a.ak.aQ,vI a.ak.dz,vI a.ak.dL,vU a.ak.aU,vU E,vU B,vU a.ak.cz,vU g.aY,vU a.ak.aH, .int .u64 0,vU a.ak.bT,vU a.ak.xN, .bool a.ak.dI, .string ⟨List.toArray a.ak.bO.bJ⟩, .string ⟨List.toArray a.ak.bO.bW⟩, .slice a.ak.aD.A a.ak.aD.ls.length a.ak.aD.c, .slice a.ak.ah.A a.ak.ah.ls.length a.ak.ah.c, .slice a.ak.ag.A a.ak.ag.ls.length a.ak.ag.c] 0 o6 Tryz.sizeOf42 ?_
 intro vH j5
 refine nt (rt (Fin.res (lX rfl rfl (Fb (cs:= [vI a.ak.aI,vI a.ak.aJ,vI a.ak.eU,vI a.ak.aQ,vI a.ak.dz,vI a.ak.dL,vU a.ak.aU,vU E,vU B,vU a.ak.cz,vU g.aY,vU a.ak.aH, .int .u64 0,vU a.ak.bT,vU a.ak.xN, .bool a.ak.dI, .string ⟨List.toArray a.ak.bO.bJ⟩, .string ⟨List.toArray a.ak.bO.bW⟩, .slice a.ak.aD.A a.ak.aD.ls.length a.ak.aD.c, .slice a.ak.ah.A a.ak.ah.ls.length a.ak.ah.c, .slice a.ak.ag.A a.ak.ag.ls.length a.ak.ag.c]) Tryz.isAgg42 Tryz.sizeOf42 ((j5.cls (i:=0) rfl).lit (k:=0) (m:=21) rfl))) ?_))
 have j6:=j5.pf [2]
 refine⟨.inr ⟨_,j6⟩, ?_⟩
 have o7:=j6.pb [0,1,2,4,22,23,24,25,26]
 have o8:=eO bH bI bJ bK bL bM bO bQ o7
 obtain⟨⟨bU,kg,aS⟩,iy⟩:∃ q:jm × Int × aC,dh b (bP.mk a.ak.aI a.ak.aJ a.ak.eU a.ak.aQ a.ak.dz a.ak.dL a.ak.aU E B a.ak.cz g.aY a.ak.aH 0 a.ak.bT a.ak.xN a.ak.dI a.ak.bO (Ll.mk a.ak.aD.ls) (Ll.mk (List.map af.abs a.ak.ah.ls)) (Ll.mk a.ak.ag.ls))=q:=⟨_,rfl⟩
 obtain⟨vK,lL,dz,lM,sQ⟩:=Fu o8
 refine qd 7 rfl (Fe Tryz.call13 rfl (gM _ _ n b (bP.mk a.ak.aI a.ak.aJ a.ak.eU a.ak.aQ a.ak.dz a.ak.dL a.ak.aU E B a.ak.cz g.aY a.ak.aH 0 a.ak.bT a.ak.xN a.ak.dI a.ak.bO (Ll.mk a.ak.aD.ls) (Ll.mk (List.map af.abs a.ak.ah.ls)) (Ll.mk a.ak.ag.ls)) a.ak.aD.A a.ak.aD.ls.length a.ak.aD.c a.ak.ah.A a.ak.ah.ls.length a.ak.ah.c a.ak.ah.ls a.ak.ag.A a.ak.ag.ls.length a.ak.ag.c bU kg aS lL rfl (dz _ (K _ (List.mem_of_getElem? j)).1) (show a.ak.aD.ls.length≤a.ak.aD.c∧a.ak.aD.ls.length≤9223372036854775807 from by omega) (rfl:List.map af.abs a.ak.ah.ls=List.map af.abs a.ak.ah.ls) (by first | rfl | omega | (simp only [List.length_append,List.length_cons,List.length_nil,List.length_take,List.length_drop,List.length_set,List.length_replicate,List.length_map] <;> omega)) (fun w9 Y=>mZ (aA (rfl:List.map af.abs a.ak.ah.ls=List.map af.abs a.ak.ah.ls)) ((dz _ (K _ (List.mem_of_getElem? j)).2.2.1) w9 Y)) (show List.length (List.map af.abs a.ak.ah.ls)≤a.ak.ah.c∧List.length (List.map af.abs a.ak.ah.ls)≤9223372036854775807 from by omega) (fun x9 Y=>⟨dz _ ((K _ (List.mem_of_getElem? j)).2.2.2.2.1 x9 Y).1,((K _ (List.mem_of_getElem? j)).2.2.2.2.1 x9 Y).2⟩) rfl (dz _ (K _ (List.mem_of_getElem? j)).2.2.2.2.2.1) (show a.ak.ag.ls.length≤a.ak.ag.c∧a.ak.ag.ls.length≤9223372036854775807 from by omega) (by first | omega | (dsimp only; omega) | (simp only [List.length_nil]; omega) | decide | (simp only [jh,List.length_cons,List.length_nil,List.length_replicate]; omega)) (by assumption) iy) ?_)
 rintro _ vL ⟨iA,iB,o9,rfl,lN,iC,iD,iE⟩
 have ko:=lM _ _ lN
 have sS:=aA iC
 have sU:=ko.rowC (i:=0) rfl
 replace iD:aS.aa.ag.ls.length=b.aa.ag.ls.length∧aS.aa.au=b.aa.au∧aS.aB.ls.length+aS.aa.aj.ls.length≤8∧aS.aa.aG.ls.length≤b.aa.aG.ls.length+1:=iD
 replace iE:Mk aS:=iE
 have kr:=ko.pf [3]
 refine⟨.inr ⟨_,kr⟩, ?_⟩
 refine qv 8 rfl rfl (qk (.agg #[.slice iA bU.dR.ls.length iB, .bool bU.gB]) 9 rfl (qk (vI kg) 10 rfl ?_))
 have pq:=kr.pf [6]
 refine qe 11 rfl (Do.store (vs:= [.slice iA bU.dR.ls.length iB, .bool bU.gB]) (o:=0) pq rfl rfl Tryz.sizeOf47 rfl rfl rfl rfl ?_)
 intro vM pu
 have ku:=pu.pf [1]
 refine⟨.inr ⟨_,ku⟩, ?_⟩
 refine qn (bN ?_)
 have pz:=ku.pk [1,0,4,2,3]
 exact FD (iA,iB,o9,bU.dR.ls,bU.gB,aS) ⟨rfl,rfl,rfl,rfl,rfl,rfl,rfl,rfl,rfl,rfl,rfl,rfl,rfl,rfl,rfl,rfl,rfl,trivial⟩ (ae.2 ⟨pz,by exact iC,by omega,by omega,by omega,by assumption,et (ip aI) (et (ai aN) (et (ip aQ) (et (ai dn) (et (ai dw) (et (ip cZ) (et (iN gG) (ai iy)))))))⟩)
 refine jF (dF cZ) (sk (EP (EP ?_)))
 have gK:=gD.px [] [2] []
 refine EO (Kz (vP M 12) (Lz (vU a.ak.dG) gK 0 Tryz.isAgg28 (fw (.bool (decide (¬ (((a.ak.dG:Nat):Int)=0)))) (Fq (e:= !(decide (((a.ak.dG:Nat):Int)=0))) yk decide_not.symm) (nt ?_))))
 by_cases gL:((a.ak.dG:Nat):Int)=0
 refine jF (dF (IV gL)) (sk (sr (La ([vI a.ak.aI,vI a.ak.aJ,vI a.ak.eU,vI a.ak.aQ,vI a.ak.dz,vI a.ak.dL,vU a.ak.aU,vU E,vU B,vU a.ak.cz,vU a.ak.aY,vU a.ak.aH,vU a.ak.dG,vU a.ak.bT,vU a.ak.xN, .bool a.ak.dI, .string ⟨List.toArray a.ak.bO.bJ⟩, .string ⟨List.toArray a.ak.bO.bW⟩, .slice a.ak.aD.A a.ak.aD.ls.length a.ak.aD.c, .slice a.ak.ah.A a.ak.ah.ls.length a.ak.ah.c, .slice a.ak.ag.A a.ak.ag.ls.length a.ak.ag.c]) gK 0 Tryz.isAgg42 Tryz.sizeOf42 ?_)))
 have pE:=gK.pf [1]
 refine dO [vI a.ak.aI,vI a.ak.aJ,vI a.ak.eU,vI a.ak.aQ,vI a.ak.dz,vI a.ak.dL,vU a.ak.aU,vU E,vU B,vU a.ak.cz,vU a.ak.aY,vU a.ak.aH,vU a.ak.dG,vU a.ak.bT,vU a.ak.xN, .bool a.ak.dI, .string ⟨List.toArray a.ak.bO.bJ⟩, .string ⟨List.toArray a.ak.bO.bW⟩, .slice a.ak.aD.A a.ak.aD.ls.length a.ak.aD.c, .slice a.ak.ah.A a.ak.ah.ls.length a.ak.ah.c, .slice a.ak.ag.A a.ak.ag.ls.length a.ak.ag.c] 0 pE Tryz.sizeOf42 ?_
 intro vN kw
 refine nt (rt (Fin.res (lX rfl rfl (Fb (cs:= [vI a.ak.aI,vI a.ak.aJ,vI a.ak.eU,vI a.ak.aQ,vI a.ak.dz,vI a.ak.dL,vU a.ak.aU,vU E,vU B,vU a.ak.cz,vU a.ak.aY,vU a.ak.aH,vU a.ak.dG,vU a.ak.bT,vU a.ak.xN, .bool a.ak.dI, .string ⟨List.toArray a.ak.bO.bJ⟩, .string ⟨List.toArray a.ak.bO.bW⟩, .slice a.ak.aD.A a.ak.aD.ls.length a.ak.aD.c, .slice a.ak.ah.A a.ak.ah.ls.length a.ak.ah.c, .slice a.ak.ag.A a.ak.ag.ls.length a.ak.ag.c]) Tryz.isAgg42 Tryz.sizeOf42 ((kw.cls (i:=0) rfl).lit (k:=0) (m:=21) rfl))) ?_))
 have ky:=kw.pf [2]
 refine⟨.inr ⟨_,ky⟩, ?_⟩
 have pF:=ky.pb [0,1,2,4,22,23,24,25,26]
 have pG:=eO bH bI bJ bK bL bM bO bQ pF
 obtain⟨⟨bV,kz,aU⟩,iG⟩:∃ q:jm × Int × aC,dh b (bP.mk a.ak.aI a.ak.aJ a.ak.eU a.ak.aQ a.ak.dz a.ak.dL a.ak.aU E B a.ak.cz a.ak.aY a.ak.aH a.ak.dG a.ak.bT a.ak.xN a.ak.dI a.ak.bO (Ll.mk a.ak.aD.ls) (Ll.mk (List.map af.abs a.ak.ah.ls)) (Ll.mk a.ak.ag.ls))=q:=⟨_,rfl⟩
 obtain⟨vO,lQ,dA,lT,sV⟩:=Fu pG
 refine qd 7 rfl (Fe Tryz.call13 rfl (gM _ _ n b (bP.mk a.ak.aI a.ak.aJ a.ak.eU a.ak.aQ a.ak.dz a.ak.dL a.ak.aU E B a.ak.cz a.ak.aY a.ak.aH a.ak.dG a.ak.bT a.ak.xN a.ak.dI a.ak.bO (Ll.mk a.ak.aD.ls) (Ll.mk (List.map af.abs a.ak.ah.ls)) (Ll.mk a.ak.ag.ls)) a.ak.aD.A a.ak.aD.ls.length a.ak.aD.c a.ak.ah.A a.ak.ah.ls.length a.ak.ah.c a.ak.ah.ls a.ak.ag.A a.ak.ag.ls.length a.ak.ag.c bV kz aU lQ rfl (dA _ (K _ (List.mem_of_getElem? j)).1) (show a.ak.aD.ls.length≤a.ak.aD.c∧a.ak.aD.ls.length≤9223372036854775807 from by omega) (rfl:List.map af.abs a.ak.ah.ls=List.map af.abs a.ak.ah.ls) (by first | rfl | omega | (simp only [List.length_append,List.length_cons,List.length_nil,List.length_take,List.length_drop,List.length_set,List.length_replicate,List.length_map] <;> omega)) (fun w9 Y=>mZ (aA (rfl:List.map af.abs a.ak.ah.ls=List.map af.abs a.ak.ah.ls)) ((dA _ (K _ (List.mem_of_getElem? j)).2.2.1) w9 Y)) (show List.length (List.map af.abs a.ak.ah.ls)≤a.ak.ah.c∧List.length (List.map af.abs a.ak.ah.ls)≤9223372036854775807 from by omega) (fun x9 Y=>⟨dA _ ((K _ (List.mem_of_getElem? j)).2.2.2.2.1 x9 Y).1,((K _ (List.mem_of_getElem? j)).2.2.2.2.1 x9 Y).2⟩) rfl (dA _ (K _ (List.mem_of_getElem? j)).2.2.2.2.2.1) (show a.ak.ag.ls.length≤a.ak.ag.c∧a.ak.ag.ls.length≤9223372036854775807 from by omega) (by first | omega | (dsimp only; omega) | (simp only [List.length_nil]; omega) | decide | (simp only [jh,List.length_cons,List.length_nil,List.length_replicate]; omega)) (by assumption) iG) ?_)
 rintro _ vQ ⟨iH,iJ,pI,rfl,lU,iK,iL,iM⟩
 have kC:=lT _ _ lU
 have sW:=aA iK
 have sZ:=kC.rowC (i:=0) rfl
 replace iL:aU.aa.ag.ls.length=b.aa.ag.ls.length∧aU.aa.au=b.aa.au∧aU.aB.ls.length+aU.aa.aj.ls.length≤8∧aU.aa.aG.ls.length≤b.aa.aG.ls.length+1:=iL
 replace iM:Mk aU:=iM
 have kD:=kC.pf [3]
 refine⟨.inr ⟨_,kD⟩, ?_⟩
 refine qv 8 rfl rfl (qk (.agg #[.slice iH bV.dR.ls.length iJ, .bool bV.gB]) 9 rfl (qk (vI kz) 10 rfl ?_))
 have pJ:=kD.pf [6]
 refine qe 11 rfl (Do.store (vs:= [.slice iH bV.dR.ls.length iJ, .bool bV.gB]) (o:=0) pJ rfl rfl Tryz.sizeOf47 rfl rfl rfl rfl ?_)
 intro vR pK
 have kE:=pK.pf [1]
 refine⟨.inr ⟨_,kE⟩, ?_⟩
 refine qn (bN ?_)
 have pM:=kE.pk [1,0,4,2,3]
 exact FD (iH,iJ,pI,bV.dR.ls,bV.gB,aU) ⟨rfl,rfl,rfl,rfl,rfl,rfl,rfl,rfl,rfl,rfl,rfl,rfl,rfl,rfl,rfl,rfl,rfl,trivial⟩ (ae.2 ⟨pM,by exact iK,by omega,by omega,by omega,by assumption,et (ip aI) (et (ai aN) (et (ip aQ) (et (ai dn) (et (ai dw) (et (iN cZ) (et (ip gL) (ai iG)))))))⟩)
 refine jT (dT gL) (EO (Mz rfl (Kz (vP M 12) ?_)))
 refine dO [.int .u64 0] 12 gK Tryz.sizeOf28 ?_
 intro vS kF
 refine ns (La ([vI a.ak.aI,vI a.ak.aJ,vI a.ak.eU,vI a.ak.aQ,vI a.ak.dz,vI a.ak.dL,vU a.ak.aU,vU E,vU B,vU a.ak.cz,vU a.ak.aY,vU a.ak.aH, .int .u64 0,vU a.ak.bT,vU a.ak.xN, .bool a.ak.dI, .string ⟨List.toArray a.ak.bO.bJ⟩, .string ⟨List.toArray a.ak.bO.bW⟩, .slice a.ak.aD.A a.ak.aD.ls.length a.ak.aD.c, .slice a.ak.ah.A a.ak.ah.ls.length a.ak.ah.c, .slice a.ak.ag.A a.ak.ag.ls.length a.ak.ag.c]) kF 0 Tryz.isAgg42 Tryz.sizeOf42 ?_)
 have pO:=kF.pf [1]
 refine dO [vI a.ak.aI,vI a.ak.aJ,vI a.ak.eU,vI a.ak.aQ,vI a.ak.dz,vI a.ak.dL,vU a.ak.aU,vU E,vU B,vU a.ak.cz,vU a.ak.aY,vU a.ak.aH, .int .u64 0,vU a.ak.bT,vU a.ak.xN, .bool a.ak.dI, .string ⟨List.toArray a.ak.bO.bJ⟩, .string ⟨List.toArray a.ak.bO.bW⟩, .slice a.ak.aD.A a.ak.aD.ls.length a.ak.aD.c, .slice a.ak.ah.A a.ak.ah.ls.length a.ak.ah.c, .slice a.ak.ag.A a.ak.ag.ls.length a.ak.ag.c] 0 pO Tryz.sizeOf42 ?_
 intro vT kH
 refine nt (rt (Fin.res (lX rfl rfl (Fb (cs:= [vI a.ak.aI,vI a.ak.aJ,vI a.ak.eU,vI a.ak.aQ,vI a.ak.dz,vI a.ak.dL,vU a.ak.aU,vU E,vU B,vU a.ak.cz,vU a.ak.aY,vU a.ak.aH, .int .u64 0,vU a.ak.bT,vU a.ak.xN, .bool a.ak.dI, .string ⟨List.toArray a.ak.bO.bJ⟩, .string ⟨List.toArray a.ak.bO.bW⟩, .slice a.ak.aD.A a.ak.aD.ls.length a.ak.aD.c, .slice a.ak.ah.A a.ak.ah.ls.length a.ak.ah.c, .slice a.ak.ag.A a.ak.ag.ls.length a.ak.ag.c]) Tryz.isAgg42 Tryz.sizeOf42 ((kH.cls (i:=0) rfl).lit (k:=0) (m:=21) rfl))) ?_))
 have kI:=kH.pf [2]
 refine⟨.inr ⟨_,kI⟩, ?_⟩
 have pQ:=kI.pb [0,1,2,4,22,23,24,25,26]
 have pR:=eO bH bI bJ bK bL bM bO bQ pQ
 obtain⟨⟨bW,kJ,aV⟩,iO⟩:∃ q:jm × Int × aC,dh b (bP.mk a.ak.aI a.ak.aJ a.ak.eU a.ak.aQ a.ak.dz a.ak.dL a.ak.aU E B a.ak.cz a.ak.aY a.ak.aH 0 a.ak.bT a.ak.xN a.ak.dI a.ak.bO (Ll.mk a.ak.aD.ls) (Ll.mk (List.map af.abs a.ak.ah.ls)) (Ll.mk a.ak.ag.ls))=q:=⟨_,rfl⟩
 obtain⟨vV,lV,dB,lW,tq⟩:=Fu pR
 refine qd 7 rfl (Fe Tryz.call13 rfl (gM _ _ n b (bP.mk a.ak.aI a.ak.aJ a.ak.eU a.ak.aQ a.ak.dz a.ak.dL a.ak.aU E B a.ak.cz a.ak.aY a.ak.aH 0 a.ak.bT a.ak.xN a.ak.dI a.ak.bO (Ll.mk a.ak.aD.ls) (Ll.mk (List.map af.abs a.ak.ah.ls)) (Ll.mk a.ak.ag.ls)) a.ak.aD.A a.ak.aD.ls.length a.ak.aD.c a.ak.ah.A a.ak.ah.ls.length a.ak.ah.c a.ak.ah.ls a.ak.ag.A a.ak.ag.ls.length a.ak.ag.c bW kJ aV lV rfl (dB _ (K _ (List.mem_of_getElem? j)).1) (show a.ak.aD.ls.length≤a.ak.aD.c∧a.ak.aD.ls.length≤9223372036854775807 from by omega) (rfl:List.map af.abs a.ak.ah.ls=List.map af.abs a.ak.ah.ls) (by first | rfl | omega | (simp only [List.length_append,List.length_cons,List.length_nil,List.length_take,List.length_drop,List.length_set,List.length_replicate,List.length_map] <;> omega)) (fun w9 Y=>mZ (aA (rfl:List.map af.abs a.ak.ah.ls=List.map af.abs a.ak.ah.ls)) ((dB _ (K _ (List.mem_of_getElem? j)).2.2.1) w9 Y)) (show List.length (List.map af.abs a.ak.ah.ls)≤a.ak.ah.c∧List.length (List.map af.abs a.ak.ah.ls)≤9223372036854775807 from by omega) (fun x9 Y=>⟨dB _ ((K _ (List.mem_of_getElem? j)).2.2.2.2.1 x9 Y).1,((K _ (List.mem_of_getElem? j)).2.2.2.2.1 x9 Y).2⟩) rfl (dB _ (K _ (List.mem_of_getElem? j)).2.2.2.2.2.1) (show a.ak.ag.ls.length≤a.ak.ag.c∧a.ak.ag.ls.length≤9223372036854775807 from by omega) (by first | omega | (dsimp only; omega) | (simp only [List.length_nil]; omega) | decide | (simp only [jh,List.length_cons,List.length_nil,List.length_replicate]; omega)) (by assumption) iO) ?_)
 rintro _ vW ⟨iP,iQ,pU,rfl,lY,iR,iT,iU⟩
 have kK:=lW _ _ lY
 have tu:=aA iR
 have tC:=kK.rowC (i:=0) rfl
 replace iT:aV.aa.ag.ls.length=b.aa.ag.ls.length∧aV.aa.au=b.aa.au∧aV.aB.ls.length+aV.aa.aj.ls.length≤8∧aV.aa.aG.ls.length≤b.aa.aG.ls.length+1:=iT
 replace iU:Mk aV:=iU
 have kL:=kK.pf [3]
 refine⟨.inr ⟨_,kL⟩, ?_⟩
 refine qv 8 rfl rfl (qk (.agg #[.slice iP bW.dR.ls.length iQ, .bool bW.gB]) 9 rfl (qk (vI kJ) 10 rfl ?_))
 have pV:=kL.pf [6]
 refine qe 11 rfl (Do.store (vs:= [.slice iP bW.dR.ls.length iQ, .bool bW.gB]) (o:=0) pV rfl rfl Tryz.sizeOf47 rfl rfl rfl rfl ?_)
 intro vX pW
 have kM:=pW.pf [1]
 refine⟨.inr ⟨_,kM⟩, ?_⟩
 refine qn (bN ?_)
 have pX:=kM.pk [1,0,4,2,3]
 exact FD (iP,iQ,pU,bW.dR.ls,bW.gB,aV) ⟨rfl,rfl,rfl,rfl,rfl,rfl,rfl,rfl,rfl,rfl,rfl,rfl,rfl,rfl,rfl,rfl,rfl,trivial⟩ (ae.2 ⟨pX,by exact iR,by omega,by omega,by omega,by assumption,et (ip aI) (et (ai aN) (et (ip aQ) (et (ai dn) (et (ai dw) (et (iN cZ) (et (iN gL) (ai iO)))))))⟩)
 refine jT (cn aQ) (EP ?_)
 have kN:=ib.px [] [3] []
 refine EO (La (bA.cells a.ak) kN 0 Tryz.isAgg42 Tryz.sizeOf42 ?_)
 have pY:=kN.pf [1]
 refine dO (bA.cells a.ak) 0 pY Tryz.sizeOf42 ?_
 intro vY kP
 refine nt (rt (tR (Fin.res (lX rfl rfl (Fb (cs:=(bA.cells a.ak)) Tryz.isAgg42 Tryz.sizeOf42 ((kP.cls (i:=0) rfl).lit (k:=0) (m:=21) rfl))) ?_)))
 have kQ:=kP.pf [3]
 refine⟨.inr ⟨_,kQ⟩, ?_⟩
 have p8:=kQ.pb [0,1,2,3,22,23,24,25,26,27]
 have p9:=eO bH bI bJ bK bL bM bO bQ p8
 obtain⟨⟨bX,kR,aW⟩,iV⟩:∃ q:jm × Int × aC,dh b (bP.mk a.ak.aI a.ak.aJ a.ak.eU a.ak.aQ a.ak.dz a.ak.dL a.ak.aU a.ak.ay a.ak.bf a.ak.cz a.ak.aY a.ak.aH a.ak.dG a.ak.bT a.ak.xN a.ak.dI a.ak.bO (Ll.mk a.ak.aD.ls) (Ll.mk (List.map af.abs a.ak.ah.ls)) (Ll.mk a.ak.ag.ls))=q:=⟨_,rfl⟩
 obtain⟨vZ,lZ,dD,l5,tF⟩:=Fu p9
 refine qd 7 rfl (Fe Tryz.call13 rfl (gM _ _ n b (bP.mk a.ak.aI a.ak.aJ a.ak.eU a.ak.aQ a.ak.dz a.ak.dL a.ak.aU a.ak.ay a.ak.bf a.ak.cz a.ak.aY a.ak.aH a.ak.dG a.ak.bT a.ak.xN a.ak.dI a.ak.bO (Ll.mk a.ak.aD.ls) (Ll.mk (List.map af.abs a.ak.ah.ls)) (Ll.mk a.ak.ag.ls)) a.ak.aD.A a.ak.aD.ls.length a.ak.aD.c a.ak.ah.A a.ak.ah.ls.length a.ak.ah.c a.ak.ah.ls a.ak.ag.A a.ak.ag.ls.length a.ak.ag.c bX kR aW lZ rfl (dD _ (K _ (List.mem_of_getElem? j)).1) (show a.ak.aD.ls.length≤a.ak.aD.c∧a.ak.aD.ls.length≤9223372036854775807 from by omega) (rfl:List.map af.abs a.ak.ah.ls=List.map af.abs a.ak.ah.ls) (by first | rfl | omega | (simp only [List.length_append,List.length_cons,List.length_nil,List.length_take,List.length_drop,List.length_set,List.length_replicate,List.length_map] <;> omega)) (fun w9 Y=>mZ (aA (rfl:List.map af.abs a.ak.ah.ls=List.map af.abs a.ak.ah.ls)) ((dD _ (K _ (List.mem_of_getElem? j)).2.2.1) w9 Y)) (show List.length (List.map af.abs a.ak.ah.ls)≤a.ak.ah.c∧List.length (List.map af.abs a.ak.ah.ls)≤9223372036854775807 from by omega) (fun x9 Y=>⟨dD _ ((K _ (List.mem_of_getElem? j)).2.2.2.2.1 x9 Y).1,((K _ (List.mem_of_getElem? j)).2.2.2.2.1 x9 Y).2⟩) rfl (dD _ (K _ (List.mem_of_getElem? j)).2.2.2.2.2.1) (show a.ak.ag.ls.length≤a.ak.ag.c∧a.ak.ag.ls.length≤9223372036854775807 from by omega) (by first | omega | (dsimp only; omega) | (simp only [List.length_nil]; omega) | decide | (simp only [jh,List.length_cons,List.length_nil,List.length_replicate]; omega)) (by assumption) iV) ?_)
 rintro _ wh ⟨iW,iX,qa,rfl,l6,ja,jb,jc⟩
 have kS:=l5 _ _ l6
 have tH:=aA ja
 have tJ:=kS.rowC (i:=0) rfl
 replace jb:aW.aa.ag.ls.length=b.aa.ag.ls.length∧aW.aa.au=b.aa.au∧aW.aB.ls.length+aW.aa.aj.ls.length≤8∧aW.aa.aG.ls.length≤b.aa.aG.ls.length+1:=jb
 replace jc:Mk aW:=jc
 have kT:=kS.pf [3]
 refine⟨.inr ⟨_,kT⟩, ?_⟩
 refine qv 8 rfl rfl (qk (.agg #[.slice iW bX.dR.ls.length iX, .bool bX.gB]) 9 rfl (qk (vI kR) 10 rfl ?_))
 have qb:=kT.pf [12]
 refine qe 11 rfl (Do.store (vs:= [.slice iW bX.dR.ls.length iX, .bool bX.gB]) (o:=0) qb rfl rfl Tryz.sizeOf47 rfl rfl rfl rfl ?_)
 intro wm qc
 have kU:=qc.pf [1]
 refine⟨.inr ⟨_,kU⟩, ?_⟩
 refine qn (bN ?_)
 have qf:=kU.pk [1,0,4,2,3]
 exact FD (iW,iX,qa,bX.dR.ls,bX.gB,aW) ⟨rfl,rfl,rfl,rfl,rfl,rfl,rfl,rfl,rfl,rfl,rfl,rfl,rfl,rfl,rfl,rfl,rfl,trivial⟩ (ae.2 ⟨qf,by exact ja,by omega,by omega,by omega,by assumption,et (ip aI) (et (ai aN) (et (fU aQ) (ai iV)))⟩)
 refine jF (dF aI) (sr (Kz (.bool (decide (a.kR=1))) (An rfl ?_)))
 by_cases gP:a.kR=1
 refine jT (dT gP) (EO (Mz rfl ?_))
 have qg:=eG.pf [2]
 obtain⟨⟨dS,aY⟩,jd⟩:∃ q:jm × aC,jg b=q:=⟨_,rfl⟩
 obtain⟨wo,l7,tK,l9,tL⟩:=Fu qg
 refine cl Tryz.call14 (tX _ _ n b dS aY l7 (by first | omega | (dsimp only; omega) | (simp only [List.length_nil]; omega) | decide) (by assumption) jd) ?_
 rintro _ wu ⟨kV,kW,qh,rfl,ma,je,ji,jl⟩
 have kX:=l9 _ _ ma
 have tN:=aA je
 have tO:=kX.rowC (i:=0) rfl
 replace ji:aY.aa.ag.ls.length=b.aa.ag.ls.length∧aY.aa.au=b.aa.au∧aY.aB.ls.length+aY.aa.aj.ls.length≤8∧aY.aa.aG.ls.length≤b.aa.aG.ls.length+0:=ji
 replace jl:Mk aY:=jl
 have qi:=kX.pf [3]
 refine dO [.slice kV dS.dR.ls.length kW, .bool dS.gB] 0 qi Tryz.sizeOf47 ?_
 intro ww qj
 refine WL.nil (bN ?_)
 have ql:=qj.pb [3,1,2]
 exact FD (kV,kW,qh,dS.dR.ls,dS.gB,aY) ⟨rfl,rfl,rfl,rfl,rfl,rfl,rfl,rfl,rfl,rfl,rfl,rfl,rfl,rfl,rfl,rfl,rfl,trivial⟩ (ae.2 ⟨ql,by exact je,by omega,by omega,by omega,by assumption,et (iN aI) (et (ip gP) (ai jd))⟩)
 refine jF (dF gP) (Fs (bN ?_))
 have qm:Own w D jO (sepL (List.flatMap bA.own ([]))::_):=eG.sepNil
 have qp:Own w D jO (row none 0 0 (List.flatMap bA.cells ([])) 42 21::_):=qm.free (fo 42 21)
 have qw:=qp.pb [0,1]
 exact FD (none,0, [], [],false,b) ⟨rfl,rfl,rfl,rfl,rfl,rfl,rfl,rfl,rfl,rfl,rfl,rfl,rfl,rfl,rfl,rfl,rfl,trivial⟩ (ae.2 ⟨qw,(show List.map bA.abs ([])=([])∧0≤List.length ([])∧0≤9223372036854775807∧(b.aa.ag.ls.length≤1000∧b.aa.au≤4∧b.aB.ls.length+b.aa.aj.ls.length≤8∧b.aa.aG.ls.length≤b.aa.aG.ls.length+1)∧Mk b∧(if a.kR=0 then bnd (iI b) fun X=>if a.sW=true then bnd (if((a.ak.bf:Nat):Int)=0 then a.ak.bf else Int.toNat (IntKind.u64.wrap (((eT X.ay 32:Nat):Int)+((a.ak.bf % 16:Nat):Int)))) fun sJrbbtbbfLsJjtbtJ=>bnd (if a.ak.aI=1 then X.ay else a.ak.ay) fun sJrbbtbbfLsJjtbtJaJ=>if a.ak.aI=9 then if((a.ak.dG:Nat):Int)=0 then bnd (dh b (bP.mk a.ak.aI a.ak.aJ a.ak.eU a.ak.aQ a.ak.dz a.ak.dL a.ak.aU sJrbbtbbfLsJjtbtJaJ sJrbbtbbfLsJjtbtJ a.ak.cz X.aY a.ak.aH a.ak.dG a.ak.bT a.ak.xN a.ak.dI a.ak.bO (Ll.mk a.ak.aD.ls) (Ll.mk (List.map af.abs a.ak.ah.ls)) (Ll.mk a.ak.ag.ls))) fun bi=>(bi.1.dR.ls,bi.2.2) else bnd (dh b (bP.mk a.ak.aI a.ak.aJ a.ak.eU a.ak.aQ a.ak.dz a.ak.dL a.ak.aU sJrbbtbbfLsJjtbtJaJ sJrbbtbbfLsJjtbtJ a.ak.cz X.aY a.ak.aH 0 a.ak.bT a.ak.xN a.ak.dI a.ak.bO (Ll.mk a.ak.aD.ls) (Ll.mk (List.map af.abs a.ak.ah.ls)) (Ll.mk a.ak.ag.ls))) fun bq=>(bq.1.dR.ls,bq.2.2) else if((a.ak.dG:Nat):Int)=0 then bnd (dh b (bP.mk a.ak.aI a.ak.aJ a.ak.eU a.ak.aQ a.ak.dz a.ak.dL a.ak.aU sJrbbtbbfLsJjtbtJaJ sJrbbtbbfLsJjtbtJ a.ak.cz a.ak.aY a.ak.aH a.ak.dG a.ak.bT a.ak.xN a.ak.dI a.ak.bO (Ll.mk a.ak.aD.ls) (Ll.mk (List.map af.abs a.ak.ah.ls)) (Ll.mk a.ak.ag.ls))) fun bu=>(bu.1.dR.ls,bu.2.2) else bnd (dh b (bP.mk a.ak.aI a.ak.aJ a.ak.eU a.ak.aQ a.ak.dz a.ak.dL a.ak.aU sJrbbtbbfLsJjtbtJaJ sJrbbtbbfLsJjtbtJ a.ak.cz a.ak.aY a.ak.aH 0 a.ak.bT a.ak.xN a.ak.dI a.ak.bO (Ll.mk a.ak.aD.ls) (Ll.mk (List.map af.abs a.ak.ah.ls)) (Ll.mk a.ak.ag.ls))) fun bE=>(bE.1.dR.ls,bE.2.2) else bnd (dh b (bP.mk a.ak.aI a.ak.aJ a.ak.eU a.ak.aQ a.ak.dz a.ak.dL a.ak.aU a.ak.ay a.ak.bf a.ak.cz a.ak.aY a.ak.aH a.ak.dG a.ak.bT a.ak.xN a.ak.dI a.ak.bO (Ll.mk a.ak.aD.ls) (Ll.mk (List.map af.abs a.ak.ah.ls)) (Ll.mk a.ak.ag.ls))) fun bF=>(bF.1.dR.ls,bF.2.2) else if a.kR=1 then bnd (jg b) fun bG=>(bG.1.dR.ls,bG.2) else([],b))=(([]),b) from ⟨by exact rfl,by omega,by omega,by omega,by assumption,et (iN aI) (iN gP)⟩)⟩)
 rintro ⟨z,O,ag,h,dH,p⟩ wy mf
 show Wp _ _ _ [(48, .bool (decide (a.kR=0))),(49, .bool (decide (a.kR=0))),(47,vI a.kR),(46,vP C 0),(9,vP F 0),(45, .agg #[.slice none 0 0, .bool false]),(8,vP C 0),(44, .agg (gz.cells a).toArray),(43, .pointer (some ⟨ab A0,ao A0+l *25,none⟩)),(42, .bool (decide (((l:Nat):Int) < ((l0.length:Nat):Int)))),(2, .bool false),(6,vU R),(41,vJ l),(40,vJ l0.length),(39, .slice A0 l0.length c0),(4,vP n 0),(3, .bool P)] _ _
 obtain⟨qx,jo,tQ,tT,tV,tY,bY⟩:=ae.1 mf
 have tZ:=aA jo
 refine sr (Mz rfl ?_)
 have qy:=qx.pf [2]
 obtain⟨d,aO⟩:∃ q,iI p=q:=⟨_,rfl⟩
 obtain⟨wz,mg,uf,mh,ug⟩:=Fu qy
 refine cl Tryz.call11 (pg _ _ n p d mg (by first | omega | (dsimp only; omega) | (simp only [List.length_nil]; omega) | decide) (by assumption) aO) ?_
 rintro _ wB ⟨T,U,G,L,V,W,cu,df,rfl,mi,jq,mo⟩
 have gQ:=mh _ _ mi
 have uh:=aA jq
 have ui:=aA mo
 have uk:=gQ.rowC (i:=0) rfl
 have ul:=gQ.rowC (i:=1) rfl
 have um:=gQ.rowC (i:=3) rfl
 refine dP [vI 0, .int .u64 0, .int .u64 0, .int .u64 0, .slice none 0 0, .slice none 0 0, .slice none 0 0] 33 gQ ?_
 intro S wC qz
 refine dO [vI d.au,vU d.ay,vU d.aY,vU d.aH, .slice T d.ag.ls.length U, .slice G d.aj.ls.length L, .slice V d.aG.ls.length W] 0 qz Tryz.sizeOf33 ?_
 intro wD kY
 refine ns (Kz (vP F 0) (Lz (.slice z h.length O) kY 7 Tryz.isAgg45 (Kz (vJ h.length) (Mn rfl (bo ?_)))))
 have qA:=kY.pf []
 obtain⟨qB,dE⟩:=Dt fun(u:Nat) (s:Nat) (w':World)=>Own w D w' [blk S [vI d.au,vU d.ay,vU d.aY,vU d.aH, .slice T d.ag.ls.length U, .slice G d.aj.ls.length L, .slice V d.aG.ls.length W] 33,row T d.ag.ls.length U (List.flatMap bv.cells d.ag.ls) 89 2,row G d.aj.ls.length L (List.flatMap az.cells cu) 60 5,sepL (List.flatMap az.own cu),row V d.aG.ls.length W (List.flatMap aX.cells df) 56 4,sepL (List.flatMap aX.own df),iF n p,blk F [.slice z h.length O, .bool dH] 47,blk C (gz.cells a) 44,row z h.length O (List.flatMap bA.cells ag) 42 21,sepL (List.flatMap bA.own ag)]∧s≤h.length∧gI p d h R=gI p d (List.drop s h) u
 refine Wp.loop (fun i:Nat × Nat=> [(2, .bool false),(6,vU i.1),(70,vJ i.2),(69,vJ h.length),(68, .slice z h.length O),(67,vP F 0),(10,vP S 0),(66, .agg #[vI d.au,vU d.ay,vU d.aY,vU d.aH, .slice T d.ag.ls.length U, .slice G d.aj.ls.length L, .slice V d.aG.ls.length W]),(65,vP n 0),(48, .bool (decide (a.kR=0))),(49, .bool (decide (a.kR=0))),(47,vI a.kR),(46,vP C 0),(9,vP F 0),(45, .agg #[.slice none 0 0, .bool false]),(8,vP C 0),(44, .agg (gz.cells a).toArray),(43, .pointer (some ⟨ab A0,ao A0+l *25,none⟩)),(42, .bool (decide (((l:Nat):Int) < ((l0.length:Nat):Int)))),(41,vJ l),(40,vJ l0.length),(39, .slice A0 l0.length c0),(4,vP n 0),(3, .bool P)]) qB (fun i=>h.length - i.2) (R,0) ⟨rfl,rfl,rfl,rfl,rfl,rfl,rfl,rfl,rfl,rfl,rfl,rfl,rfl,rfl,rfl,rfl,rfl,rfl,rfl,rfl,rfl,rfl,rfl,rfl,trivial⟩ (dE.2 ⟨qA,by omega,rfl⟩) ?_
 rintro ⟨u,s⟩ wE mq
 show Wp _ _ _ [(2, .bool false),(6,vU u),(70,vJ s),(69,vJ h.length),(68, .slice z h.length O),(67,vP F 0),(10,vP S 0),(66, .agg #[vI d.au,vU d.ay,vU d.aY,vU d.aH, .slice T d.ag.ls.length U, .slice G d.aj.ls.length L, .slice V d.aG.ls.length W]),(65,vP n 0),(48, .bool (decide (a.kR=0))),(49, .bool (decide (a.kR=0))),(47,vI a.kR),(46,vP C 0),(9,vP F 0),(45, .agg #[.slice none 0 0, .bool false]),(8,vP C 0),(44, .agg (gz.cells a).toArray),(43, .pointer (some ⟨ab A0,ao A0+l *25,none⟩)),(42, .bool (decide (((l:Nat):Int) < ((l0.length:Nat):Int)))),(41,vJ l),(40,vJ l0.length),(39, .slice A0 l0.length c0),(4,vP n 0),(3, .bool P)] _ _
 obtain⟨aZ,uo,aB⟩:=dE.1 mq
 refine sr (Kz (.bool (decide (((s:Nat):Int) < ((h.length:Nat):Int)))) (nt (EP ?_)))
 by_cases kZ:((s:Nat):Int) < ((h.length:Nat):Int)
 obtain⟨f,cz⟩:=dK (ls:=ag) (i:=s) bA.len (by decide) (aZ.rds (i:=9) rfl) (by first | omega | (simp; done) | (simp; omega))
 have mr:=eQ jo cz
 have uq:f.aD.ls.length≤f.aD.c∧f.aD.ls.length≤9223372036854775807:=bz aZ (i:=10) rfl (φ:=fun _=>_) (ax (List.mem_flatMap.2 ⟨f,List.mem_of_getElem? cz, .head _⟩) bn)
 have ut:f.ah.ls.length≤f.ah.c∧f.ah.ls.length≤9223372036854775807:=bz aZ (i:=10) rfl (φ:=fun _=>_) (ax (List.mem_flatMap.2 ⟨f,List.mem_of_getElem? cz, .tail _ (.head _)⟩) bn)
 have uu:f.ag.ls.length≤f.ag.c∧f.ag.ls.length≤9223372036854775807:=bz aZ (i:=10) rfl (φ:=fun _=>_) (ax (List.mem_flatMap.2 ⟨f,List.mem_of_getElem? cz, .tail _ (.tail _ (.head _))⟩) bn)
 have aP:=drop_at mr
 refine jT (dT kZ) (sk (EP (bo (sr (fw (.pointer (some ⟨ab z,ao z+s *21,none⟩)) (ET (uj) rfl rfl ((aZ.rds (i:=9) rfl).addr (i:=s) (by omega)) (by omega)) (fw (.agg (bA.cells f).toArray) (EY rfl (Fb (cs:=(bA.cells f)) Tryz.isAgg42 Tryz.sizeOf42 ((aZ.rds (i:=9) rfl).elem bA.len cz (by decide)))) ?_))))))
 refine dP (gN 0 0 0 0 0 0 0 0 0 0 0 0 0 0 0 false ([]) ([]) none 0 0 none 0 0 none 0 0) 42 aZ ?_
 intro r wF qC
 refine dO (bA.cells f) 0 qC Tryz.sizeOf42 ?_
 intro wG au
 refine nt (EP (sr (Kz (vP r 0) (Lz (vI f.aI) au 0 Tryz.isAgg3 (fw (.bool (decide (¬ (f.aI=3)))) (Fq (e:= !(decide (f.aI=3))) yk decide_not.symm) (nt ?_))))))
 by_cases bf:f.aI=3
 refine jF (dF (IV bf)) (sk (EP (sr (Kz (vP r 9) (Lz (vU f.cz) au 0 Tryz.isAgg28 (Mz rfl (Kz (.bool (decide (((f.cz:Nat):Int) < ((u:Nat):Int)))) (Mz rfl ?_))))))))
 by_cases N:((f.cz:Nat):Int) < ((u:Nat):Int)
 refine Sz (dT N) (Sz (dT N) (Sz (dT N) (Sz (dT N) (Sz (dT N) (fw (.bool true) (Fa rfl (dT N) rfl) (nt (jt (sr (An rfl (rt (tR (bR (tR (tR (bR (bR (tR (tR (bR (tR (rs ?_)))))))))))))))))))))
 have qD:=au.pk []
 obtain rfl:_=false:=hr.symm.trans (et (ai ah) (et (ai aj) (et (ip Z) (et (ai aD) (et (ai aa) (et (iN aG) (iZ (et (aM) (et (congrArg (fun q=>gU P q R b) bg) (et (ai bY) (et (ai aO) (mX (et (aB) (et (congrArg (fun q=>gI p d q u) aP) (et (ip bf) (ip N))))))))))))))))
 exact⟨rfl,qD⟩
 refine Gz (vP r 9) (dF N) (Gl (vU f.cz) (dF N) au 0 Tryz.isAgg28 (Gz (vP r 8) (dF N) (Gl (vU f.bf) (dF N) au 0 Tryz.isAgg28 (Gz (.bool (decide (((f.cz:Nat):Int) > ((f.bf:Nat):Int)))) (dF N) (fw (.bool (decide (((f.cz:Nat):Int) > ((f.bf:Nat):Int)))) (ES rfl (dF N) rfl) (nt ?_))))))
 by_cases di:((f.cz:Nat):Int) > ((f.bf:Nat):Int)
 refine jT (dT di) (sr (An rfl (rt (tR (bR (tR (tR (bR (bR (tR (tR (bR (tR (rs ?_))))))))))))))
 have qE:=au.pk []
 obtain rfl:_=false:=hr.symm.trans (et (ai ah) (et (ai aj) (et (ip Z) (et (ai aD) (et (ai aa) (et (iN aG) (iZ (et (aM) (et (congrArg (fun q=>gU P q R b) bg) (et (ai bY) (et (ai aO) (mX (et (aB) (et (congrArg (fun q=>gI p d q u) aP) (et (ip bf) (et (iN N) (ip di)))))))))))))))))
 exact⟨rfl,qE⟩
 refine jF (dF di) (sk (sr (Kz (vP r 9) (Lz (vU f.cz) au 0 Tryz.isAgg28 (An rfl (EP (sr (Kz (vP S 5) (Lz (.slice G d.aj.ls.length L) au 1 Tryz.isAgg30 (Kz (vJ d.aj.ls.length) (Mn rfl (bo ?_))))))))))))
 have qF:=au.pf []
 obtain⟨qG,d9⟩:=l8 fun(J:Nat) (w':World)=>Own w D w' [blk r (bA.cells f) 42,blk S [vI d.au,vU d.ay,vU d.aY,vU d.aH, .slice T d.ag.ls.length U, .slice G d.aj.ls.length L, .slice V d.aG.ls.length W] 33,row T d.ag.ls.length U (List.flatMap bv.cells d.ag.ls) 89 2,row G d.aj.ls.length L (List.flatMap az.cells cu) 60 5,sepL (List.flatMap az.own cu),row V d.aG.ls.length W (List.flatMap aX.cells df) 56 4,sepL (List.flatMap aX.own df),iF n p,blk F [.slice z h.length O, .bool dH] 47,blk C (gz.cells a) 44,row z h.length O (List.flatMap bA.cells ag) 42 21,sepL (List.flatMap bA.own ag)]∧J≤d.aj.ls.length∧jH (bA.abs f) p d.aj.ls=jH (bA.abs f) p (List.drop J d.aj.ls)
 refine Wp.loop (fun i:Nat=> [(2, .bool false),(93,vJ i),(92,vJ d.aj.ls.length),(91, .slice G d.aj.ls.length L),(90,vP S 5),(6,vU f.cz),(89,vU f.cz),(88,vP r 9),(87, .bool (decide (((f.cz:Nat):Int) > ((f.bf:Nat):Int)))),(86, .bool (decide (((f.cz:Nat):Int) > ((f.bf:Nat):Int)))),(85,vU f.bf),(84,vP r 8),(83,vU f.cz),(82,vP r 9),(81, .bool (decide (((f.cz:Nat):Int) < ((u:Nat):Int)))),(80, .bool (decide (((f.cz:Nat):Int) < ((u:Nat):Int)))),(79,vU u),(78,vU f.cz),(77,vP r 9),(76, .bool (decide (¬ (f.aI=3)))),(75,vI f.aI),(74,vP r 0),(12,vP r 0),(73, .agg (bA.cells f).toArray),(72, .pointer (some ⟨ab z,ao z+s *21,none⟩)),(71, .bool (decide (((s:Nat):Int) < ((h.length:Nat):Int)))),(70,vJ s),(69,vJ h.length),(68, .slice z h.length O),(67,vP F 0),(10,vP S 0),(66, .agg #[vI d.au,vU d.ay,vU d.aY,vU d.aH, .slice T d.ag.ls.length U, .slice G d.aj.ls.length L, .slice V d.aG.ls.length W]),(65,vP n 0),(48, .bool (decide (a.kR=0))),(49, .bool (decide (a.kR=0))),(47,vI a.kR),(46,vP C 0),(9,vP F 0),(45, .agg #[.slice none 0 0, .bool false]),(8,vP C 0),(44, .agg (gz.cells a).toArray),(43, .pointer (some ⟨ab A0,ao A0+l *25,none⟩)),(42, .bool (decide (((l:Nat):Int) < ((l0.length:Nat):Int)))),(41,vJ l),(40,vJ l0.length),(39, .slice A0 l0.length c0),(4,vP n 0),(3, .bool P)]) qG (fun i=>d.aj.ls.length - i) 0 ⟨rfl,rfl,rfl,rfl,rfl,rfl,rfl,rfl,rfl,rfl,rfl,rfl,rfl,rfl,rfl,rfl,rfl,rfl,rfl,rfl,rfl,rfl,rfl,rfl,rfl,rfl,rfl,rfl,rfl,rfl,rfl,rfl,rfl,rfl,rfl,rfl,rfl,rfl,rfl,rfl,rfl,rfl,rfl,rfl,rfl,rfl,rfl,rfl,trivial⟩ (d9.2 ⟨qF,by omega,rfl⟩) ?_
 rintro J wH mD
 show Wp _ _ _ [(2, .bool false),(93,vJ J),(92,vJ d.aj.ls.length),(91, .slice G d.aj.ls.length L),(90,vP S 5),(6,vU f.cz),(89,vU f.cz),(88,vP r 9),(87, .bool (decide (((f.cz:Nat):Int) > ((f.bf:Nat):Int)))),(86, .bool (decide (((f.cz:Nat):Int) > ((f.bf:Nat):Int)))),(85,vU f.bf),(84,vP r 8),(83,vU f.cz),(82,vP r 9),(81, .bool (decide (((f.cz:Nat):Int) < ((u:Nat):Int)))),(80, .bool (decide (((f.cz:Nat):Int) < ((u:Nat):Int)))),(79,vU u),(78,vU f.cz),(77,vP r 9),(76, .bool (decide (¬ (f.aI=3)))),(75,vI f.aI),(74,vP r 0),(12,vP r 0),(73, .agg (bA.cells f).toArray),(72, .pointer (some ⟨ab z,ao z+s *21,none⟩)),(71, .bool (decide (((s:Nat):Int) < ((h.length:Nat):Int)))),(70,vJ s),(69,vJ h.length),(68, .slice z h.length O),(67,vP F 0),(10,vP S 0),(66, .agg #[vI d.au,vU d.ay,vU d.aY,vU d.aH, .slice T d.ag.ls.length U, .slice G d.aj.ls.length L, .slice V d.aG.ls.length W]),(65,vP n 0),(48, .bool (decide (a.kR=0))),(49, .bool (decide (a.kR=0))),(47,vI a.kR),(46,vP C 0),(9,vP F 0),(45, .agg #[.slice none 0 0, .bool false]),(8,vP C 0),(44, .agg (gz.cells a).toArray),(43, .pointer (some ⟨ab A0,ao A0+l *25,none⟩)),(42, .bool (decide (((l:Nat):Int) < ((l0.length:Nat):Int)))),(41,vJ l),(40,vJ l0.length),(39, .slice A0 l0.length c0),(4,vP n 0),(3, .bool P)] _ _
 obtain⟨dm,uw,ed⟩:=d9.1 mD
 refine sr (Kz (.bool (decide (((J:Nat):Int) < ((d.aj.ls.length:Nat):Int)))) (nt (EP ?_)))
 by_cases lc:((J:Nat):Int) < ((d.aj.ls.length:Nat):Int)
 obtain⟨av,ek⟩:=dK (ls:=cu) (i:=J) az.len (by decide) (dm.rds (i:=3) rfl) (by first | omega | (simp; done) | (simp; omega))
 have mE:=eQ jq ek
 have uy:av.au.ls.length≤av.au.c∧av.au.ls.length≤9223372036854775807:=bz dm (i:=4) rfl (φ:=fun _=>_) (ax (List.mem_flatMap.2 ⟨av,List.mem_of_getElem? ek, .head _⟩) bn)
 have jr:=drop_at mE
 refine jT (dT lc) (sk (EP (bo (sr (fw (.pointer (some ⟨ab G,ao G+J *5,none⟩)) (ET (kv) rfl rfl ((dm.rds (i:=3) rfl).addr (i:=J) (by omega)) (by omega)) (fw (.agg (az.cells av).toArray) (EY rfl (Fb (cs:=(az.cells av)) Tryz.isAgg60 Tryz.sizeOf60 ((dm.rds (i:=3) rfl).elem az.len ek (by decide)))) ?_))))))
 refine dP [.int .u64 0,vI 0, .int .u64 0, .int .u64 0, .slice none 0 0] 60 dm ?_
 intro qH wI qI
 refine dO (az.cells av) 0 qI Tryz.sizeOf60 ?_
 intro wJ gT
 refine ns (Kz (vP qH 0) (Lz (vU av.bf) gT 0 Tryz.isAgg28 (Kz (vP r 9) (Lz (vU f.cz) gT 1 Tryz.isAgg28 (Kz (.bool (decide (((av.bf:Nat):Int) < ((f.cz:Nat):Int)))) (nt ?_))))))
 by_cases gV:((av.bf:Nat):Int) < ((f.cz:Nat):Int)
 refine jT (dT gV) (sr (An rfl (rt (bR (tR (tR (bR (tR (bR (tR (tR (bR (bR (tR (tR (bR (tR (rs ?_))))))))))))))))))
 have qJ:=gT.pk []
 obtain rfl:_=false:=hr.symm.trans (et (ai ah) (et (ai aj) (et (ip Z) (et (ai aD) (et (ai aa) (et (iN aG) (iZ (et (aM) (et (congrArg (fun q=>gU P q R b) bg) (et (ai bY) (et (ai aO) (mX (et (aB) (et (congrArg (fun q=>gI p d q u) aP) (et (ip bf) (et (iN N) (et (iN di) (mX (et (ed) (et (congrArg (fun q=>jH (bA.abs f) p q) jr) (ip gV)))))))))))))))))))))
 exact⟨rfl,qJ⟩
 refine jF (dF gV) (Fs (bN (ER (EO (fw (vJ (J+1)) (EQ (e:=IntKind.i64.wrap (((J:Nat):Int)+1)) yk (by rw [IR _ (by omega)]; omega)) (Mz rfl (WL.nil ?_)))))))
 have qK:=gT.px [] [0] []
 exact E8 (J+1) ⟨rfl,rfl,rfl,rfl,rfl,rfl,rfl,rfl,rfl,rfl,rfl,rfl,rfl,rfl,rfl,rfl,rfl,rfl,rfl,rfl,rfl,rfl,rfl,rfl,rfl,rfl,rfl,rfl,rfl,rfl,rfl,rfl,rfl,rfl,rfl,rfl,rfl,rfl,rfl,rfl,rfl,rfl,rfl,rfl,rfl,rfl,rfl,rfl,trivial⟩ (d9.2 ⟨qK,by omega,et (ed) (et (congrArg (fun q=>jH (bA.abs f) p q) jr) (iN gV))⟩) (by show d.aj.ls.length - (J+1) < d.aj.ls.length - J; omega)
 refine jF (dF lc) (Wp.exit (EX ?_))
 have jv:jH (bA.abs f) p d.aj.ls=Sum.inl ():=et (ed) (et (congrArg (fun q=>jH (bA.abs f) p q) (eD (ls:=d.aj.ls) (i:=J) (by omega))) rfl)
 refine EX (Fg (ER (sr (Mz rfl ?_))))
 have qL:=dm.pf [7]
 obtain⟨I,eu⟩:∃ q,gH p=q:=⟨_,rfl⟩
 obtain⟨wK,mF,uB,mG,uC⟩:=Fu qL
 refine cl Tryz.call15 (oN _ _ n p I mF (by first | omega | (dsimp only; omega) | (simp only [List.length_nil]; omega) | decide) eu) ?_
 rintro _ wL ⟨dU,jw,rfl,mH,jy⟩
 have lg:=mG _ _ mH
 have uD:=lg.rowC (i:=0) rfl
 replace jy:I.length≤p.aB.ls.length:=jy
 refine Kz (vJ I.length) (Mn rfl (bo ?_))
 have qM:=lg.pf []
 obtain⟨qN,eB⟩:=l8 fun(Q:Nat) (w':World)=>Own w D w' [row dU I.length jw (List.flatMap (eN .u64) I) 28 1,iF n p,blk r (bA.cells f) 42,blk S [vI d.au,vU d.ay,vU d.aY,vU d.aH, .slice T d.ag.ls.length U, .slice G d.aj.ls.length L, .slice V d.aG.ls.length W] 33,row T d.ag.ls.length U (List.flatMap bv.cells d.ag.ls) 89 2,row G d.aj.ls.length L (List.flatMap az.cells cu) 60 5,sepL (List.flatMap az.own cu),row V d.aG.ls.length W (List.flatMap aX.cells df) 56 4,sepL (List.flatMap aX.own df),blk F [.slice z h.length O, .bool dH] 47,blk C (gz.cells a) 44,row z h.length O (List.flatMap bA.cells ag) 42 21,sepL (List.flatMap bA.own ag)]∧Q≤I.length∧jI (bA.abs f) I=jI (bA.abs f) (List.drop Q I)
 refine Wp.loop (fun i:Nat=> [(2, .bool false),(106,vJ i),(105,vJ I.length),(104, .slice dU I.length jw),(103,vP n 0),(94, .bool (decide (((J:Nat):Int) < ((d.aj.ls.length:Nat):Int)))),(93,vJ J),(92,vJ d.aj.ls.length),(91, .slice G d.aj.ls.length L),(90,vP S 5),(6,vU f.cz),(89,vU f.cz),(88,vP r 9),(87, .bool (decide (((f.cz:Nat):Int) > ((f.bf:Nat):Int)))),(86, .bool (decide (((f.cz:Nat):Int) > ((f.bf:Nat):Int)))),(85,vU f.bf),(84,vP r 8),(83,vU f.cz),(82,vP r 9),(81, .bool (decide (((f.cz:Nat):Int) < ((u:Nat):Int)))),(80, .bool (decide (((f.cz:Nat):Int) < ((u:Nat):Int)))),(79,vU u),(78,vU f.cz),(77,vP r 9),(76, .bool (decide (¬ (f.aI=3)))),(75,vI f.aI),(74,vP r 0),(12,vP r 0),(73, .agg (bA.cells f).toArray),(72, .pointer (some ⟨ab z,ao z+s *21,none⟩)),(71, .bool (decide (((s:Nat):Int) < ((h.length:Nat):Int)))),(70,vJ s),(69,vJ h.length),(68, .slice z h.length O),(67,vP F 0),(10,vP S 0),(66, .agg #[vI d.au,vU d.ay,vU d.aY,vU d.aH, .slice T d.ag.ls.length U, .slice G d.aj.ls.length L, .slice V d.aG.ls.length W]),(65,vP n 0),(48, .bool (decide (a.kR=0))),(49, .bool (decide (a.kR=0))),(47,vI a.kR),(46,vP C 0),(9,vP F 0),(45, .agg #[.slice none 0 0, .bool false]),(8,vP C 0),(44, .agg (gz.cells a).toArray),(43, .pointer (some ⟨ab A0,ao A0+l *25,none⟩)),(42, .bool (decide (((l:Nat):Int) < ((l0.length:Nat):Int)))),(41,vJ l),(40,vJ l0.length),(39, .slice A0 l0.length c0),(4,vP n 0),(3, .bool P)]) qN (fun i=>I.length - i) 0 ⟨rfl,rfl,rfl,rfl,rfl,rfl,rfl,rfl,rfl,rfl,rfl,rfl,rfl,rfl,rfl,rfl,rfl,rfl,rfl,rfl,rfl,rfl,rfl,rfl,rfl,rfl,rfl,rfl,rfl,rfl,rfl,rfl,rfl,rfl,rfl,rfl,rfl,rfl,rfl,rfl,rfl,rfl,rfl,rfl,rfl,rfl,rfl,rfl,rfl,rfl,rfl,rfl,rfl,trivial⟩ (eB.2 ⟨qM,by omega,rfl⟩) ?_
 rintro Q wM mI
 show Wp _ _ _ [(2, .bool false),(106,vJ Q),(105,vJ I.length),(104, .slice dU I.length jw),(103,vP n 0),(94, .bool (decide (((J:Nat):Int) < ((d.aj.ls.length:Nat):Int)))),(93,vJ J),(92,vJ d.aj.ls.length),(91, .slice G d.aj.ls.length L),(90,vP S 5),(6,vU f.cz),(89,vU f.cz),(88,vP r 9),(87, .bool (decide (((f.cz:Nat):Int) > ((f.bf:Nat):Int)))),(86, .bool (decide (((f.cz:Nat):Int) > ((f.bf:Nat):Int)))),(85,vU f.bf),(84,vP r 8),(83,vU f.cz),(82,vP r 9),(81, .bool (decide (((f.cz:Nat):Int) < ((u:Nat):Int)))),(80, .bool (decide (((f.cz:Nat):Int) < ((u:Nat):Int)))),(79,vU u),(78,vU f.cz),(77,vP r 9),(76, .bool (decide (¬ (f.aI=3)))),(75,vI f.aI),(74,vP r 0),(12,vP r 0),(73, .agg (bA.cells f).toArray),(72, .pointer (some ⟨ab z,ao z+s *21,none⟩)),(71, .bool (decide (((s:Nat):Int) < ((h.length:Nat):Int)))),(70,vJ s),(69,vJ h.length),(68, .slice z h.length O),(67,vP F 0),(10,vP S 0),(66, .agg #[vI d.au,vU d.ay,vU d.aY,vU d.aH, .slice T d.ag.ls.length U, .slice G d.aj.ls.length L, .slice V d.aG.ls.length W]),(65,vP n 0),(48, .bool (decide (a.kR=0))),(49, .bool (decide (a.kR=0))),(47,vI a.kR),(46,vP C 0),(9,vP F 0),(45, .agg #[.slice none 0 0, .bool false]),(8,vP C 0),(44, .agg (gz.cells a).toArray),(43, .pointer (some ⟨ab A0,ao A0+l *25,none⟩)),(42, .bool (decide (((l:Nat):Int) < ((l0.length:Nat):Int)))),(41,vJ l),(40,vJ l0.length),(39, .slice A0 l0.length c0),(4,vP n 0),(3, .bool P)] _ _
 obtain⟨cB,uF,eF⟩:=eB.1 mI
 refine sr (Kz (.bool (decide (((Q:Nat):Int) < ((I.length:Nat):Int)))) (nt (EP ?_)))
 by_cases lh:((Q:Nat):Int) < ((I.length:Nat):Int)
 obtain⟨jA,jB⟩:=dK (ls:=I) (i:=Q) nV (by decide) (cB.rds (i:=0) rfl) (by first | omega | (simp; done) | (simp; omega))
 have jC:=drop_at jB
 refine jT (dT lh) (sk (EP (bo (sr (fw (.pointer (some ⟨ab dU,ao dU+Q *1,none⟩)) (ET (sO) rfl rfl ((cB.rds (i:=0) rfl).addr (i:=Q) (by omega)) (by omega)) (fw (vU jA) (EY rfl (bZ.one Tryz.isAgg28 (((cB.rds (i:=0) rfl).elem nV jB (by decide)).at_ (k:=0) rfl))) (Ar rfl (Mz rfl (Kz (vP r 9) (Lz (vU f.cz) cB 2 Tryz.isAgg28 (Kz (.bool (decide (((jA:Nat):Int) < ((f.cz:Nat):Int)))) (nt ?_))))))))))))
 by_cases gW:((jA:Nat):Int) < ((f.cz:Nat):Int)
 refine jT (dT gW) (sr (An rfl (rt (bR (tR (tR (bR (bR (tR (tR (bR (bR (tR (tR (bR (tR (rs ?_)))))))))))))))))
 have qO:=cB.pk []
 obtain rfl:_=false:=hr.symm.trans (et (ai ah) (et (ai aj) (et (ip Z) (et (ai aD) (et (ai aa) (et (iN aG) (iZ (et (aM) (et (congrArg (fun q=>gU P q R b) bg) (et (ai bY) (et (ai aO) (mX (et (aB) (et (congrArg (fun q=>gI p d q u) aP) (et (ip bf) (et (iN N) (et (iN di) (et (oK jv) (et (ai eu) (mX (et (eF) (et (congrArg (fun q=>jI (bA.abs f) q) jC) (ip gW)))))))))))))))))))))))
 exact⟨rfl,qO⟩
 refine jF (dF gW) (Fs (bN (ER (EO (fw (vJ (Q+1)) (EQ (e:=IntKind.i64.wrap (((Q:Nat):Int)+1)) yk (by rw [IR _ (by omega)]; omega)) (Mz rfl (WL.nil ?_)))))))
 have qP:=cB.pf []
 exact E8 (Q+1) ⟨rfl,rfl,rfl,rfl,rfl,rfl,rfl,rfl,rfl,rfl,rfl,rfl,rfl,rfl,rfl,rfl,rfl,rfl,rfl,rfl,rfl,rfl,rfl,rfl,rfl,rfl,rfl,rfl,rfl,rfl,rfl,rfl,rfl,rfl,rfl,rfl,rfl,rfl,rfl,rfl,rfl,rfl,rfl,rfl,rfl,rfl,rfl,rfl,rfl,rfl,rfl,rfl,rfl,trivial⟩ (eB.2 ⟨qP,by omega,et (eF) (et (congrArg (fun q=>jI (bA.abs f) q) jC) (iN gW))⟩) (by show I.length - (Q+1) < I.length - Q; omega)
 refine jF (dF lh) (Wp.exit (EX ?_))
 have mJ:jI (bA.abs f) I=Sum.inl ():=et (eF) (et (congrArg (fun q=>jI (bA.abs f) q) (eD (ls:=I) (i:=Q) (by omega))) rfl)
 refine EX (Fg (bN (ER (EO (fw (vJ (s+1)) (EQ (e:=IntKind.i64.wrap (((s:Nat):Int)+1)) yk (by rw [IR _ (by omega)]; omega)) (Mz rfl (WL.nil ?_)))))))
 have qQ:=cB.px [] [0,2] [1,9,10,11,12]
 exact E8 (f.cz,s+1) ⟨rfl,rfl,rfl,rfl,rfl,rfl,rfl,rfl,rfl,rfl,rfl,rfl,rfl,rfl,rfl,rfl,rfl,rfl,rfl,rfl,rfl,rfl,rfl,rfl,trivial⟩ (dE.2 ⟨qQ,by omega,et (aB) (et (congrArg (fun q=>gI p d q u) aP) (et (ip bf) (et (iN N) (et (iN di) (et (oK jv) (et (ai eu) (oK mJ)))))))⟩) (by show h.length - (s+1) < h.length - s; omega)
 refine jT (dT bf) (Wp.exit (EX (Fg (ER (EO (fw (vJ (s+1)) (EQ (e:=IntKind.i64.wrap (((s:Nat):Int)+1)) yk (by rw [IR _ (by omega)]; omega)) (Mz rfl (WL.nil ?_))))))))
 have qR:=au.px [] [0] []
 exact E8 (u,s+1) ⟨rfl,rfl,rfl,rfl,rfl,rfl,rfl,rfl,rfl,rfl,rfl,rfl,rfl,rfl,rfl,rfl,rfl,rfl,rfl,rfl,rfl,rfl,rfl,rfl,trivial⟩ (dE.2 ⟨qR,by omega,et (aB) (et (congrArg (fun q=>gI p d q u) aP) (iN bf))⟩) (by show h.length - (s+1) < h.length - s; omega)
 refine jF (dF kZ) (Wp.exit (EX ?_))
 have mK:gI p d h R=Sum.inl u:=et (aB) (et (congrArg (fun q=>gI p d q u) (eD (ls:=h) (i:=s) (by omega))) rfl)
 refine EX (Fg (bN (ER (EO (fw (vJ (l+1)) (EQ (e:=IntKind.i64.wrap (((l:Nat):Int)+1)) yk (by rw [IR _ (by omega)]; omega)) (Mz rfl (WL.nil ?_)))))))
 have qU:=aZ.pk [6]
 exact E8 (u,l+1,p) ⟨rfl,rfl,rfl,rfl,rfl,rfl,rfl,trivial⟩ (dV.2 ⟨qU,by omega,by first | omega | (dsimp only; omega) | exact uz (by assumption) (by assumption),by first | assumption | exact xz (by assumption) (by assumption),Eq.trans (aM) (Eq.trans (congrArg (fun q=>gU P q R b) bg) (Eq.trans (ai bY) (Eq.trans (ai aO) (oK mK))))⟩) (by show l0.length - (l+1) < l0.length - l; omega)
 refine jF (dF jN) (Wp.exit (EX ?_))
 have mM:gU P l0 0 ak=Sum.inl ():=et (aM) (et (congrArg (fun q=>gU P q R b) (eD (ls:=l0) (i:=l) (by omega))) rfl)
 refine EX (Fg (ER (sr (Mz rfl (An rfl (rt (rs ?_)))))))
 have qV:=dG.pk []
 obtain rfl:_=P:=hr.symm.trans (et (ai ah) (et (ai aj) (et (ip Z) (et (ai aD) (et (ai aa) (et (iN aG) (nJ mM)))))))
 exact⟨rfl,qV⟩
 refine Sz (dT Z) (Sz (dT Z) (Sz (dT Z) (fw (.bool true) (Fa rfl (dT Z) rfl) (nt (jt (sr (Az rfl (An rfl (rt (tR (Fin.res (lS rfl rfl rfl) (Mz rfl (Kz (.pointer none) (Kz (vI 1) (Az rfl (An rfl (EP (EP ?_))))))))))))))))))
 have ll:=jE.pk []
 refine EO (Mz rfl (Kz (.bool true) (Mz rfl (Sz rfl (Sz rfl (fw (.bool true) (Fa rfl rfl rfl) (Mz rfl (Sz rfl (Sz rfl (Sz rfl (fw (.bool true) (Fa rfl rfl rfl) (nt (jt (sr (Mz rfl (Mz rfl ?_))))))))))))))))
 rcases IW (P) with aK | aK
 refine FO (v:= .pointer none) rfl rfl aK rfl (E5 rfl) (Gz (.bool false) aK (fw (.bool false) (Fa rfl aK rfl) (An rfl (rt (tR (rs ?_))))))
 have qW:=ll.pk []
 obtain rfl:_=false:=hr.symm.trans (et (ai ah) (et (ai aj) (et (iN Z) (ip aK))))
 exact⟨rfl,qW⟩
 refine Sz aK (Sz aK (fw (.bool false) (ES rfl aK rfl) (An rfl (rt (tR (rs ?_))))))
 have qX:=ll.pk []
 obtain rfl:_=false:=hr.symm.trans (et (ai ah) (et (ai aj) (et (iN Z) (fU aK))))
 exact⟨rfl,qX⟩
end Go.Proofs.YtbkagebjhbphaaaGreat
