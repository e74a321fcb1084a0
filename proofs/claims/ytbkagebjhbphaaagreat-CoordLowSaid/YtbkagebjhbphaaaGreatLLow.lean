/-
 coord: the law CoordLow
-/
import Derived.Test.YtbkagebjhbphaaaGreatLv
namespace Go.Proofs.YtbkagebjhbphaaaGreat
open Int renaming toNat→D2
open IntKind renaming i64→C7,u64→D3
open List renaming drop→r6,flatMap→q6,length→s2,length_map→s6,map→s8,mem_flatMap→O7,mem_of_getElem?→E0,not_mem_nil→B3,toArray→y6
open Ll renaming mk→E4
open Sum renaming inl→C1,inr→C3
open _root_.Go.Proofs.Tryz renaming isAgg28→E1,isAgg3→C6,isAgg33→S2,isAgg42→L9,sizeOf28→M1,sizeOf33→I1,sizeOf42→M0,sizeOf44→T3,sizeOf47→R8
open WL renaming nil→D0
open Wp renaming exit→D1,loop→C5
set_option maxRecDepth 100000
open Go.RowKit
set_option linter.unusedVariables false
set_option linter.unusedSectionVars false
set_option linter.unusedSimpArgs false
def jG (a:bQ) (b:aB):List bL→Unit ⊕ Bool
  | []=>C1 ()
  | c::d=>if((c.bf:Nat):Int) < ((a.di:Nat):Int) then C3 (false) else jG a b d
def jH (a:bQ):List Nat→Unit ⊕ Bool
  | []=>C1 ()
  | b::c=>if((b:Nat):Int) < ((a.di:Nat):Int) then C3 (false) else jH a c
def gI (b:aB) (d:dA):List bQ→Nat→Nat ⊕ Bool
  | [],c=>C1 c
  | a::e,c=>if a.aM=3 then if((a.di:Nat):Int) < ((c:Nat):Int) then C3 (false) else if((a.di:Nat):Int) > ((a.bf:Nat):Int) then C3 (false) else qQ (jG a b d.aj.ls) fun _=>bnd (gG b) fun f=>qQ (jH a f) fun _=>gI b d e a.di else gI b d e c
def gQ (j:Bool):List StepT→Nat→aB→Unit ⊕ Bool
  | [],g,b=>C1 ()
  | a::i,g,b=>bnd (if a.kR=0 then bnd (iG b) fun c=>if a.sW=true then bnd (if((a.aG.bf:Nat):Int)=0 then a.aG.bf else D2 (D3.wrap (((eQ c.ax 32:Nat):Int)+((a.aG.bf % 16:Nat):Int)))) fun sJrbbtbbfLsJjtbtJ=>bnd (if a.aG.aM=1 then c.ax else a.aG.ax) fun sJrbbtbbfLsJjtbtJaJ=>bnd (if a.aG.aM=9 then c.bi else a.aG.bi) fun sJrbbtbbfLsJjtbtJaJaJ=>bnd (if((a.aG.dM:Nat):Int)=0 then a.aG.dM else 0) fun sJrbbtbbfLsJjtbtJaJaJaJ=>bnd (dO b (bQ.mk a.aG.aM a.aG.aP a.aG.fO a.aG.aS a.aG.dJ a.aG.d9 a.aG.aY sJrbbtbbfLsJjtbtJaJ sJrbbtbbfLsJjtbtJ a.aG.di sJrbbtbbfLsJjtbtJaJaJ a.aG.aI sJrbbtbbfLsJjtbtJaJaJaJ a.aG.cZ a.aG.xN a.aG.dY a.aG.bW (E4 a.aG.aD.ls) (E4 a.aG.ai.ls) (E4 a.aG.ag.ls))) fun d=>(d.1.ed.ls,d.2.2) else bnd (dO b (bQ.mk a.aG.aM a.aG.aP a.aG.fO a.aG.aS a.aG.dJ a.aG.d9 a.aG.aY a.aG.ax a.aG.bf a.aG.di a.aG.bi a.aG.aI a.aG.dM a.aG.cZ a.aG.xN a.aG.dY a.aG.bW (E4 a.aG.aD.ls) (E4 a.aG.ai.ls) (E4 a.aG.ag.ls))) fun e=>(e.1.ed.ls,e.2.2) else if a.kR=1 then bnd (je b) fun f=>(f.1.ed.ls,f.2) else([],b)) fun sJrbbtbbfLsJ=>bnd (iG sJrbbtbbfLsJ.2) fun h=>qQ (gI sJrbbtbbfLsJ.2 h sJrbbtbbfLsJ.1 g) fun sLrbbtbbfLsJabL=>gQ j i sLrbbtbbfLsJabL sJrbbtbbfLsJ.2
def su (l0:List StepT):Bool:=
 bnd (uy) fun b=>bnd (iX (dA.mk 2 0 0 1 (E4 ([(bv.mk ([]) 1),(bv.mk ([109]) 2)])) (E4 ([])) (E4 ([])))) fun d=>if d=0 then bnd (jh (dA.mk 2 0 0 1 (E4 ([(bv.mk ([]) 1),(bv.mk ([109]) 2)])) (E4 ([])) (E4 ([])))) fun a=>bnd ((aB.mk (dA.mk a.ak (D2 (D3.wrap (((a.ax:Nat):Int)+1))) (eQ (D2 (D3.wrap (((a.ax:Nat):Int)+1))) 32) a.aI (E4 a.ag.ls) (E4 a.aj.ls) (E4 a.aF.ls)) 0 (E4 ([])) (dV.mk false 0 0 (E4 ([]))) (dV.mk false 0 0 (E4 ([]))) (dV.mk false 0 0 (E4 ([]))) (dV.mk false 0 0 (E4 ([]))) (dV.mk false 0 0 (E4 ([]))) 0 0 0 0 0)) fun c=>if((l0.length:Nat):Int) > 100 then if b=true then true else false else lp (gQ b l0 0 c) fun _=>b else if b=true then false else false
set_option maxHeartbeats 4000000 in
theorem xz (w:World) (D:Nat→Prop) (A0:Option Addr) (n0 c0:Nat) (d0:List fZ) (l0:List StepT) (r0:Bool) (H:Own w D w []) (kV:s8 fZ.abs d0=l0) (jK:Ro w D fun w'=>bD w' 25 A0 n0 (q6 fZ.cells d0)) (aL:∀ x ∈ d0,Ro w D (fun w'=>bD w' 6 x.aG.aD.A x.aG.aD.ls.length (q6 bC.cells x.aG.aD.ls))∧(x.aG.aD.ls.length≤x.aG.aD.c∧x.aG.aD.ls.length≤9223372036854775807)∧Ro w D (fun w'=>bD w' 3 x.aG.ai.A x.aG.ai.ls.length (q6 af.cells x.aG.ai.ls))∧(x.aG.ai.ls.length≤x.aG.ai.c∧x.aG.ai.ls.length≤9223372036854775807)∧(∀ y1 ∈ x.aG.ai.ls,Ro w D (fun w'=>bD w' 2 y1.au.A y1.au.ls.length (q6 aJ.cells y1.au.ls))∧(y1.au.ls.length≤y1.au.c∧y1.au.ls.length≤9223372036854775807))∧Ro w D (fun w'=>bD w' 2 x.aG.ag.A x.aG.ag.ls.length (q6 bv.cells x.aG.ag.ls))∧(x.aG.ag.ls.length≤x.aG.ag.c∧x.aG.ag.ls.length≤9223372036854775807)) (oW:n0=l0.length) (ul:l0.length *272≤211106232532992) (um:l0.length *272≤140737488351232) (oZ:∀ x ∈ l0,x.aG.aY≤18446744073709551615∧x.aG.aD.ls.length≤140737488351232∧x.aG.ai.ls.length≤140737488351232∧x.aG.ag.ls.length≤140737488351232) (hr:su l0=r0):
    Calls Tryz.prog 4 #[.slice A0 n0 c0] w (dS fun v w'=>v= .bool r0∧Own w D w' []):=by
 subst oW
 have rE:=az kV
 refine cb Tryz.func4 ?_
 refine sr (Ar rfl ?_)
 obtain⟨M,aa⟩:∃ q,uy=q:=⟨_,rfl⟩
 obtain⟨uo,kW,rF,kX,rG⟩:=EU H
 refine cl Tryz.call7 (zR _ _ M kW aa) ?_
 rintro _ uq ⟨rfl,kY⟩
 have o5:=kX _ _ kY
 refine Ar rfl ?_
 refine WL.do rfl (Fe Tryz.call9 rfl ?_ (fun _ _ k=>k))
 refine cb Tryz.func9 ?_
 refine sr ?_
 refine dK [vI 0, .int .u64 0, .int .u64 0, .int .u64 0, .slice none 0 0, .slice none 0 0, .slice none 0 0] 33 o5 ?_
 intro ut uu o6
 refine ns (Kz (.agg #[.string ⟨y6 ([])⟩,vI 1]) (Kz (.agg #[.string ⟨y6 ([109])⟩,vI 2]) ?_))
 refine kG [.string ⟨y6 ([])⟩,vI 1, .string ⟨y6 ([109])⟩,vI 2] 89 2 2 o6 ?_
 intro dI uz jM
 replace jM:=Fx (y:=row dI 2 2 (q6 bv.cells ([(bv.mk ([]) 1),(bv.mk ([109]) 2)])) 89 2) rfl jM
 refine Kz (.agg #[vI 2, .int .u64 0, .int .u64 0, .int .u64 1, .slice dI 2 2, .slice none 0 0, .slice none 0 0]) ?_
 have o7:=jM.pb [0]
 refine dN [vI 2, .int .u64 0, .int .u64 0, .int .u64 1, .slice dI 2 2, .slice none 0 0, .slice none 0 0] 0 o7 I1 ?_
 intro uA kZ
 refine nt (rt (Fin.res (mP rfl rfl (Fb (cs:= [vI 2, .int .u64 0, .int .u64 0, .int .u64 1, .slice dI 2 2, .slice none 0 0, .slice none 0 0]) S2 I1 ((kZ.cls (i:=0) rfl).lit (k:=0) (m:=7) rfl))) ?_))
 refine WL.do rfl (Fe Tryz.call8 rfl ?_ (fun _ _ k=>k))
 refine cb Tryz.func8 ?_
 refine EP ?_
 have o8:=kZ.pk [1]
 refine EO ?_
 refine dK [vI 2, .int .u64 0, .int .u64 0, .int .u64 1, .slice dI 2 2, .slice none 0 0, .slice none 0 0] 33 o8 ?_
 intro o9 uB lc
 refine Az rfl (An rfl (EP (sr (La ([vI 2, .int .u64 0, .int .u64 0, .int .u64 1, .slice dI 2 2, .slice none 0 0, .slice none 0 0]) lc 0 S2 I1 ?_))))
 obtain⟨iF,ae⟩:∃ q,iX (dA.mk 2 0 0 1 (E4 ([(bv.mk ([]) 1),(bv.mk ([109]) 2)])) (E4 ([])) (E4 ([])))=q:=⟨_,rfl⟩
 obtain⟨uD,lg,rH,lh,ll⟩:=EU lc
 refine cl Tryz.call19 (nM _ _ (dA.mk 2 0 0 1 (E4 ([(bv.mk ([]) 1),(bv.mk ([109]) 2)])) (E4 ([])) (E4 ([]))) dI 2 2 none 0 0 [] none 0 0 [] iF lg rfl (ll _ 1 _ rfl aT) f2 rfl rfl (fun _ _=>bD.nil _ _ _) f2 (fun _ h9=>absurd h9 B3) rfl rfl (fun _ _=>bD.nil _ _ _) f2 (fun _ h9=>absurd h9 B3) e8 ae) ?_
 rintro _ uE ⟨rfl,lm⟩
 have iH:=lh _ _ lm
 refine fw (.bool (decide (¬ (iF=0)))) (Fs (e:= !(decide (iF=0))) yk decide_not.symm) (Mz rfl ?_)
 by_cases W:iF=0
 refine gw (vP o9 1) (dF (IV W)) yk (gw (.int .u64 0) (dF (IV W)) (EY rfl (bZ.one E1 (FE (iH.cls (i:=0) rfl) rfl))) (gw (.bool false) (dF (IV W)) yk (fw (.bool false) (ES rfl (dF (IV W)) rfl) (nt (jf (sk (sr (La ([vI 2, .int .u64 0, .int .u64 0, .int .u64 1, .slice dI 2 2, .slice none 0 0, .slice none 0 0]) iH 0 S2 I1 ?_))))))))
 obtain⟨s,aD⟩:∃ q,jh (dA.mk 2 0 0 1 (E4 ([(bv.mk ([]) 1),(bv.mk ([109]) 2)])) (E4 ([])) (E4 ([])))=q:=⟨_,rfl⟩
 obtain⟨uF,lq,rJ,lu,lv⟩:=EU iH
 refine cl Tryz.call20 (oh _ _ (dA.mk 2 0 0 1 (E4 ([(bv.mk ([]) 1),(bv.mk ([109]) 2)])) (E4 ([])) (E4 ([]))) dI 2 2 none 0 0 [] none 0 0 [] s lq rfl (lv _ 1 _ rfl aT) f2 rfl rfl (fun _ _=>bD.nil _ _ _) f2 (fun _ h9=>absurd h9 B3) rfl rfl (fun _ _=>bD.nil _ _ _) f2 (fun _ h9=>absurd h9 B3) e8 (by first | assumption | exact zH f5 | exact fun _ h9=>absurd h9 B3) (by first | assumption | exact zI f5 | exact fun _ h9=>absurd h9 B3) aD) ?_
 rintro _ uG ⟨lw,lC,lD,lF,lG,lH,uH,uI,rfl,lI,iJ,iK⟩
 have iI:=lu _ _ lI
 have rM:=az iJ
 have rO:=az iK
 have rP:=iI.rowC (i:=0) rfl
 have rQ:=iI.rowC (i:=1) rfl
 have rR:=iI.rowC (i:=3) rfl
 have rT:s.ag.ls.length=2∧s.ak=2∧s.aj.ls.length=0∧s.aF.ls.length=0:=AA aD
 refine Kz (.agg #[vI s.ak,vU s.ax,vU s.bi,vU s.aI, .slice lw s.ag.ls.length lC, .slice lD s.aj.ls.length lF, .slice lG s.aF.ls.length lH, .int .u64 0, .slice none 0 0, .bool false, .int .u64 0,vI 0, .slice none 0 0, .bool false, .int .u64 0,vI 0, .slice none 0 0, .bool false, .int .u64 0,vI 0, .slice none 0 0, .bool false, .int .u64 0,vI 0, .slice none 0 0, .bool false, .int .u64 0,vI 0, .slice none 0 0, .int .u64 0, .int .u64 0, .int .u64 0, .int .u64 0, .int .u64 0, .pointer none]) ?_
 refine dK [vI s.ak,vU s.ax,vU s.bi,vU s.aI, .slice lw s.ag.ls.length lC, .slice lD s.aj.ls.length lF, .slice lG s.aF.ls.length lH, .int .u64 0, .slice none 0 0, .bool false, .int .u64 0,vI 0, .slice none 0 0, .bool false, .int .u64 0,vI 0, .slice none 0 0, .bool false, .int .u64 0,vI 0, .slice none 0 0, .bool false, .int .u64 0,vI 0, .slice none 0 0, .bool false, .int .u64 0,vI 0, .slice none 0 0, .int .u64 0, .int .u64 0, .int .u64 0, .int .u64 0, .int .u64 0, .pointer none] 86 iI ?_
 intro n uJ pq
 refine An rfl (EP ?_)
 have lJ:=pq.px [] [6] []
 refine EO (Mz rfl (Kz (vP n 0) (Kz (vP n 0) (Kz (vP n 1) (Lz (vU s.ax) lJ 0 E1 (fw (.int .u64 ((D2 (D3.wrap (((s.ax:Nat):Int)+1)):Nat):Int)) (EQ (e:=D3.wrap (((s.ax:Nat):Int)+1)) yk (fe _)) (Kz (vP n 0) (Kz (vP n 0) (Kz (vP n 1) ?_)))))))))
 refine dN [.int .u64 ((D2 (D3.wrap (((s.ax:Nat):Int)+1)):Nat):Int)] 1 lJ M1 ?_
 intro uK lL
 refine ns (Mz rfl (Mz rfl (Kz (vP n 0) (Kz (vP n 0) (Kz (vP n 1) (Lz (.int .u64 ((D2 (D3.wrap (((s.ax:Nat):Int)+1)):Nat):Int)) lL 0 E1 ?_))))))
 have rU:eQ (D2 (D3.wrap (((s.ax:Nat):Int)+1))) 32≤18446744073709551615:=oC _ _
 refine fw (.int .u64 ((eQ (D2 (D3.wrap (((s.ax:Nat):Int)+1))) 32:Nat):Int)) (EQ (Gm (m:=32) rfl rfl) (fe _)) (Kz (vP n 0) (Kz (vP n 0) (Kz (vP n 2) ?_)))
 refine dN [.int .u64 ((eQ (D2 (D3.wrap (((s.ax:Nat):Int)+1))) 32:Nat):Int)] 2 lL M1 ?_
 intro aF pu
 refine ns (Mz rfl (Az rfl (An rfl (rt (Fin.res (lT rfl rfl rfl) ?_)))))
 have pz:Own w D aF (sepL (q6 bB.own ([]))::_):=pu.sepNil
 have pE:Own w D aF (row none 0 0 (q6 bB.cells ([])) 107 9::_):=pz.free (eZ 107 9)
 have pF:Own w D aF (sepL (q6 af.own ([]))::_):=pE.sepNil
 have pG:Own w D aF (row none 0 0 (q6 af.cells ([])) 149 3::_):=pF.free (eZ 149 3)
 have pI:Own w D aF (sepL (q6 af.own ([]))::_):=pG.sepNil
 have pJ:Own w D aF (row none 0 0 (q6 af.cells ([])) 149 3::_):=pI.free (eZ 149 3)
 have pK:Own w D aF (sepL (q6 af.own ([]))::_):=pJ.sepNil
 have pM:Own w D aF (row none 0 0 (q6 af.cells ([])) 149 3::_):=pK.free (eZ 149 3)
 have pO:Own w D aF (sepL (q6 af.own ([]))::_):=pM.sepNil
 have pQ:Own w D aF (row none 0 0 (q6 af.cells ([])) 149 3::_):=pO.free (eZ 149 3)
 have lM:Own w D aF (sepL (q6 af.own ([]))::_):=pQ.sepNil
 have lN:Own w D aF (row none 0 0 (q6 af.cells ([])) 149 3::_):=lM.free (eZ 149 3)
 have lQ:=lN.pf [12,13,14,15,16,17,10,11]
 have lS:Own w D aF (iE n (aB.mk (dA.mk s.ak (D2 (D3.wrap (((s.ax:Nat):Int)+1))) (eQ (D2 (D3.wrap (((s.ax:Nat):Int)+1))) 32) s.aI (E4 s.ag.ls) (E4 s.aj.ls) (E4 s.aF.ls)) 0 (E4 ([])) (dV.mk false 0 0 (E4 ([]))) (dV.mk false 0 0 (E4 ([]))) (dV.mk false 0 0 (E4 ([]))) (dV.mk false 0 0 (E4 ([]))) (dV.mk false 0 0 (E4 ([]))) 0 0 0 0 0)::_):=fo iJ iK rfl rfl rfl rfl rfl rfl lQ
 obtain⟨ag,X⟩:∃ q,(aB.mk (dA.mk s.ak (D2 (D3.wrap (((s.ax:Nat):Int)+1))) (eQ (D2 (D3.wrap (((s.ax:Nat):Int)+1))) 32) s.aI (E4 s.ag.ls) (E4 s.aj.ls) (E4 s.aF.ls)) 0 (E4 ([])) (dV.mk false 0 0 (E4 ([]))) (dV.mk false 0 0 (E4 ([]))) (dV.mk false 0 0 (E4 ([]))) (dV.mk false 0 0 (E4 ([]))) (dV.mk false 0 0 (E4 ([]))) 0 0 0 0 0)=q:=⟨_,rfl⟩
 have lU:Own w D aF [iE n ag,row dI 2 2 (q6 bv.cells ([(bv.mk ([]) 1),(bv.mk ([109]) 2)])) 89 2]:=by rw [← X]; exact lS
 have pR:Mk ag:=xy f5 f5
 have pU:ag.aa.ag.ls.length≤1000∧ag.aa.ak≤4∧ag.aA.ls.length+ag.aa.aj.ls.length≤8∧ag.aa.aF.ls.length≤0:=uw f5 f5
 refine Mz rfl (Kz (vP n 0) (Kz (vI 0) (Az rfl (An rfl (EP (EP ?_))))))
 have fQ:=lU.pk [0]
 refine EO (Mz rfl (Kz (.bool false) (Mz rfl (gw (vI 0) rfl (E5 rfl) (Gz (.bool false) rfl (fw (.bool false) (ES rfl rfl rfl) (Mz rfl (gw (.slice A0 l0.length c0) rfl (E5 rfl) (Gz (vJ l0.length) rfl (Gz (.bool (decide (((l0.length:Nat):Int) > 100))) rfl (fw (.bool (decide (((l0.length:Nat):Int) > 100))) (ES rfl rfl rfl) (nt ?_))))))))))))
 by_cases aG:((l0.length:Nat):Int) > 100
 refine jT (dT aG) (sr (Mz rfl (Mz rfl ?_)))
 rcases IW (M) with aH | aH
 refine FP (v:=vP n 0) rfl rfl aH rfl (E5 rfl) (Gz (.bool true) aH (fw (.bool true) (Fa rfl aH rfl) (An rfl (rt (tR (rs ?_))))))
 have lV:=fQ.pk []
 obtain rfl:_=true:=hr.symm.trans (et (ah aa) (et (ah ae) (et (ip W) (et (ah aD) (et (ah X) (et (ip aG) (ip aH)))))))
 exact⟨rfl,lV⟩
 refine Sz aH (Sz aH (fw (.bool false) (ES rfl aH rfl) (An rfl (rt (tR (rs ?_))))))
 have lW:=fQ.pk []
 obtain rfl:_=false:=hr.symm.trans (et (ah aa) (et (ah ae) (et (ip W) (et (ah aD) (et (ah X) (et (ip aG) (fU aH)))))))
 exact⟨rfl,lW⟩
 refine jF (dF aG) (sk (sr (An rfl (EP (sr (Mz rfl (Kz (vJ l0.length) (Mn rfl (bo ?_)))))))))
 have lX:=fQ.pf []
 obtain⟨lY,eu⟩:=qo fun(O:Nat) (j:Nat) (b:aB) (w':World)=>Own w D w' [iE n b]∧j≤l0.length∧(b.aa.ag.ls.length≤1000∧b.aa.ak≤4∧b.aA.ls.length+b.aa.aj.ls.length≤8∧b.aa.aF.ls.length≤j)∧Mk b∧gQ M l0 0 ag=gQ M (r6 j l0) O b
 refine C5 (fun i:Nat × Nat × aB=> [(2, .bool false),(6,vU i.1),(41,vJ i.2.1),(40,vJ l0.length),(39, .slice A0 l0.length c0),(4,vP n 0),(3, .bool M)]) lY (fun i=>l0.length - i.2.1) (0,0,ag) ⟨rfl,rfl,rfl,rfl,rfl,rfl,rfl,trivial⟩ (eu.2 ⟨lX,e6,by first | omega | (dsimp only; omega) | exact uw f5 f5,by first | assumption | exact xy f5 f5,rfl⟩) ?_
 rintro ⟨O,j,b⟩ rV jN
 obtain⟨dX,pV,pW,pX,aM⟩:=eu.1 jN
 refine sr (Kz (.bool (decide (((j:Nat):Int) < ((l0.length:Nat):Int)))) (nt (EP ?_)))
 by_cases iL:((j:Nat):Int) < ((l0.length:Nat):Int)
 obtain⟨a,E⟩:=dG (ls:=d0) (i:=j) fZ.len f3 (dX.ro jK) e9
 have fT:=eP kV E
 have pY:=(aL _ (E0 E)).2.1
 have p8:=(aL _ (E0 E)).2.2.2.1
 have p9:s2 (s8 af.abs a.aG.ai.ls)=a.aG.ai.ls.length:=s6 ..
 have qa:=(aL _ (E0 E)).2.2.2.2.2.2
 have qb:a.aG.aY≤18446744073709551615∧a.aG.aD.ls.length≤140737488351232∧a.aG.ai.ls.length≤140737488351232∧a.aG.ag.ls.length≤140737488351232:=by have q:=oZ _ (E0 fT); exact⟨q.1,q.2.1,Nat.le_trans (Nat.le_of_eq (s6 ..).symm) q.2.2.1,q.2.2.2⟩
 have di:=drop_at fT
 refine jT (dT iL) (sk (EP (bo (sr (fw (.pointer (some ⟨ab A0,ao A0+j *25,none⟩)) (ET (Ex) rfl rfl ((dX.ro jK).addr (i:=j) e6) e6) (fw (.agg (fZ.cells a).toArray) (EY rfl (Fb (cs:=(fZ.cells a)) Tryz.isAgg44 T3 ((dX.ro jK).elem fZ.len E f3))) ?_))))))
 refine dK (Ei 0 0 0 0 0 0 0 0 0 0 0 0 0 0 0 0 0 false ([]) ([]) none 0 0 none 0 0 none 0 0 false ([])) 44 dX ?_
 intro z rW lZ
 refine dN (fZ.cells a) 0 lZ T3 ?_
 intro rX l5
 refine ns (Kz (.agg #[.slice none 0 0, .bool false]) ?_)
 refine dK [.slice none 0 0, .bool false] 47 l5 ?_
 intro B rY l6
 refine dN [.slice none 0 0, .bool false] 0 l6 R8 ?_
 intro iM fA
 refine nt (EP (sr (Kz (vP z 0) (Lz (vI a.kR) fA 1 C6 (nt ?_)))))
 obtain⟨l7,dm⟩:=Du fun(u:Option Addr) (L:Nat) (Y:List bA) (h:List bQ) (dY:Bool) (l:aB) (w':World)=>Own w D w' [blk B [.slice u h.length L, .bool dY] 47,blk z (fZ.cells a) 44,iE n l,row u h.length L (q6 bA.cells Y) 42 21,sepL (q6 bA.own Y)]∧s8 bA.abs Y=h∧0≤h.length∧h.length≤9223372036854775807∧(l.aa.ag.ls.length≤1000∧l.aa.ak≤4∧l.aA.ls.length+l.aa.aj.ls.length≤8∧l.aa.aF.ls.length≤b.aa.aF.ls.length+1)∧Mk l∧(if a.kR=0 then bnd (iG b) fun aA=>if a.sW=true then bnd (if((a.aG.bf:Nat):Int)=0 then a.aG.bf else D2 (D3.wrap (((eQ aA.ax 32:Nat):Int)+((a.aG.bf % 16:Nat):Int)))) fun sJrbbtbbfLsJjtbtJ=>bnd (if a.aG.aM=1 then aA.ax else a.aG.ax) fun sJrbbtbbfLsJjtbtJaJ=>bnd (if a.aG.aM=9 then aA.bi else a.aG.bi) fun sJrbbtbbfLsJjtbtJaJaJ=>bnd (if((a.aG.dM:Nat):Int)=0 then a.aG.dM else 0) fun sJrbbtbbfLsJjtbtJaJaJaJ=>bnd (dO b (bQ.mk a.aG.aM a.aG.aP a.aG.fO a.aG.aS a.aG.dJ a.aG.d9 a.aG.aY sJrbbtbbfLsJjtbtJaJ sJrbbtbbfLsJjtbtJ a.aG.di sJrbbtbbfLsJjtbtJaJaJ a.aG.aI sJrbbtbbfLsJjtbtJaJaJaJ a.aG.cZ a.aG.xN a.aG.dY a.aG.bW (E4 a.aG.aD.ls) (E4 (s8 af.abs a.aG.ai.ls)) (E4 a.aG.ag.ls))) fun dn=>(dn.1.ed.ls,dn.2.2) else bnd (dO b (bQ.mk a.aG.aM a.aG.aP a.aG.fO a.aG.aS a.aG.dJ a.aG.d9 a.aG.aY a.aG.ax a.aG.bf a.aG.di a.aG.bi a.aG.aI a.aG.dM a.aG.cZ a.aG.xN a.aG.dY a.aG.bW (E4 a.aG.aD.ls) (E4 (s8 af.abs a.aG.ai.ls)) (E4 a.aG.ag.ls))) fun dw=>(dw.1.ed.ls,dw.2.2) else if a.kR=1 then bnd (je b) fun dx=>(dx.1.ed.ls,dx.2) else([],b))=(h,l)
 refine FK (fun i:(Option Addr) × Nat × (List bA) × (List bQ) × Bool × aB=> [(48, .bool (decide (a.kR=0))),(49, .bool (decide (a.kR=0))),(47,vI a.kR),(46,vP z 0),(9,vP B 0),(45, .agg #[.slice none 0 0, .bool false]),(8,vP z 0),(44, .agg (fZ.cells a).toArray),(43, .pointer (some ⟨ab A0,ao A0+j *25,none⟩)),(42, .bool (decide (((j:Nat):Int) < ((l0.length:Nat):Int)))),(2, .bool false),(6,vU O),(41,vJ j),(40,vJ l0.length),(39, .slice A0 l0.length c0),(4,vP n 0),(3, .bool M)]) l7 ?_ ?_
 refine bo (sr (Kz (.bool (decide (a.kR=0))) (An rfl ?_)))
 by_cases dL:a.kR=0
 refine jT (dT dL) ?_
 have l8:=fA.pf [1]
 refine uC [] (bP.block (E9 (bP.block (E9 (E9 (bP.block (E9 Fp))))))) l8 ?_
 intro rZ l9
 refine qv 0 rfl rfl (qt (v:= .agg (fZ.cells a).toArray) 1 rfl (fun _ ⟨_,H9⟩=>EY rfl (Fb (cs:=(fZ.cells a)) Tryz.isAgg44 T3 ((H9.cls (i:=0) rfl).lit (k:=0) (m:=25) rfl))) (qv 2 rfl rfl (qv 4 rfl rfl ?_)))
 have ma:=l9.pf [2]
 obtain⟨g,eB⟩:∃ q,iG b=q:=⟨_,rfl⟩
 obtain⟨r9,jO,qc,jP,qf⟩:=Fu ma
 refine qd 3 rfl (Fe Tryz.call11 rfl (pg _ _ n b g jO e8 f5 eB) ?_)
 rintro _ si ⟨aP,aQ,aR,aS,aU,aW,aX,aY,rfl,jQ,jR,jS⟩
 have fB:=jP _ _ jQ
 have qg:=az jR
 have qh:=az jS
 have qi:=fB.rowC (i:=0) rfl
 have qj:=fB.rowC (i:=1) rfl
 have ql:=fB.rowC (i:=3) rfl
 have iO:=fB.pf [6]
 refine⟨.inr ⟨_,iO⟩, ?_⟩
 refine GX.do 5 rfl e7 (Fe Tryz.call12 rfl ?_ (fun _ _ k=>k))
 refine cb Tryz.func12 ?_
 refine sr (An rfl (EP (EP ?_)))
 have mf:=iO.pf [6]
 obtain⟨aZ,bf,bg,bi,bq,bu,bE,bF,bG,bH,bI,bJ,bK,bL,bM,bO,bS,bT,bU,bV,bW,bX,bY,cu,cz,cB,fV,gm,gp,gq,gu,gy,gz,gB,qm,iP⟩:=jJ mf
 refine EO (Mz rfl (Kz (vP n 0) (Kz (vP n 34) (Lz (.pointer none) iP 0 Tryz.isAgg84 (Kz (.bool true) (nt (jt (sr (An rfl (rt (tR (rs ?_))))))))))))
 have iQ:=iP.pf [18]
 refine⟨.inr ⟨_,iQ⟩, ?_⟩
 refine GX.do 6 rfl e7 (Fe Tryz.call10 rfl ?_ (fun _ _ k=>k))
 refine cb Tryz.func10 ?_
 refine sr ?_
 refine dK (fZ.cells a) 44 iQ ?_
 intro iR sj mg
 refine dK [vI g.ak,vU g.ax,vU g.bi,vU g.aI, .slice aP g.ag.ls.length aQ, .slice aR g.aj.ls.length aS, .slice aU g.aF.ls.length aW] 33 mg ?_
 intro ai sw mh
 refine dK (gH 0 0 0 0 0 0 0 0 0 0 0 0 0 0 0 false ([]) ([]) none 0 0 none 0 0 none 0 0) 42 mh ?_
 intro U sD iT
 refine ns (Kz (vP iR 2) (La (bA.cells a.aG) iT 2 L9 M0 ?_))
 refine dK (gH 0 0 0 0 0 0 0 0 0 0 0 0 0 0 0 false ([]) ([]) none 0 0 none 0 0 none 0 0) 42 iT ?_
 intro C sF mi
 refine dN (bA.cells a.aG) 0 mi M0 ?_
 intro sG gD
 refine nt (EP (sr (Kz (vP iR 23) (Lz (.bool a.sW) gD 3 Tryz.isAgg4 (Kz (.bool (!a.sW)) (nt ?_))))))
 rcases IW (a.sW) with dZ | dZ
 refine jF (cn dZ) (sk (EP (EP ?_)))
 have d9:=gD.px [] [3] []
 refine EO (Kz (vP C 8) (Lz (vU a.aG.bf) d9 0 E1 (fw (.bool (decide (¬ (((a.aG.bf:Nat):Int)=0)))) (Fs (e:= !(decide (((a.aG.bf:Nat):Int)=0))) yk decide_not.symm) (nt ?_))))
 obtain⟨mo,eF⟩:=lK fun(Z:Nat) (w':World)=>Own w D w' [blk C [vI a.aG.aM,vI a.aG.aP,vI a.aG.fO,vI a.aG.aS,vI a.aG.dJ,vI a.aG.d9,vU a.aG.aY,vU a.aG.ax,vU Z,vU a.aG.di,vU a.aG.bi,vU a.aG.aI,vU a.aG.dM,vU a.aG.cZ,vU a.aG.xN, .bool a.aG.dY, .string ⟨y6 a.aG.bW.bJ⟩, .string ⟨y6 a.aG.bW.bX⟩, .slice a.aG.aD.A a.aG.aD.ls.length a.aG.aD.c, .slice a.aG.ai.A a.aG.ai.ls.length a.aG.ai.c, .slice a.aG.ag.A a.aG.ag.ls.length a.aG.ag.c] 42,blk U (gH 0 0 0 0 0 0 0 0 0 0 0 0 0 0 0 false ([]) ([]) none 0 0 none 0 0 none 0 0) 42,blk ai [vI g.ak,vU g.ax,vU g.bi,vU g.aI, .slice aP g.ag.ls.length aQ, .slice aR g.aj.ls.length aS, .slice aU g.aF.ls.length aW] 33,blk z (fZ.cells a) 44,blk n [vI b.aa.ak,vU b.aa.ax,vU b.aa.bi,vU b.aa.aI, .slice aZ b.aa.ag.ls.length bf, .slice bg b.aa.aj.ls.length bi, .slice bu b.aa.aF.ls.length bE,vU b.bH, .slice bG b.aA.ls.length bH, .bool b.aQ.aR,vU b.aQ.aH,vI b.aQ.aZ, .slice bJ b.aQ.ae.ls.length bK, .bool b.aO.aR,vU b.aO.aH,vI b.aO.aZ, .slice bM b.aO.ae.ls.length bO, .bool b.aL.aR,vU b.aL.aH,vI b.aL.aZ, .slice bT b.aL.ae.ls.length bU, .bool b.aN.aR,vU b.aN.aH,vI b.aN.aZ, .slice bW b.aN.ae.ls.length bX, .bool b.aK.aR,vU b.aK.aH,vI b.aK.aZ, .slice cu b.aK.ae.ls.length cz,vU b.df,vU b.cu,vU b.cz,vU b.cB,vU b.cK, .pointer none] 86,blk B [.slice none 0 0, .bool false] 47,row aZ b.aa.ag.ls.length bf (q6 bv.cells b.aa.ag.ls) 89 2,row bg b.aa.aj.ls.length bi (q6 ay.cells bq) 60 5,sepL (q6 ay.own bq),row bu b.aa.aF.ls.length bE (q6 aV.cells bF) 56 4,sepL (q6 aV.own bF),row bG b.aA.ls.length bH (q6 bB.cells bI) 107 9,sepL (q6 bB.own bI),row bJ b.aQ.ae.ls.length bK (q6 af.cells bL) 149 3,sepL (q6 af.own bL),row bM b.aO.ae.ls.length bO (q6 af.cells bS) 149 3,sepL (q6 af.own bS),row bT b.aL.ae.ls.length bU (q6 af.cells bV) 149 3,sepL (q6 af.own bV),row bW b.aN.ae.ls.length bX (q6 af.cells bY) 149 3,sepL (q6 af.own bY),row cu b.aK.ae.ls.length cz (q6 af.cells cB) 149 3,sepL (q6 af.own cB),row aP g.ag.ls.length aQ (q6 bv.cells g.ag.ls) 89 2,row aR g.aj.ls.length aS (q6 ay.cells aX) 60 5,sepL (q6 ay.own aX),row aU g.aF.ls.length aW (q6 aV.cells aY) 56 4,sepL (q6 aV.own aY)]∧(if((a.aG.bf:Nat):Int)=0 then a.aG.bf else D2 (D3.wrap (((eQ g.ax 32:Nat):Int)+((a.aG.bf % 16:Nat):Int))))=Z
 refine FK (fun i:Nat=> [(7,vP C 0),(6,vP U 0),(4,vP ai 0),(2, .int .u64 0)]) mo ?_ ?_
 by_cases fC:((a.aG.bf:Nat):Int)=0
 refine jF (dF (IV fC)) (Fq ?_)
 have mq:=d9.pf [0,1,2,3,4,27]
 exact FD a.aG.bf ⟨rfl,rfl,rfl,rfl,trivial⟩ (eF.2 ⟨mq,ip fC⟩)
 refine jT (dT fC) (EO (Kz (vP ai 1) (Lz (vU g.ax) d9 2 E1 ?_)))
 have qp:eQ g.ax 32≤18446744073709551615:=oC _ _
 refine fw (vU (eQ g.ax 32)) (EQ (Gm (m:=32) rfl rfl) (fe _)) (Kz (vP C 8) (Lz (vU a.aG.bf) d9 0 E1 (fw (vU (a.aG.bf % 16)) (EQ (e:=Int.tmod ((a.aG.bf:Nat):Int) 16) yk (Eg _ _)) (fw (.int .u64 ((D2 (D3.wrap (((eQ g.ax 32:Nat):Int)+((a.aG.bf % 16:Nat):Int))):Nat):Int)) (EQ (e:=D3.wrap (((eQ g.ax 32:Nat):Int)+((a.aG.bf % 16:Nat):Int))) yk (fe _)) (Kz (vP C 8) ?_)))))
 refine dN [.int .u64 ((D2 (D3.wrap (((eQ g.ax 32:Nat):Int)+((a.aG.bf % 16:Nat):Int))):Nat):Int)] 8 d9 M1 ?_
 intro sH mr
 refine D0 ?_
 have mD:=mr.pf [0,1,2,3,4,27]
 exact FD (D2 (D3.wrap (((eQ g.ax 32:Nat):Int)+((a.aG.bf % 16:Nat):Int)))) ⟨rfl,rfl,rfl,rfl,trivial⟩ (eF.2 ⟨mD,iN fC⟩)
 rintro Z sI jU
 obtain⟨fD,jV⟩:=eF.1 jU
 refine EP (sr (Kz (vP C 0) (Lz (vI a.aG.aM) fD 0 C6 (Kz (.bool (decide (a.aG.aM=1))) (nt ?_)))))
 obtain⟨mE,eG⟩:=lK fun(aj:Nat) (w':World)=>Own w D w' [blk C [vI a.aG.aM,vI a.aG.aP,vI a.aG.fO,vI a.aG.aS,vI a.aG.dJ,vI a.aG.d9,vU a.aG.aY,vU aj,vU Z,vU a.aG.di,vU a.aG.bi,vU a.aG.aI,vU a.aG.dM,vU a.aG.cZ,vU a.aG.xN, .bool a.aG.dY, .string ⟨y6 a.aG.bW.bJ⟩, .string ⟨y6 a.aG.bW.bX⟩, .slice a.aG.aD.A a.aG.aD.ls.length a.aG.aD.c, .slice a.aG.ai.A a.aG.ai.ls.length a.aG.ai.c, .slice a.aG.ag.A a.aG.ag.ls.length a.aG.ag.c] 42,blk U (gH 0 0 0 0 0 0 0 0 0 0 0 0 0 0 0 false ([]) ([]) none 0 0 none 0 0 none 0 0) 42,blk ai [vI g.ak,vU g.ax,vU g.bi,vU g.aI, .slice aP g.ag.ls.length aQ, .slice aR g.aj.ls.length aS, .slice aU g.aF.ls.length aW] 33,blk z (fZ.cells a) 44,blk n [vI b.aa.ak,vU b.aa.ax,vU b.aa.bi,vU b.aa.aI, .slice aZ b.aa.ag.ls.length bf, .slice bg b.aa.aj.ls.length bi, .slice bu b.aa.aF.ls.length bE,vU b.bH, .slice bG b.aA.ls.length bH, .bool b.aQ.aR,vU b.aQ.aH,vI b.aQ.aZ, .slice bJ b.aQ.ae.ls.length bK, .bool b.aO.aR,vU b.aO.aH,vI b.aO.aZ, .slice bM b.aO.ae.ls.length bO, .bool b.aL.aR,vU b.aL.aH,vI b.aL.aZ, .slice bT b.aL.ae.ls.length bU, .bool b.aN.aR,vU b.aN.aH,vI b.aN.aZ, .slice bW b.aN.ae.ls.length bX, .bool b.aK.aR,vU b.aK.aH,vI b.aK.aZ, .slice cu b.aK.ae.ls.length cz,vU b.df,vU b.cu,vU b.cz,vU b.cB,vU b.cK, .pointer none] 86,blk B [.slice none 0 0, .bool false] 47,row aZ b.aa.ag.ls.length bf (q6 bv.cells b.aa.ag.ls) 89 2,row bg b.aa.aj.ls.length bi (q6 ay.cells bq) 60 5,sepL (q6 ay.own bq),row bu b.aa.aF.ls.length bE (q6 aV.cells bF) 56 4,sepL (q6 aV.own bF),row bG b.aA.ls.length bH (q6 bB.cells bI) 107 9,sepL (q6 bB.own bI),row bJ b.aQ.ae.ls.length bK (q6 af.cells bL) 149 3,sepL (q6 af.own bL),row bM b.aO.ae.ls.length bO (q6 af.cells bS) 149 3,sepL (q6 af.own bS),row bT b.aL.ae.ls.length bU (q6 af.cells bV) 149 3,sepL (q6 af.own bV),row bW b.aN.ae.ls.length bX (q6 af.cells bY) 149 3,sepL (q6 af.own bY),row cu b.aK.ae.ls.length cz (q6 af.cells cB) 149 3,sepL (q6 af.own cB),row aP g.ag.ls.length aQ (q6 bv.cells g.ag.ls) 89 2,row aR g.aj.ls.length aS (q6 ay.cells aX) 60 5,sepL (q6 ay.own aX),row aU g.aF.ls.length aW (q6 aV.cells aY) 56 4,sepL (q6 aV.own aY)]∧(if a.aG.aM=1 then g.ax else a.aG.ax)=aj
 refine FK (fun i:Nat=> [(7,vP C 0),(6,vP U 0),(4,vP ai 0),(2, .int .u64 0)]) mE ?_ ?_
 by_cases fE:a.aG.aM=1
 refine jT (dT fE) (EO (Kz (vP ai 1) (Lz (vU g.ax) fD 2 E1 (Kz (vP C 7) ?_))))
 refine dN [vU g.ax] 7 fD M1 ?_
 intro sJ mF
 refine D0 ?_
 have mG:=mF.pf []
 exact FD g.ax ⟨rfl,rfl,rfl,rfl,trivial⟩ (eG.2 ⟨mG,ip fE⟩)
 refine jF (dF fE) (Fq ?_)
 have mH:=fD.pf []
 exact FD a.aG.ax ⟨rfl,rfl,rfl,rfl,trivial⟩ (eG.2 ⟨mH,iN fE⟩)
 rintro aj sK jW
 obtain⟨fF,jX⟩:=eG.1 jW
 refine EP (sr (Kz (vP C 0) (Lz (vI a.aG.aM) fF 0 C6 (Kz (.bool (decide (a.aG.aM=9))) (nt ?_)))))
 obtain⟨mI,eH⟩:=lK fun(aI:Nat) (w':World)=>Own w D w' [blk C [vI a.aG.aM,vI a.aG.aP,vI a.aG.fO,vI a.aG.aS,vI a.aG.dJ,vI a.aG.d9,vU a.aG.aY,vU aj,vU Z,vU a.aG.di,vU aI,vU a.aG.aI,vU a.aG.dM,vU a.aG.cZ,vU a.aG.xN, .bool a.aG.dY, .string ⟨y6 a.aG.bW.bJ⟩, .string ⟨y6 a.aG.bW.bX⟩, .slice a.aG.aD.A a.aG.aD.ls.length a.aG.aD.c, .slice a.aG.ai.A a.aG.ai.ls.length a.aG.ai.c, .slice a.aG.ag.A a.aG.ag.ls.length a.aG.ag.c] 42,blk U (gH 0 0 0 0 0 0 0 0 0 0 0 0 0 0 0 false ([]) ([]) none 0 0 none 0 0 none 0 0) 42,blk ai [vI g.ak,vU g.ax,vU g.bi,vU g.aI, .slice aP g.ag.ls.length aQ, .slice aR g.aj.ls.length aS, .slice aU g.aF.ls.length aW] 33,blk z (fZ.cells a) 44,blk n [vI b.aa.ak,vU b.aa.ax,vU b.aa.bi,vU b.aa.aI, .slice aZ b.aa.ag.ls.length bf, .slice bg b.aa.aj.ls.length bi, .slice bu b.aa.aF.ls.length bE,vU b.bH, .slice bG b.aA.ls.length bH, .bool b.aQ.aR,vU b.aQ.aH,vI b.aQ.aZ, .slice bJ b.aQ.ae.ls.length bK, .bool b.aO.aR,vU b.aO.aH,vI b.aO.aZ, .slice bM b.aO.ae.ls.length bO, .bool b.aL.aR,vU b.aL.aH,vI b.aL.aZ, .slice bT b.aL.ae.ls.length bU, .bool b.aN.aR,vU b.aN.aH,vI b.aN.aZ, .slice bW b.aN.ae.ls.length bX, .bool b.aK.aR,vU b.aK.aH,vI b.aK.aZ, .slice cu b.aK.ae.ls.length cz,vU b.df,vU b.cu,vU b.cz,vU b.cB,vU b.cK, .pointer none] 86,blk B [.slice none 0 0, .bool false] 47,row aZ b.aa.ag.ls.length bf (q6 bv.cells b.aa.ag.ls) 89 2,row bg b.aa.aj.ls.length bi (q6 ay.cells bq) 60 5,sepL (q6 ay.own bq),row bu b.aa.aF.ls.length bE (q6 aV.cells bF) 56 4,sepL (q6 aV.own bF),row bG b.aA.ls.length bH (q6 bB.cells bI) 107 9,sepL (q6 bB.own bI),row bJ b.aQ.ae.ls.length bK (q6 af.cells bL) 149 3,sepL (q6 af.own bL),row bM b.aO.ae.ls.length bO (q6 af.cells bS) 149 3,sepL (q6 af.own bS),row bT b.aL.ae.ls.length bU (q6 af.cells bV) 149 3,sepL (q6 af.own bV),row bW b.aN.ae.ls.length bX (q6 af.cells bY) 149 3,sepL (q6 af.own bY),row cu b.aK.ae.ls.length cz (q6 af.cells cB) 149 3,sepL (q6 af.own cB),row aP g.ag.ls.length aQ (q6 bv.cells g.ag.ls) 89 2,row aR g.aj.ls.length aS (q6 ay.cells aX) 60 5,sepL (q6 ay.own aX),row aU g.aF.ls.length aW (q6 aV.cells aY) 56 4,sepL (q6 aV.own aY)]∧(if a.aG.aM=9 then g.bi else a.aG.bi)=aI
 refine FK (fun i:Nat=> [(7,vP C 0),(6,vP U 0),(2, .int .u64 0)]) mI ?_ ?_
 by_cases fG:a.aG.aM=9
 refine jT (dT fG) (EO (Kz (vP ai 2) (Lz (vU g.bi) fF 2 E1 (Kz (vP C 10) ?_))))
 refine dN [vU g.bi] 10 fF M1 ?_
 intro sM mJ
 refine D0 ?_
 have mK:=mJ.pf []
 exact FD g.bi ⟨rfl,rfl,rfl,trivial⟩ (eH.2 ⟨mK,ip fG⟩)
 refine jF (dF fG) (Fq ?_)
 have mM:=fF.pf []
 exact FD a.aG.bi ⟨rfl,rfl,rfl,trivial⟩ (eH.2 ⟨mM,iN fG⟩)
 rintro aI sN jY
 obtain⟨mO,jZ⟩:=eH.1 jY
 refine EP (EP ?_)
 have gF:=mO.px [] [2] []
 refine EO (Kz (vP C 12) (Lz (vU a.aG.dM) gF 0 E1 (fw (.bool (decide (¬ (((a.aG.dM:Nat):Int)=0)))) (Fs (e:= !(decide (((a.aG.dM:Nat):Int)=0))) yk decide_not.symm) (nt ?_))))
 obtain⟨mQ,eO⟩:=lK fun(V:Nat) (w':World)=>Own w D w' [blk C [vI a.aG.aM,vI a.aG.aP,vI a.aG.fO,vI a.aG.aS,vI a.aG.dJ,vI a.aG.d9,vU a.aG.aY,vU aj,vU Z,vU a.aG.di,vU aI,vU a.aG.aI,vU V,vU a.aG.cZ,vU a.aG.xN, .bool a.aG.dY, .string ⟨y6 a.aG.bW.bJ⟩, .string ⟨y6 a.aG.bW.bX⟩, .slice a.aG.aD.A a.aG.aD.ls.length a.aG.aD.c, .slice a.aG.ai.A a.aG.ai.ls.length a.aG.ai.c, .slice a.aG.ag.A a.aG.ag.ls.length a.aG.ag.c] 42,blk U (gH 0 0 0 0 0 0 0 0 0 0 0 0 0 0 0 false ([]) ([]) none 0 0 none 0 0 none 0 0) 42,blk z (fZ.cells a) 44,blk n [vI b.aa.ak,vU b.aa.ax,vU b.aa.bi,vU b.aa.aI, .slice aZ b.aa.ag.ls.length bf, .slice bg b.aa.aj.ls.length bi, .slice bu b.aa.aF.ls.length bE,vU b.bH, .slice bG b.aA.ls.length bH, .bool b.aQ.aR,vU b.aQ.aH,vI b.aQ.aZ, .slice bJ b.aQ.ae.ls.length bK, .bool b.aO.aR,vU b.aO.aH,vI b.aO.aZ, .slice bM b.aO.ae.ls.length bO, .bool b.aL.aR,vU b.aL.aH,vI b.aL.aZ, .slice bT b.aL.ae.ls.length bU, .bool b.aN.aR,vU b.aN.aH,vI b.aN.aZ, .slice bW b.aN.ae.ls.length bX, .bool b.aK.aR,vU b.aK.aH,vI b.aK.aZ, .slice cu b.aK.ae.ls.length cz,vU b.df,vU b.cu,vU b.cz,vU b.cB,vU b.cK, .pointer none] 86,blk B [.slice none 0 0, .bool false] 47,row aZ b.aa.ag.ls.length bf (q6 bv.cells b.aa.ag.ls) 89 2,row bg b.aa.aj.ls.length bi (q6 ay.cells bq) 60 5,sepL (q6 ay.own bq),row bu b.aa.aF.ls.length bE (q6 aV.cells bF) 56 4,sepL (q6 aV.own bF),row bG b.aA.ls.length bH (q6 bB.cells bI) 107 9,sepL (q6 bB.own bI),row bJ b.aQ.ae.ls.length bK (q6 af.cells bL) 149 3,sepL (q6 af.own bL),row bM b.aO.ae.ls.length bO (q6 af.cells bS) 149 3,sepL (q6 af.own bS),row bT b.aL.ae.ls.length bU (q6 af.cells bV) 149 3,sepL (q6 af.own bV),row bW b.aN.ae.ls.length bX (q6 af.cells bY) 149 3,sepL (q6 af.own bY),row cu b.aK.ae.ls.length cz (q6 af.cells cB) 149 3,sepL (q6 af.own cB),row aP g.ag.ls.length aQ (q6 bv.cells g.ag.ls) 89 2,row aR g.aj.ls.length aS (q6 ay.cells aX) 60 5,sepL (q6 ay.own aX),row aU g.aF.ls.length aW (q6 aV.cells aY) 56 4,sepL (q6 aV.own aY)]∧V≤9223372036854775807∧V≤a.aG.dM∧V≤0∧V ≥ 0∧(if((a.aG.dM:Nat):Int)=0 then a.aG.dM else 0)=V
 refine FK (fun i:Nat=> [(7,vP C 0),(6,vP U 0)]) mQ ?_ ?_
 by_cases fH:((a.aG.dM:Nat):Int)=0
 refine jF (dF (IV fH)) (Fq ?_)
 have mR:=gF.pf []
 exact FD a.aG.dM ⟨rfl,rfl,trivial⟩ (eO.2 ⟨mR,e6,e6,e6,e6,ip fH⟩)
 refine jT (dT fH) (EO (Mz rfl (Kz (vP C 12) ?_)))
 refine dN [.int .u64 0] 12 gF M1 ?_
 intro sP mU
 refine D0 ?_
 have mV:=mU.pf []
 exact FD 0 ⟨rfl,rfl,trivial⟩ (eO.2 ⟨mV,e6,e6,e6,e6,iN fH⟩)
 rintro V sQ j3
 obtain⟨iV,qw,qx,qy,qz,j4⟩:=eO.1 j3
 refine sr (La ([vI a.aG.aM,vI a.aG.aP,vI a.aG.fO,vI a.aG.aS,vI a.aG.dJ,vI a.aG.d9,vU a.aG.aY,vU aj,vU Z,vU a.aG.di,vU aI,vU a.aG.aI,vU V,vU a.aG.cZ,vU a.aG.xN, .bool a.aG.dY, .string ⟨y6 a.aG.bW.bJ⟩, .string ⟨y6 a.aG.bW.bX⟩, .slice a.aG.aD.A a.aG.aD.ls.length a.aG.aD.c, .slice a.aG.ai.A a.aG.ai.ls.length a.aG.ai.c, .slice a.aG.ag.A a.aG.ag.ls.length a.aG.ag.c]) iV 0 L9 M0 ?_)
 have mW:=iV.pf [1]
 refine dN [vI a.aG.aM,vI a.aG.aP,vI a.aG.fO,vI a.aG.aS,vI a.aG.dJ,vI a.aG.d9,vU a.aG.aY,vU aj,vU Z,vU a.aG.di,vU aI,vU a.aG.aI,vU V,vU a.aG.cZ,vU a.aG.xN, .bool a.aG.dY, .string ⟨y6 a.aG.bW.bJ⟩, .string ⟨y6 a.aG.bW.bX⟩, .slice a.aG.aD.A a.aG.aD.ls.length a.aG.aD.c, .slice a.aG.ai.A a.aG.ai.ls.length a.aG.ai.c, .slice a.aG.ag.A a.aG.ag.ls.length a.aG.ag.c] 0 mW M0 ?_
 intro sS iW
 refine nt (rt (Fin.res (mP rfl rfl (Fb (cs:= [vI a.aG.aM,vI a.aG.aP,vI a.aG.fO,vI a.aG.aS,vI a.aG.dJ,vI a.aG.d9,vU a.aG.aY,vU aj,vU Z,vU a.aG.di,vU aI,vU a.aG.aI,vU V,vU a.aG.cZ,vU a.aG.xN, .bool a.aG.dY, .string ⟨y6 a.aG.bW.bJ⟩, .string ⟨y6 a.aG.bW.bX⟩, .slice a.aG.aD.A a.aG.aD.ls.length a.aG.aD.c, .slice a.aG.ai.A a.aG.ai.ls.length a.aG.ai.c, .slice a.aG.ag.A a.aG.ag.ls.length a.aG.ag.c]) L9 M0 ((iW.cls (i:=0) rfl).lit (k:=0) (m:=21) rfl))) ?_))
 have iZ:=iW.pf [2]
 refine⟨.inr ⟨_,iZ⟩, ?_⟩
 have mY:=iZ.pb [0,1,2,4,22,23,24,25,26]
 have mZ:=fo fV gm gp gq gu gy gz gB mY
 obtain⟨⟨dz,ja,cK⟩,gJ⟩:∃ q:jL × Int × aB,dO b (bQ.mk a.aG.aM a.aG.aP a.aG.fO a.aG.aS a.aG.dJ a.aG.d9 a.aG.aY aj Z a.aG.di aI a.aG.aI V a.aG.cZ a.aG.xN a.aG.dY a.aG.bW (E4 a.aG.aD.ls) (E4 (s8 af.abs a.aG.ai.ls)) (E4 a.aG.ag.ls))=q:=⟨_,rfl⟩
 obtain⟨sU,j5,dR,j6,qA⟩:=Fu mZ
 refine qd 7 rfl (Fe Tryz.call13 rfl (iU _ _ n b (bQ.mk a.aG.aM a.aG.aP a.aG.fO a.aG.aS a.aG.dJ a.aG.d9 a.aG.aY aj Z a.aG.di aI a.aG.aI V a.aG.cZ a.aG.xN a.aG.dY a.aG.bW (E4 a.aG.aD.ls) (E4 (s8 af.abs a.aG.ai.ls)) (E4 a.aG.ag.ls)) a.aG.aD.A a.aG.aD.ls.length a.aG.aD.c a.aG.ai.A a.aG.ai.ls.length a.aG.ai.c a.aG.ai.ls a.aG.ag.A a.aG.ag.ls.length a.aG.ag.c dz ja cK j5 rfl (dR _ (aL _ (E0 E)).1) (show a.aG.aD.ls.length≤a.aG.aD.c∧a.aG.aD.ls.length≤9223372036854775807 from by omega) (rfl:s8 af.abs a.aG.ai.ls=s8 af.abs a.aG.ai.ls) f0 (fun w9 h9=>oD (az (rfl:s8 af.abs a.aG.ai.ls=s8 af.abs a.aG.ai.ls)) ((dR _ (aL _ (E0 E)).2.2.1) w9 h9)) (show s2 (s8 af.abs a.aG.ai.ls)≤a.aG.ai.c∧s2 (s8 af.abs a.aG.ai.ls)≤9223372036854775807 from by omega) (fun x9 h9=>⟨dR _ ((aL _ (E0 E)).2.2.2.2.1 x9 h9).1,((aL _ (E0 E)).2.2.2.2.1 x9 h9).2⟩) rfl (dR _ (aL _ (E0 E)).2.2.2.2.2.1) (show a.aG.ag.ls.length≤a.aG.ag.c∧a.aG.ag.ls.length≤9223372036854775807 from by omega) f8 f5 gJ) ?_)
 rintro _ sV ⟨gK,gL,ni,rfl,kg,gM,gN,gP⟩
 have jb:=j6 _ _ kg
 have qC:=az gM
 have qD:=jb.rowC (i:=0) rfl
 replace gN:cK.aa.ag.ls.length=b.aa.ag.ls.length∧cK.aa.ak=b.aa.ak∧cK.aA.ls.length+cK.aa.aj.ls.length≤8∧cK.aa.aF.ls.length≤b.aa.aF.ls.length+1:=gN
 replace gP:Mk cK:=gP
 have jc:=jb.pf [3]
 refine⟨.inr ⟨_,jc⟩, ?_⟩
 refine qv 8 rfl rfl (qk (.agg #[.slice gK dz.ed.ls.length gL, .bool dz.iD]) 9 rfl (qk (vI ja) 10 rfl ?_))
 have nk:=jc.pf [6]
 refine qe 11 rfl (Do.store (vs:= [.slice gK dz.ed.ls.length gL, .bool dz.iD]) (o:=0) nk rfl rfl R8 rfl rfl rfl rfl ?_)
 intro sW nu
 have jd:=nu.pf [1]
 refine⟨.inr ⟨_,jd⟩, ?_⟩
 refine qn (bN ?_)
 have ny:=jd.pk [1,0,4,2,3]
 exact FD (gK,gL,ni,dz.ed.ls,dz.iD,cK) ⟨rfl,rfl,rfl,rfl,rfl,rfl,rfl,rfl,rfl,rfl,rfl,rfl,rfl,rfl,rfl,rfl,rfl,trivial⟩ (dm.2 ⟨ny,by exact gM,e6,e6,e6,f5,et (ip dL) (et (ah eB) (et (ip dZ) (et (ah jV) (et (ah jX) (et (ah jZ) (et (ah j4) (ah gJ)))))))⟩)
 refine jT (cn dZ) (EP ?_)
 have jg:=gD.px [] [3] []
 refine EO (La (bA.cells a.aG) jg 0 L9 M0 ?_)
 have nz:=jg.pf [1]
 refine dN (bA.cells a.aG) 0 nz M0 ?_
 intro sZ ji
 refine nt (rt (tR (Fin.res (mP rfl rfl (Fb (cs:=(bA.cells a.aG)) L9 M0 ((ji.cls (i:=0) rfl).lit (k:=0) (m:=21) rfl))) ?_)))
 have jk:=ji.pf [3]
 refine⟨.inr ⟨_,jk⟩, ?_⟩
 have nA:=jk.pb [0,1,2,3,22,23,24,25,26,27]
 have nC:=fo fV gm gp gq gu gy gz gB nA
 obtain⟨⟨dB,jl,cO⟩,gT⟩:∃ q:jL × Int × aB,dO b (bQ.mk a.aG.aM a.aG.aP a.aG.fO a.aG.aS a.aG.dJ a.aG.d9 a.aG.aY a.aG.ax a.aG.bf a.aG.di a.aG.bi a.aG.aI a.aG.dM a.aG.cZ a.aG.xN a.aG.dY a.aG.bW (E4 a.aG.aD.ls) (E4 (s8 af.abs a.aG.ai.ls)) (E4 a.aG.ag.ls))=q:=⟨_,rfl⟩
 obtain⟨tq,ko,dU,kr,qE⟩:=Fu nC
 refine qd 7 rfl (Fe Tryz.call13 rfl (iU _ _ n b (bQ.mk a.aG.aM a.aG.aP a.aG.fO a.aG.aS a.aG.dJ a.aG.d9 a.aG.aY a.aG.ax a.aG.bf a.aG.di a.aG.bi a.aG.aI a.aG.dM a.aG.cZ a.aG.xN a.aG.dY a.aG.bW (E4 a.aG.aD.ls) (E4 (s8 af.abs a.aG.ai.ls)) (E4 a.aG.ag.ls)) a.aG.aD.A a.aG.aD.ls.length a.aG.aD.c a.aG.ai.A a.aG.ai.ls.length a.aG.ai.c a.aG.ai.ls a.aG.ag.A a.aG.ag.ls.length a.aG.ag.c dB jl cO ko rfl (dU _ (aL _ (E0 E)).1) (show a.aG.aD.ls.length≤a.aG.aD.c∧a.aG.aD.ls.length≤9223372036854775807 from by omega) (rfl:s8 af.abs a.aG.ai.ls=s8 af.abs a.aG.ai.ls) f0 (fun w9 h9=>oD (az (rfl:s8 af.abs a.aG.ai.ls=s8 af.abs a.aG.ai.ls)) ((dU _ (aL _ (E0 E)).2.2.1) w9 h9)) (show s2 (s8 af.abs a.aG.ai.ls)≤a.aG.ai.c∧s2 (s8 af.abs a.aG.ai.ls)≤9223372036854775807 from by omega) (fun x9 h9=>⟨dU _ ((aL _ (E0 E)).2.2.2.2.1 x9 h9).1,((aL _ (E0 E)).2.2.2.2.1 x9 h9).2⟩) rfl (dU _ (aL _ (E0 E)).2.2.2.2.2.1) (show a.aG.ag.ls.length≤a.aG.ag.c∧a.aG.ag.ls.length≤9223372036854775807 from by omega) f8 f5 gT) ?_)
 rintro _ tu ⟨gU,gV,nD,rfl,ku,gW,gX,gY⟩
 have jm:=kr _ _ ku
 have qF:=az gW
 have qG:=jm.rowC (i:=0) rfl
 replace gX:cO.aa.ag.ls.length=b.aa.ag.ls.length∧cO.aa.ak=b.aa.ak∧cO.aA.ls.length+cO.aa.aj.ls.length≤8∧cO.aa.aF.ls.length≤b.aa.aF.ls.length+1:=gX
 replace gY:Mk cO:=gY
 have jo:=jm.pf [3]
 refine⟨.inr ⟨_,jo⟩, ?_⟩
 refine qv 8 rfl rfl (qk (.agg #[.slice gU dB.ed.ls.length gV, .bool dB.iD]) 9 rfl (qk (vI jl) 10 rfl ?_))
 have nE:=jo.pf [12]
 refine qe 11 rfl (Do.store (vs:= [.slice gU dB.ed.ls.length gV, .bool dB.iD]) (o:=0) nE rfl rfl R8 rfl rfl rfl rfl ?_)
 intro tC nG
 have jq:=nG.pf [1]
 refine⟨.inr ⟨_,jq⟩, ?_⟩
 refine qn (bN ?_)
 have nH:=jq.pk [1,0,4,2,3]
 exact FD (gU,gV,nD,dB.ed.ls,dB.iD,cO) ⟨rfl,rfl,rfl,rfl,rfl,rfl,rfl,rfl,rfl,rfl,rfl,rfl,rfl,rfl,rfl,rfl,rfl,trivial⟩ (dm.2 ⟨nH,by exact gW,e6,e6,e6,f5,et (ip dL) (et (ah eB) (et (fU dZ) (ah gT)))⟩)
 refine jF (dF dL) (sr (Kz (.bool (decide (a.kR=1))) (An rfl ?_)))
 by_cases fI:a.kR=1
 refine jT (dT fI) (EO (Mz rfl ?_))
 have nJ:=fA.pf [2]
 obtain⟨⟨ed,cZ⟩,gZ⟩:∃ q:jL × aB,je b=q:=⟨_,rfl⟩
 obtain⟨tF,kw,qH,ky,qI⟩:=Fu nJ
 refine cl Tryz.call14 (tX _ _ n b ed cZ kw e8 f5 gZ) ?_
 rintro _ tH ⟨jr,jv,nK,rfl,kz,ib,ic,ig⟩
 have jw:=ky _ _ kz
 have qJ:=az ib
 have qK:=jw.rowC (i:=0) rfl
 replace ic:cZ.aa.ag.ls.length=b.aa.ag.ls.length∧cZ.aa.ak=b.aa.ak∧cZ.aA.ls.length+cZ.aa.aj.ls.length≤8∧cZ.aa.aF.ls.length≤b.aa.aF.ls.length+0:=ic
 replace ig:Mk cZ:=ig
 have nL:=jw.pf [3]
 refine dN [.slice jr ed.ed.ls.length jv, .bool ed.iD] 0 nL R8 ?_
 intro tJ nN
 refine D0 (bN ?_)
 have nO:=nN.pb [3,1,2]
 exact FD (jr,jv,nK,ed.ed.ls,ed.iD,cZ) ⟨rfl,rfl,rfl,rfl,rfl,rfl,rfl,rfl,rfl,rfl,rfl,rfl,rfl,rfl,rfl,rfl,rfl,trivial⟩ (dm.2 ⟨nO,by exact ib,e6,e6,e6,f5,et (iN dL) (et (ip fI) (ah gZ))⟩)
 refine jF (dF fI) (Fq (bN ?_))
 have nP:Own w D iM (sepL (q6 bA.own ([]))::_):=fA.sepNil
 have nQ:Own w D iM (row none 0 0 (q6 bA.cells ([])) 42 21::_):=nP.free (eZ 42 21)
 have nR:=nQ.pb [0,1]
 exact FD (none,0, [], [],false,b) ⟨rfl,rfl,rfl,rfl,rfl,rfl,rfl,rfl,rfl,rfl,rfl,rfl,rfl,rfl,rfl,rfl,rfl,trivial⟩ (dm.2 ⟨nR,(show s8 bA.abs ([])=([])∧0≤s2 ([])∧0≤9223372036854775807∧(b.aa.ag.ls.length≤1000∧b.aa.ak≤4∧b.aA.ls.length+b.aa.aj.ls.length≤8∧b.aa.aF.ls.length≤b.aa.aF.ls.length+1)∧Mk b∧(if a.kR=0 then bnd (iG b) fun aA=>if a.sW=true then bnd (if((a.aG.bf:Nat):Int)=0 then a.aG.bf else D2 (D3.wrap (((eQ aA.ax 32:Nat):Int)+((a.aG.bf % 16:Nat):Int)))) fun sJrbbtbbfLsJjtbtJ=>bnd (if a.aG.aM=1 then aA.ax else a.aG.ax) fun sJrbbtbbfLsJjtbtJaJ=>bnd (if a.aG.aM=9 then aA.bi else a.aG.bi) fun sJrbbtbbfLsJjtbtJaJaJ=>bnd (if((a.aG.dM:Nat):Int)=0 then a.aG.dM else 0) fun sJrbbtbbfLsJjtbtJaJaJaJ=>bnd (dO b (bQ.mk a.aG.aM a.aG.aP a.aG.fO a.aG.aS a.aG.dJ a.aG.d9 a.aG.aY sJrbbtbbfLsJjtbtJaJ sJrbbtbbfLsJjtbtJ a.aG.di sJrbbtbbfLsJjtbtJaJaJ a.aG.aI sJrbbtbbfLsJjtbtJaJaJaJ a.aG.cZ a.aG.xN a.aG.dY a.aG.bW (E4 a.aG.aD.ls) (E4 (s8 af.abs a.aG.ai.ls)) (E4 a.aG.ag.ls))) fun dn=>(dn.1.ed.ls,dn.2.2) else bnd (dO b (bQ.mk a.aG.aM a.aG.aP a.aG.fO a.aG.aS a.aG.dJ a.aG.d9 a.aG.aY a.aG.ax a.aG.bf a.aG.di a.aG.bi a.aG.aI a.aG.dM a.aG.cZ a.aG.xN a.aG.dY a.aG.bW (E4 a.aG.aD.ls) (E4 (s8 af.abs a.aG.ai.ls)) (E4 a.aG.ag.ls))) fun dw=>(dw.1.ed.ls,dw.2.2) else if a.kR=1 then bnd (je b) fun dx=>(dx.1.ed.ls,dx.2) else([],b))=(([]),b) from ⟨by exact rfl,e6,e6,e6,f5,et (iN dL) (iN fI)⟩)⟩)
 rintro ⟨u,L,Y,h,dY,l⟩ tK kC
 obtain⟨nS,ik,qL,qM,qN,qO,dC⟩:=dm.1 kC
 have qP:=az ik
 refine sr (Mz rfl ?_)
 have nT:=nS.pf [2]
 obtain⟨d,aN⟩:∃ q,iG l=q:=⟨_,rfl⟩
 obtain⟨tL,kD,qQ,kE,qR⟩:=Fu nT
 refine cl Tryz.call11 (pg _ _ n l d kD e8 f5 aN) ?_
 rintro _ tN ⟨Q,R,F,J,S,T,dD,dM,rfl,kF,il,kH⟩
 have fJ:=kE _ _ kF
 have qU:=az il
 have qV:=az kH
 have qW:=fJ.rowC (i:=0) rfl
 have qX:=fJ.rowC (i:=1) rfl
 have qY:=fJ.rowC (i:=3) rfl
 refine dK [vI 0, .int .u64 0, .int .u64 0, .int .u64 0, .slice none 0 0, .slice none 0 0, .slice none 0 0] 33 fJ ?_
 intro P tO nV
 refine dN [vI d.ak,vU d.ax,vU d.bi,vU d.aI, .slice Q d.ag.ls.length R, .slice F d.aj.ls.length J, .slice S d.aF.ls.length T] 0 nV I1 ?_
 intro tQ jA
 refine ns (Kz (vP B 0) (Lz (.slice u h.length L) jA 7 Tryz.isAgg45 (Kz (vJ h.length) (Mn rfl (bo ?_)))))
 have nW:=jA.pf []
 obtain⟨nX,dW⟩:=Dt fun(t:Nat) (r:Nat) (w':World)=>Own w D w' [blk P [vI d.ak,vU d.ax,vU d.bi,vU d.aI, .slice Q d.ag.ls.length R, .slice F d.aj.ls.length J, .slice S d.aF.ls.length T] 33,row Q d.ag.ls.length R (q6 bv.cells d.ag.ls) 89 2,row F d.aj.ls.length J (q6 ay.cells dD) 60 5,sepL (q6 ay.own dD),row S d.aF.ls.length T (q6 aV.cells dM) 56 4,sepL (q6 aV.own dM),iE n l,blk B [.slice u h.length L, .bool dY] 47,blk z (fZ.cells a) 44,row u h.length L (q6 bA.cells Y) 42 21,sepL (q6 bA.own Y)]∧r≤h.length∧gI l d h O=gI l d (r6 r h) t
 refine C5 (fun i:Nat × Nat=> [(2, .bool false),(6,vU i.1),(70,vJ i.2),(69,vJ h.length),(68, .slice u h.length L),(67,vP B 0),(10,vP P 0),(66, .agg #[vI d.ak,vU d.ax,vU d.bi,vU d.aI, .slice Q d.ag.ls.length R, .slice F d.aj.ls.length J, .slice S d.aF.ls.length T]),(65,vP n 0),(48, .bool (decide (a.kR=0))),(49, .bool (decide (a.kR=0))),(47,vI a.kR),(46,vP z 0),(9,vP B 0),(45, .agg #[.slice none 0 0, .bool false]),(8,vP z 0),(44, .agg (fZ.cells a).toArray),(43, .pointer (some ⟨ab A0,ao A0+j *25,none⟩)),(42, .bool (decide (((j:Nat):Int) < ((l0.length:Nat):Int)))),(41,vJ j),(40,vJ l0.length),(39, .slice A0 l0.length c0),(4,vP n 0),(3, .bool M)]) nX (fun i=>h.length - i.2) (O,0) ⟨rfl,rfl,rfl,rfl,rfl,rfl,rfl,rfl,rfl,rfl,rfl,rfl,rfl,rfl,rfl,rfl,rfl,rfl,rfl,rfl,rfl,rfl,rfl,rfl,trivial⟩ (dW.2 ⟨nW,e6,rfl⟩) ?_
 rintro ⟨t,r⟩ tT kI
 obtain⟨df,qZ,aC⟩:=dW.1 kI
 refine sr (Kz (.bool (decide (((r:Nat):Int) < ((h.length:Nat):Int)))) (nt (EP ?_)))
 by_cases jB:((r:Nat):Int) < ((h.length:Nat):Int)
 obtain⟨f,dE⟩:=dG (ls:=Y) (i:=r) bA.len f3 (df.rds (i:=9) rfl) e9
 have kJ:=eP ik dE
 have q8:f.aD.ls.length≤f.aD.c∧f.aD.ls.length≤9223372036854775807:=bz df (i:=10) rfl (φ:=fun _=>_) (av (O7.2 ⟨f,E0 dE,b1⟩) bn)
 have q9:f.ai.ls.length≤f.ai.c∧f.ai.ls.length≤9223372036854775807:=bz df (i:=10) rfl (φ:=fun _=>_) (av (O7.2 ⟨f,E0 dE, .tail _ b1⟩) bn)
 have rf:f.ag.ls.length≤f.ag.c∧f.ag.ls.length≤9223372036854775807:=bz df (i:=10) rfl (φ:=fun _=>_) (av (O7.2 ⟨f,E0 dE, .tail _ b2⟩) bn)
 have aO:=drop_at kJ
 refine jT (dT jB) (sk (EP (bo (sr (fw (.pointer (some ⟨ab u,ao u+r *21,none⟩)) (ET (uh) rfl rfl ((df.rds (i:=9) rfl).addr (i:=r) e6) e6) (fw (.agg (bA.cells f).toArray) (EY rfl (Fb (cs:=(bA.cells f)) L9 M0 ((df.rds (i:=9) rfl).elem bA.len dE f3))) ?_))))))
 refine dK (gH 0 0 0 0 0 0 0 0 0 0 0 0 0 0 0 false ([]) ([]) none 0 0 none 0 0 none 0 0) 42 df ?_
 intro p tV nY
 refine dN (bA.cells f) 0 nY M0 ?_
 intro tY ak
 refine nt (EP (sr (Kz (vP p 0) (Lz (vI f.aM) ak 0 C6 (fw (.bool (decide (¬ (f.aM=3)))) (Fs (e:= !(decide (f.aM=3))) yk decide_not.symm) (nt ?_))))))
 by_cases dh:f.aM=3
 refine jF (dF (IV dh)) (sk (EP (sr (Kz (vP p 9) (Lz (vU f.di) ak 0 E1 (Mz rfl (Kz (.bool (decide (((f.di:Nat):Int) < ((t:Nat):Int)))) (Mz rfl ?_))))))))
 by_cases K:((f.di:Nat):Int) < ((t:Nat):Int)
 refine Sz (dT K) (Sz (dT K) (Sz (dT K) (Sz (dT K) (Sz (dT K) (fw (.bool true) (Fa rfl (dT K) rfl) (nt (jt (sr (An rfl (rt (tR (bR (tR (tR (bR (bR (tR (tR (bR (tR (rs ?_)))))))))))))))))))))
 have nZ:=ak.pk []
 obtain rfl:_=false:=hr.symm.trans (et (ah aa) (et (ah ae) (et (ip W) (et (ah aD) (et (ah X) (et (iN aG) (iY (et (aM) (et (congrArg (fun q=>gQ M q O b) di) (et (ah dC) (et (ah aN) (mX (et (aC) (et (congrArg (fun q=>gI l d q t) aO) (et (ip dh) (ip K))))))))))))))))
 exact⟨rfl,nZ⟩
 refine Gz (vP p 9) (dF K) (Gl (vU f.di) (dF K) ak 0 E1 (Gz (vP p 8) (dF K) (Gl (vU f.bf) (dF K) ak 0 E1 (Gz (.bool (decide (((f.di:Nat):Int) > ((f.bf:Nat):Int)))) (dF K) (fw (.bool (decide (((f.di:Nat):Int) > ((f.bf:Nat):Int)))) (ES rfl (dF K) rfl) (nt ?_))))))
 by_cases dP:((f.di:Nat):Int) > ((f.bf:Nat):Int)
 refine jT (dT dP) (sr (An rfl (rt (tR (bR (tR (tR (bR (bR (tR (tR (bR (tR (rs ?_))))))))))))))
 have og:=ak.pk []
 obtain rfl:_=false:=hr.symm.trans (et (ah aa) (et (ah ae) (et (ip W) (et (ah aD) (et (ah X) (et (iN aG) (iY (et (aM) (et (congrArg (fun q=>gQ M q O b) di) (et (ah dC) (et (ah aN) (mX (et (aC) (et (congrArg (fun q=>gI l d q t) aO) (et (ip dh) (et (iN K) (ip dP)))))))))))))))))
 exact⟨rfl,og⟩
 refine jF (dF dP) (sk (sr (Kz (vP p 9) (Lz (vU f.di) ak 0 E1 (An rfl (EP (sr (Kz (vP P 5) (Lz (.slice F d.aj.ls.length J) ak 1 Tryz.isAgg30 (Kz (vJ d.aj.ls.length) (Mn rfl (bo ?_))))))))))))
 have ol:=ak.pf []
 obtain⟨om,eT⟩:=lK fun(I:Nat) (w':World)=>Own w D w' [blk p (bA.cells f) 42,blk P [vI d.ak,vU d.ax,vU d.bi,vU d.aI, .slice Q d.ag.ls.length R, .slice F d.aj.ls.length J, .slice S d.aF.ls.length T] 33,row Q d.ag.ls.length R (q6 bv.cells d.ag.ls) 89 2,row F d.aj.ls.length J (q6 ay.cells dD) 60 5,sepL (q6 ay.own dD),row S d.aF.ls.length T (q6 aV.cells dM) 56 4,sepL (q6 aV.own dM),iE n l,blk B [.slice u h.length L, .bool dY] 47,blk z (fZ.cells a) 44,row u h.length L (q6 bA.cells Y) 42 21,sepL (q6 bA.own Y)]∧I≤d.aj.ls.length∧jG (bA.abs f) l d.aj.ls=jG (bA.abs f) l (r6 I d.aj.ls)
 refine C5 (fun i:Nat=> [(2, .bool false),(93,vJ i),(92,vJ d.aj.ls.length),(91, .slice F d.aj.ls.length J),(90,vP P 5),(6,vU f.di),(89,vU f.di),(88,vP p 9),(87, .bool (decide (((f.di:Nat):Int) > ((f.bf:Nat):Int)))),(86, .bool (decide (((f.di:Nat):Int) > ((f.bf:Nat):Int)))),(85,vU f.bf),(84,vP p 8),(83,vU f.di),(82,vP p 9),(81, .bool (decide (((f.di:Nat):Int) < ((t:Nat):Int)))),(80, .bool (decide (((f.di:Nat):Int) < ((t:Nat):Int)))),(79,vU t),(78,vU f.di),(77,vP p 9),(76, .bool (decide (¬ (f.aM=3)))),(75,vI f.aM),(74,vP p 0),(12,vP p 0),(73, .agg (bA.cells f).toArray),(72, .pointer (some ⟨ab u,ao u+r *21,none⟩)),(71, .bool (decide (((r:Nat):Int) < ((h.length:Nat):Int)))),(70,vJ r),(69,vJ h.length),(68, .slice u h.length L),(67,vP B 0),(10,vP P 0),(66, .agg #[vI d.ak,vU d.ax,vU d.bi,vU d.aI, .slice Q d.ag.ls.length R, .slice F d.aj.ls.length J, .slice S d.aF.ls.length T]),(65,vP n 0),(48, .bool (decide (a.kR=0))),(49, .bool (decide (a.kR=0))),(47,vI a.kR),(46,vP z 0),(9,vP B 0),(45, .agg #[.slice none 0 0, .bool false]),(8,vP z 0),(44, .agg (fZ.cells a).toArray),(43, .pointer (some ⟨ab A0,ao A0+j *25,none⟩)),(42, .bool (decide (((j:Nat):Int) < ((l0.length:Nat):Int)))),(41,vJ j),(40,vJ l0.length),(39, .slice A0 l0.length c0),(4,vP n 0),(3, .bool M)]) om (fun i=>d.aj.ls.length - i) 0 ⟨rfl,rfl,rfl,rfl,rfl,rfl,rfl,rfl,rfl,rfl,rfl,rfl,rfl,rfl,rfl,rfl,rfl,rfl,rfl,rfl,rfl,rfl,rfl,rfl,rfl,rfl,rfl,rfl,rfl,rfl,rfl,rfl,rfl,rfl,rfl,rfl,rfl,rfl,rfl,rfl,rfl,rfl,rfl,rfl,rfl,rfl,rfl,rfl,trivial⟩ (eT.2 ⟨ol,e6,rfl⟩) ?_
 rintro I tZ kK
 obtain⟨dQ,rq,eU⟩:=eT.1 kK
 refine sr (Kz (.bool (decide (((I:Nat):Int) < ((d.aj.ls.length:Nat):Int)))) (nt (EP ?_)))
 by_cases jC:((I:Nat):Int) < ((d.aj.ls.length:Nat):Int)
 obtain⟨au,eX⟩:=dG (ls:=dD) (i:=I) ay.len f3 (dQ.rds (i:=3) rfl) e9
 have kL:=eP il eX
 have ru:au.ak.ls.length≤au.ak.c∧au.ak.ls.length≤9223372036854775807:=bz dQ (i:=4) rfl (φ:=fun _=>_) (av (O7.2 ⟨au,E0 eX,b1⟩) bn)
 have iq:=drop_at kL
 refine jT (dT jC) (sk (EP (bo (sr (fw (.pointer (some ⟨ab F,ao F+I *5,none⟩)) (ET (kv) rfl rfl ((dQ.rds (i:=3) rfl).addr (i:=I) e6) e6) (fw (.agg (ay.cells au).toArray) (EY rfl (Fb (cs:=(ay.cells au)) Tryz.isAgg60 Tryz.sizeOf60 ((dQ.rds (i:=3) rfl).elem ay.len eX f3))) ?_))))))
 refine dK [.int .u64 0,vI 0, .int .u64 0, .int .u64 0, .slice none 0 0] 60 dQ ?_
 intro oo uf oq
 refine dN (ay.cells au) 0 oq Tryz.sizeOf60 ?_
 intro ug fK
 refine ns (Kz (vP oo 0) (Lz (vU au.bf) fK 0 E1 (Kz (vP p 9) (Lz (vU f.di) fK 1 E1 (Kz (.bool (decide (((au.bf:Nat):Int) < ((f.di:Nat):Int)))) (nt ?_))))))
 by_cases fM:((au.bf:Nat):Int) < ((f.di:Nat):Int)
 refine jT (dT fM) (sr (An rfl (rt (bR (tR (tR (bR (tR (bR (tR (tR (bR (bR (tR (tR (bR (tR (rs ?_))))))))))))))))))
 have ou:=fK.pk []
 obtain rfl:_=false:=hr.symm.trans (et (ah aa) (et (ah ae) (et (ip W) (et (ah aD) (et (ah X) (et (iN aG) (iY (et (aM) (et (congrArg (fun q=>gQ M q O b) di) (et (ah dC) (et (ah aN) (mX (et (aC) (et (congrArg (fun q=>gI l d q t) aO) (et (ip dh) (et (iN K) (et (iN dP) (mX (et (eU) (et (congrArg (fun q=>jG (bA.abs f) l q) iq) (ip fM)))))))))))))))))))))
 exact⟨rfl,ou⟩
 refine jF (dF fM) (Fq (bN (ER (EO (fw (vJ (I+1)) (EQ (e:=C7.wrap (((I:Nat):Int)+1)) yk f1) (Mz rfl (D0 ?_)))))))
 have ow:=fK.px [] [0] []
 exact E8 (I+1) ⟨rfl,rfl,rfl,rfl,rfl,rfl,rfl,rfl,rfl,rfl,rfl,rfl,rfl,rfl,rfl,rfl,rfl,rfl,rfl,rfl,rfl,rfl,rfl,rfl,rfl,rfl,rfl,rfl,rfl,rfl,rfl,rfl,rfl,rfl,rfl,rfl,rfl,rfl,rfl,rfl,rfl,rfl,rfl,rfl,rfl,rfl,rfl,rfl,trivial⟩ (eT.2 ⟨ow,e6,et (eU) (et (congrArg (fun q=>jG (bA.abs f) l q) iq) (iN fM))⟩) (by show d.aj.ls.length - (I+1) < d.aj.ls.length - I; omega)
 refine jF (dF jC) (D1 (EX ?_))
 have iw:jG (bA.abs f) l d.aj.ls=C1 ():=et (eU) (et (congrArg (fun q=>jG (bA.abs f) l q) (eD (ls:=d.aj.ls) (i:=I) e6)) rfl)
 refine EX (Fg (ER (sr (Mz rfl ?_))))
 have oz:=dQ.pf [7]
 obtain⟨G,eY⟩:∃ q,gG l=q:=⟨_,rfl⟩
 obtain⟨ui,kM,ry,kN,rz⟩:=Fu oz
 refine cl Tryz.call15 (oN _ _ n l G kM e8 eY) ?_
 rintro _ uj ⟨ek,iy,rfl,kP,iA⟩
 have jD:=kN _ _ kP
 have rA:=jD.rowC (i:=0) rfl
 replace iA:G.length≤l.aA.ls.length:=iA
 refine Kz (vJ G.length) (Mn rfl (bo ?_))
 have oF:=jD.pf []
 obtain⟨oG,fq⟩:=lK fun(N:Nat) (w':World)=>Own w D w' [row ek G.length iy (q6 (eN .u64) G) 28 1,iE n l,blk p (bA.cells f) 42,blk P [vI d.ak,vU d.ax,vU d.bi,vU d.aI, .slice Q d.ag.ls.length R, .slice F d.aj.ls.length J, .slice S d.aF.ls.length T] 33,row Q d.ag.ls.length R (q6 bv.cells d.ag.ls) 89 2,row F d.aj.ls.length J (q6 ay.cells dD) 60 5,sepL (q6 ay.own dD),row S d.aF.ls.length T (q6 aV.cells dM) 56 4,sepL (q6 aV.own dM),blk B [.slice u h.length L, .bool dY] 47,blk z (fZ.cells a) 44,row u h.length L (q6 bA.cells Y) 42 21,sepL (q6 bA.own Y)]∧N≤G.length∧jH (bA.abs f) G=jH (bA.abs f) (r6 N G)
 refine C5 (fun i:Nat=> [(2, .bool false),(106,vJ i),(105,vJ G.length),(104, .slice ek G.length iy),(103,vP n 0),(94, .bool (decide (((I:Nat):Int) < ((d.aj.ls.length:Nat):Int)))),(93,vJ I),(92,vJ d.aj.ls.length),(91, .slice F d.aj.ls.length J),(90,vP P 5),(6,vU f.di),(89,vU f.di),(88,vP p 9),(87, .bool (decide (((f.di:Nat):Int) > ((f.bf:Nat):Int)))),(86, .bool (decide (((f.di:Nat):Int) > ((f.bf:Nat):Int)))),(85,vU f.bf),(84,vP p 8),(83,vU f.di),(82,vP p 9),(81, .bool (decide (((f.di:Nat):Int) < ((t:Nat):Int)))),(80, .bool (decide (((f.di:Nat):Int) < ((t:Nat):Int)))),(79,vU t),(78,vU f.di),(77,vP p 9),(76, .bool (decide (¬ (f.aM=3)))),(75,vI f.aM),(74,vP p 0),(12,vP p 0),(73, .agg (bA.cells f).toArray),(72, .pointer (some ⟨ab u,ao u+r *21,none⟩)),(71, .bool (decide (((r:Nat):Int) < ((h.length:Nat):Int)))),(70,vJ r),(69,vJ h.length),(68, .slice u h.length L),(67,vP B 0),(10,vP P 0),(66, .agg #[vI d.ak,vU d.ax,vU d.bi,vU d.aI, .slice Q d.ag.ls.length R, .slice F d.aj.ls.length J, .slice S d.aF.ls.length T]),(65,vP n 0),(48, .bool (decide (a.kR=0))),(49, .bool (decide (a.kR=0))),(47,vI a.kR),(46,vP z 0),(9,vP B 0),(45, .agg #[.slice none 0 0, .bool false]),(8,vP z 0),(44, .agg (fZ.cells a).toArray),(43, .pointer (some ⟨ab A0,ao A0+j *25,none⟩)),(42, .bool (decide (((j:Nat):Int) < ((l0.length:Nat):Int)))),(41,vJ j),(40,vJ l0.length),(39, .slice A0 l0.length c0),(4,vP n 0),(3, .bool M)]) oG (fun i=>G.length - i) 0 ⟨rfl,rfl,rfl,rfl,rfl,rfl,rfl,rfl,rfl,rfl,rfl,rfl,rfl,rfl,rfl,rfl,rfl,rfl,rfl,rfl,rfl,rfl,rfl,rfl,rfl,rfl,rfl,rfl,rfl,rfl,rfl,rfl,rfl,rfl,rfl,rfl,rfl,rfl,rfl,rfl,rfl,rfl,rfl,rfl,rfl,rfl,rfl,rfl,rfl,rfl,rfl,rfl,rfl,trivial⟩ (fq.2 ⟨oF,e6,rfl⟩) ?_
 rintro N uk kQ
 obtain⟨dH,rC,fu⟩:=fq.1 kQ
 refine sr (Kz (.bool (decide (((N:Nat):Int) < ((G.length:Nat):Int)))) (nt (EP ?_)))
 by_cases jE:((N:Nat):Int) < ((G.length:Nat):Int)
 obtain⟨iB,iC⟩:=dG (ls:=G) (i:=N) nU f3 (dH.rds (i:=0) rfl) e9
 have iD:=drop_at iC
 refine jT (dT jE) (sk (EP (bo (sr (fw (.pointer (some ⟨ab ek,ao ek+N *1,none⟩)) (ET (sO) rfl rfl ((dH.rds (i:=0) rfl).addr (i:=N) e6) e6) (fw (vU iB) (EY rfl (bZ.one E1 (((dH.rds (i:=0) rfl).elem nU iC f3).at_ (k:=0) rfl))) (Ar rfl (Mz rfl (Kz (vP p 9) (Lz (vU f.di) dH 2 E1 (Kz (.bool (decide (((iB:Nat):Int) < ((f.di:Nat):Int)))) (nt ?_))))))))))))
 by_cases fO:((iB:Nat):Int) < ((f.di:Nat):Int)
 refine jT (dT fO) (sr (An rfl (rt (bR (tR (tR (bR (bR (tR (tR (bR (bR (tR (tR (bR (tR (rs ?_)))))))))))))))))
 have oH:=dH.pk []
 obtain rfl:_=false:=hr.symm.trans (et (ah aa) (et (ah ae) (et (ip W) (et (ah aD) (et (ah X) (et (iN aG) (iY (et (aM) (et (congrArg (fun q=>gQ M q O b) di) (et (ah dC) (et (ah aN) (mX (et (aC) (et (congrArg (fun q=>gI l d q t) aO) (et (ip dh) (et (iN K) (et (iN dP) (et (oK iw) (et (ah eY) (mX (et (fu) (et (congrArg (fun q=>jH (bA.abs f) q) iD) (ip fO)))))))))))))))))))))))
 exact⟨rfl,oH⟩
 refine jF (dF fO) (Fq (bN (ER (EO (fw (vJ (N+1)) (EQ (e:=C7.wrap (((N:Nat):Int)+1)) yk f1) (Mz rfl (D0 ?_)))))))
 have oI:=dH.pf []
 exact E8 (N+1) ⟨rfl,rfl,rfl,rfl,rfl,rfl,rfl,rfl,rfl,rfl,rfl,rfl,rfl,rfl,rfl,rfl,rfl,rfl,rfl,rfl,rfl,rfl,rfl,rfl,rfl,rfl,rfl,rfl,rfl,rfl,rfl,rfl,rfl,rfl,rfl,rfl,rfl,rfl,rfl,rfl,rfl,rfl,rfl,rfl,rfl,rfl,rfl,rfl,rfl,rfl,rfl,rfl,rfl,trivial⟩ (fq.2 ⟨oI,e6,et (fu) (et (congrArg (fun q=>jH (bA.abs f) q) iD) (iN fO))⟩) (by show G.length - (N+1) < G.length - N; omega)
 refine jF (dF jE) (D1 (EX ?_))
 have kR:jH (bA.abs f) G=C1 ():=et (fu) (et (congrArg (fun q=>jH (bA.abs f) q) (eD (ls:=G) (i:=N) e6)) rfl)
 refine EX (Fg (bN (ER (EO (fw (vJ (r+1)) (EQ (e:=C7.wrap (((r:Nat):Int)+1)) yk f1) (Mz rfl (D0 ?_)))))))
 have oJ:=dH.px [] [0,2] [1,9,10,11,12]
 exact E8 (f.di,r+1) ⟨rfl,rfl,rfl,rfl,rfl,rfl,rfl,rfl,rfl,rfl,rfl,rfl,rfl,rfl,rfl,rfl,rfl,rfl,rfl,rfl,rfl,rfl,rfl,rfl,trivial⟩ (dW.2 ⟨oJ,e6,et (aC) (et (congrArg (fun q=>gI l d q t) aO) (et (ip dh) (et (iN K) (et (iN dP) (et (oK iw) (et (ah eY) (oK kR)))))))⟩) (by show h.length - (r+1) < h.length - r; omega)
 refine jT (dT dh) (D1 (EX (Fg (ER (EO (fw (vJ (r+1)) (EQ (e:=C7.wrap (((r:Nat):Int)+1)) yk f1) (Mz rfl (D0 ?_))))))))
 have oL:=ak.px [] [0] []
 exact E8 (t,r+1) ⟨rfl,rfl,rfl,rfl,rfl,rfl,rfl,rfl,rfl,rfl,rfl,rfl,rfl,rfl,rfl,rfl,rfl,rfl,rfl,rfl,rfl,rfl,rfl,rfl,trivial⟩ (dW.2 ⟨oL,e6,et (aC) (et (congrArg (fun q=>gI l d q t) aO) (iN dh))⟩) (by show h.length - (r+1) < h.length - r; omega)
 refine jF (dF jB) (D1 (EX ?_))
 have kS:gI l d h O=C1 t:=et (aC) (et (congrArg (fun q=>gI l d q t) (eD (ls:=h) (i:=r) e6)) rfl)
 refine EX (Fg (bN (ER (EO (fw (vJ (j+1)) (EQ (e:=C7.wrap (((j:Nat):Int)+1)) yk f1) (Mz rfl (D0 ?_)))))))
 have oM:=df.pk [6]
 exact E8 (t,j+1,l) ⟨rfl,rfl,rfl,rfl,rfl,rfl,rfl,trivial⟩ (eu.2 ⟨oM,e6,by first | omega | (dsimp only; omega) | exact uw f5 f5,by first | assumption | exact xy f5 f5,Eq.trans (aM) (Eq.trans (congrArg (fun q=>gQ M q O b) di) (Eq.trans (ah dC) (Eq.trans (ah aN) (oK kS))))⟩) (by show l0.length - (j+1) < l0.length - j; omega)
 refine jF (dF iL) (D1 (EX ?_))
 have kT:gQ M l0 0 ag=C1 ():=et (aM) (et (congrArg (fun q=>gQ M q O b) (eD (ls:=l0) (i:=j) e6)) rfl)
 refine EX (Fg (ER (sr (Mz rfl (An rfl (rt (rs ?_)))))))
 have oO:=dX.pk []
 obtain rfl:_=M:=hr.symm.trans (et (ah aa) (et (ah ae) (et (ip W) (et (ah aD) (et (ah X) (et (iN aG) (nI kT)))))))
 exact⟨rfl,oO⟩
 refine Sz (dT W) (Sz (dT W) (Sz (dT W) (fw (.bool true) (Fa rfl (dT W) rfl) (nt (jt (sr (Az rfl (An rfl (rt (tR (Fin.res (lT rfl rfl rfl) (Mz rfl (Kz (.pointer none) (Kz (vI 1) (Az rfl (An rfl (EP (EP ?_))))))))))))))))))
 have jI:=iH.pk []
 refine EO (Mz rfl (Kz (.bool true) (Mz rfl (Sz rfl (Sz rfl (fw (.bool true) (Fa rfl rfl rfl) (Mz rfl (Sz rfl (Sz rfl (Sz rfl (fw (.bool true) (Fa rfl rfl rfl) (nt (jt (sr (Mz rfl (Mz rfl ?_))))))))))))))))
 rcases IW (M) with aK | aK
 refine FP (v:= .pointer none) rfl rfl aK rfl (E5 rfl) (Gz (.bool false) aK (fw (.bool false) (Fa rfl aK rfl) (An rfl (rt (tR (rs ?_))))))
 have oP:=jI.pk []
 obtain rfl:_=false:=hr.symm.trans (et (ah aa) (et (ah ae) (et (iN W) (ip aK))))
 exact⟨rfl,oP⟩
 refine Sz aK (Sz aK (fw (.bool false) (ES rfl aK rfl) (An rfl (rt (tR (rs ?_))))))
 have oQ:=jI.pk []
 obtain rfl:_=false:=hr.symm.trans (et (ah aa) (et (ah ae) (et (iN W) (fU aK))))
 exact⟨rfl,oQ⟩
end Go.Proofs.YtbkagebjhbphaaaGreat
