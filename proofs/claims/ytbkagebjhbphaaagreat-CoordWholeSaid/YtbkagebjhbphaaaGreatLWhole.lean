/-
 coord: the law CoordWhole
-/
import Derived.Test.YtbkagebjhbphaaaGreatRf
import Derived.Test.YtbkagebjhbphaaaGreatCoZ
namespace Go.Proofs.YtbkagebjhbphaaaGreat
open Int renaming toNat→C6
open IntKind renaming i64→C3,u64→C7
open List renaming drop→r4,flatMap→q4,getD→B8,mem_flatMap→Q6,mem_of_getElem?→D1,not_mem_nil→v7,toArray→v6
open Ll renaming mk→E0
open Sum renaming inl→B7,inr→B9
open _root_.Go.Proofs.Tryz renaming isAgg28→D2,isAgg29→V7,isAgg3→C2,isAgg33→U0,isAgg39→R6,isAgg45→U3,isAgg72→M8,sizeOf33→H2,sizeOf38→M9,sizeOf42→N9,sizeOf72→M7,underlying3→v8,underlying72→N3,underlying9→v9
open Wp renaming exit→C5,loop→C1
set_option maxRecDepth 100000
open Go.RowKit
set_option linter.unusedVariables false
set_option linter.unusedSectionVars false
set_option linter.unusedSimpArgs false
def gT (d:bZ) (i:Nat) (e:jA) (f:bW):List aN→Nat→Unit ⊕ Bool
  | [],c=>B7 ()
  | b::j,c=>bnd (kD b) fun g=>bnd (B8 e.aB.ls c default) fun a=>if(b.av=a.av)∧(b.aZ=a.aZ)∧(b.aG=a.aG)∧(b.aJ=a.aJ)∧(b.aR=a.aR)∧(b.aV=a.aV) then bnd (lv d.ag.ls f.eO g.1) fun h=>if h=true then gT d i e f j (c+1) else B9 (false) else B9 (false)
def eZ (g:Bool) (d:bZ) (e:List jA):List bW→Nat→Unit ⊕ Bool
  | [],c=>B7 ()
  | a::f,c=>if a.av=3 then bnd (B8 e c default) fun b=>if a.eO=b.bE then if((a.aF:Nat):Int)=((d.aF:Nat):Int) then if((a.aB.ls.length:Nat):Int)=((b.aB.ls.length:Nat):Int) then sW (gT d c b a a.aB.ls 0) fun _=>eZ g d e f (c+1) else B9 (false) else B9 (false) else B9 (false) else B9 (false)
def iP (d:bZ) (i:Nat) (e:jA) (f:bW):List aN→Nat→Unit ⊕ Bool
  | [],c=>B7 ()
  | b::j,c=>bnd (kD b) fun g=>bnd (B8 e.aB.ls c default) fun a=>if(b.av=a.av)∧(b.aZ=a.aZ)∧(b.aG=a.aG)∧(b.aJ=a.aJ)∧(b.aR=a.aR)∧(b.aV=a.aV) then bnd (lv d.ag.ls f.eO g.1) fun h=>if h=true then iP d i e f j (c+1) else B9 (false) else B9 (false)
def fZ (g:Bool) (d:bZ) (e:List jA):List bW→Nat→Unit ⊕ Bool
  | [],c=>B7 ()
  | a::f,c=>if a.av=3 then bnd (B8 e c default) fun b=>if a.eO=b.bE then if((a.aF:Nat):Int)=((d.aF:Nat):Int) then if((a.aB.ls.length:Nat):Int)=((b.aB.ls.length:Nat):Int) then sW (iP d c b a a.aB.ls 0) fun _=>fZ g d e f (c+1) else B9 (false) else B9 (false) else B9 (false) else B9 (false)
def rA (i:bZ) (l1:List aN):Bool:=
 bnd (uY) fun b=>bnd (gq i) fun h=>if h=0 then if((i.ax:Nat):Int)=2147483647 then if b=true then true else false else bnd (iq i) fun c=>bnd ((aD.mk (bZ.mk c.au (C6 (C7.wrap (((c.ax:Nat):Int)+1))) (fQ (C6 (C7.wrap (((c.ax:Nat):Int)+1))) 32) c.aF (E0 c.ag.ls) (E0 c.ak.ls) (E0 c.aK.ls)) 0 (E0 ([])) (dU.mk false 0 0 (E0 ([]))) (dU.mk false 0 0 (E0 ([]))) (dU.mk false 0 0 (E0 ([]))) (dU.mk false 0 0 (E0 ([]))) (dU.mk false 0 0 (E0 ([]))) 0 0 0 0 0)) fun f=>bnd (lL f) fun d=>bnd (dY f (bW.mk 1 12 0 0 0 0 4611686018427387904 d.ax 0 0 0 0 0 0 0 false (aL.mk ([]) ([])) (E0 l1) (E0 ([])) (E0 ([])))) fun a=>if a.2.1=0 then bnd (sS d.ag.ls l1) fun e=>if e.2=0 then if((a.1.cz.ls.length:Nat):Int)=1 then bnd (B8 a.1.cz.ls 0 default) fun g=>if g.av=2 then if b=true then if g.dK=2 then decide (((d.ak.ls.length:Nat):Int) > 0) else false else false else if((a.1.cz.ls.length:Nat):Int)=((e.1.length:Nat):Int) then lp (eZ b d e.1 a.1.cz.ls 0) fun _=>b else false else if((a.1.cz.ls.length:Nat):Int)=((e.1.length:Nat):Int) then lp (fZ b d e.1 a.1.cz.ls 0) fun _=>b else false else false else if b=true then decide (a.2.1=180) else false else if b=true then true else false
set_option maxHeartbeats 4000000 in
theorem wQ (w D) (z:bZ) (bi fO aK bu fT aO dO bA fU aP dP A1 n1 c1 l1 r0) (H:Own w D w []) (gP:fO=z.ag.ls.length) (fu:Ro w D fun w'=>aY w' 2 bi z.ag.ls.length (q4 aM.cells z.ag.ls)) (l5:z.ag.ls.length≤aK∧z.ag.ls.length≤9223372036854775807) (d9:List.map ay.abs dO=z.ak.ls) (gQ:fT=z.ak.ls.length) (fA:Ro w D fun w'=>aY w' 5 bu z.ak.ls.length (q4 ay.cells dO)) (l6:z.ak.ls.length≤aO∧z.ak.ls.length≤9223372036854775807) (dE:∀ x ∈ dO,Ro w D (fun w'=>aY w' 1 x.au.A x.au.ls.length (q4 (eI .i64) x.au.ls))∧(x.au.ls.length≤x.au.c∧x.au.ls.length≤9223372036854775807)) (ed:List.map aS.abs dP=z.aK.ls) (gU:fU=z.aK.ls.length) (fC:Ro w D fun w'=>aY w' 4 bA z.aK.ls.length (q4 aS.cells dP)) (l7:z.aK.ls.length≤aP∧z.aK.ls.length≤9223372036854775807) (aR:∀ x ∈ dP,Ro w D (fun w'=>aY w' 3 x.ah.A x.ah.ls.length (q4 af.cells x.ah.ls))∧(x.ah.ls.length≤x.ah.c∧x.ah.ls.length≤9223372036854775807)∧(∀ y1 ∈ x.ah.ls,Ro w D (fun w'=>aY w' 2 y1.aj.A y1.aj.ls.length (q4 aH.cells y1.aj.ls))∧(y1.aj.ls.length≤y1.aj.c∧y1.aj.ls.length≤9223372036854775807))) (jm:Ro w D fun w'=>aY w' 6 A1 n1 (q4 aN.cells l1)) (l8:n1=l1.length) (qh:l1.length≤9223372036854775807) (qi:l1.length≤c1) (qj:(-9223372036854775808)≤z.au∧z.au≤9223372036854775807) (qm:z.ax≤18446744073709551615) (qo:z.bG≤18446744073709551615) (qw:z.aF≤18446744073709551615) (qx:z.ag.ls.length *24≤140737488351232) (qy:z.ak.ls.length *56≤140737488351232) (qz:z.aK.ls.length *48≤140737488351232) (qA:l1.length *80≤140737488351232) (qB:zb z) (qC:l1.length≤140737488351232) (hr:rA z l1=r0):
    Calls Tryz.prog 6 #[.agg #[vI z.au,vU z.ax,vU z.bG,vU z.aF, .slice bi fO aK, .slice bu fT aO, .slice bA fU aP], .slice A1 n1 c1] w (dA fun v w'=>v= .bool r0∧Own w D w' []):=by
 subst l8 gP gQ gU
 have lX:=aA d9
 have lY:=aA ed
 refine cb Tryz.func6 ?_
 refine sr ?_
 refine dn [vI z.au,vU z.ax,vU z.bG,vU z.aF, .slice bi z.ag.ls.length aK, .slice bu z.ak.ls.length aO, .slice bA z.aK.ls.length aP] 33 H ?_
 intro l9 qD ma
 refine Ar rfl ?_
 obtain⟨Q,J⟩:∃ q,uY=q:=⟨_,rfl⟩
 obtain⟨qE,jo,nY,jq,nZ⟩:=Iu ma
 refine cl Tryz.call7 (Bp _ _ Q jo J) ?_
 rintro _ qF ⟨rfl,jr⟩
 have jv:=jq _ _ jr
 refine Ar rfl (La ([vI z.au,vU z.ax,vU z.bG,vU z.aF, .slice bi z.ag.ls.length aK, .slice bu z.ak.ls.length aO, .slice bA z.aK.ls.length aP]) jv 0 U0 H2 ?_)
 refine WL.do rfl (IP Tryz.call8 rfl ?_ (fun _ _ k=>k))
 refine cb Tryz.func8 ?_
 refine sr ?_
 refine dn [vI z.au,vU z.ax,vU z.bG,vU z.aF, .slice bi z.ag.ls.length aK, .slice bu z.ak.ls.length aO, .slice bA z.aK.ls.length aP] 33 jv ?_
 intro mf qG jw
 refine Az rfl (An rfl (Ik (sr (La ([vI z.au,vU z.ax,vU z.bG,vU z.aF, .slice bi z.ag.ls.length aK, .slice bu z.ak.ls.length aO, .slice bA z.aK.ls.length aP]) jw 0 U0 H2 ?_))))
 obtain⟨fK,I⟩:∃ q,gq z=q:=⟨_,rfl⟩
 obtain⟨qH,jy,dw,jB,og⟩:=Iu jw
 refine cl Tryz.call19 (oC _ _ z bi z.ag.ls.length aK bu z.ak.ls.length aO dO bA z.aK.ls.length aP dP fK jy rfl (dw _ fu) (show z.ag.ls.length≤aK∧z.ag.ls.length≤9223372036854775807 from by omega) d9 rfl (dw _ fA) (show z.ak.ls.length≤aO∧z.ak.ls.length≤9223372036854775807 from by omega) (fun x9 h9=>⟨dw _ (dE x9 h9).1,(dE x9 h9).2⟩) ed rfl (dw _ fC) (show z.aK.ls.length≤aP∧z.aK.ls.length≤9223372036854775807 from by omega) (fun x9 h9=>⟨dw _ (aR x9 h9).1,(aR x9 h9).2.1,(fun y1 k1=>⟨dw _ ((aR x9 h9).2.2 y1 k1).1,((aR x9 h9).2.2 y1 k1).2⟩)⟩) e8 I) ?_
 rintro _ qI ⟨rfl,jD⟩
 have fD:=jB _ _ jD
 refine fw (.bool (decide (¬ (fK=0)))) (IM (e:= !(decide (fK=0))) yk decide_not.symm) (Mz rfl ?_)
 by_cases X:fK=0
 obtain⟨oh,ol,om⟩:=DZ f5 I f5
 refine gw (vP mf 1) (dF (Lr X)) yk (gw (vU z.ax) (dF (Lr X)) (IB rfl (bJ.one D2 (I1 (fD.cls (i:=0) rfl) rfl))) (gw (.bool (decide (((z.ax:Nat):Int)=2147483647))) (dF (Lr X)) yk (fw (.bool (decide (((z.ax:Nat):Int)=2147483647))) (Io rfl (dF (Lr X)) rfl) (nt ?_))))
 by_cases aB:((z.ax:Nat):Int)=2147483647
 refine jT (dT aB) (sr (Az rfl (An rfl (rt (tR (Fin.res (lH rfl rfl rfl) (Mz rfl (Kz (.pointer none) (Kz (vI 1) (Az rfl (An rfl (Ik (Ik ?_)))))))))))))
 have jE:=fD.pk []
 refine Il (Mz rfl (Kz (.bool true) (nt (jt (sr (Mz rfl (Mz rfl ?_)))))))
 rcases Ls (Q) with dG | dG
 refine I7 (v:=vI 1) rfl rfl dG rfl (IA rfl) (Gz (.bool true) dG (fw (.bool true) (Iw rfl dG rfl) (An rfl (rt (tR (rs ?_))))))
 have mg:=jE.pk []
 obtain rfl:_=true:=hr.symm.trans (et (ae J) (et (ae I) (et (ip X) (et (ip aB) (ip dG)))))
 exact⟨rfl,mg⟩
 refine Sz dG (Sz dG (fw (.bool false) (Io rfl dG rfl) (An rfl (rt (tR (rs ?_))))))
 have mh:=jE.pk []
 obtain rfl:_=false:=hr.symm.trans (et (ae J) (et (ae I) (et (ip X) (et (ip aB) (fP dG)))))
 exact⟨rfl,mh⟩
 refine jF (dF aB) (sk (sr (La ([vI z.au,vU z.ax,vU z.bG,vU z.aF, .slice bi z.ag.ls.length aK, .slice bu z.ak.ls.length aO, .slice bA z.aK.ls.length aP]) fD 0 U0 H2 ?_)))
 obtain⟨R,T⟩:∃ q,iq z=q:=⟨_,rfl⟩
 obtain⟨qJ,jG,dx,jH,oo⟩:=Iu fD
 refine cl Tryz.call20 (oO _ _ z bi z.ag.ls.length aK bu z.ak.ls.length aO dO bA z.aK.ls.length aP dP R jG rfl (dx _ fu) (show z.ag.ls.length≤aK∧z.ag.ls.length≤9223372036854775807 from by omega) d9 rfl (dx _ fA) (show z.ak.ls.length≤aO∧z.ak.ls.length≤9223372036854775807 from by omega) (fun x9 h9=>⟨dx _ (dE x9 h9).1,(dE x9 h9).2⟩) ed rfl (dx _ fC) (show z.aK.ls.length≤aP∧z.aK.ls.length≤9223372036854775807 from by omega) (fun x9 h9=>⟨dx _ (aR x9 h9).1,(aR x9 h9).2.1,(fun y1 k1=>⟨dx _ ((aR x9 h9).2.2 y1 k1).1,((aR x9 h9).2.2 y1 k1).2⟩)⟩) e8 (by first | assumption | exact ym f5 | exact fun _ h9=>absurd h9 v7) (by first | assumption | exact yn f5 | exact fun _ h9=>absurd h9 v7) T) ?_
 rintro _ qK ⟨jJ,jK,jL,jM,jN,jO,qL,qM,rfl,jP,fV,gm⟩
 have fM:=jH _ _ jP
 have oq:=aA fV
 have ou:=aA gm
 have ow:=fM.rowC (i:=0) rfl
 have oz:=fM.rowC (i:=1) rfl
 have oD:=fM.rowC (i:=3) rfl
 refine Kz (.agg #[vI R.au,vU R.ax,vU R.bG,vU R.aF, .slice jJ R.ag.ls.length jK, .slice jL R.ak.ls.length jM, .slice jN R.aK.ls.length jO, .int .u64 0, .slice none 0 0, .bool false, .int .u64 0,vI 0, .slice none 0 0, .bool false, .int .u64 0,vI 0, .slice none 0 0, .bool false, .int .u64 0,vI 0, .slice none 0 0, .bool false, .int .u64 0,vI 0, .slice none 0 0, .bool false, .int .u64 0,vI 0, .slice none 0 0, .int .u64 0, .int .u64 0, .int .u64 0, .int .u64 0, .int .u64 0, .pointer none]) ?_
 refine dn [vI R.au,vU R.ax,vU R.bG,vU R.aF, .slice jJ R.ag.ls.length jK, .slice jL R.ak.ls.length jM, .slice jN R.aK.ls.length jO, .int .u64 0, .slice none 0 0, .bool false, .int .u64 0,vI 0, .slice none 0 0, .bool false, .int .u64 0,vI 0, .slice none 0 0, .bool false, .int .u64 0,vI 0, .slice none 0 0, .bool false, .int .u64 0,vI 0, .slice none 0 0, .bool false, .int .u64 0,vI 0, .slice none 0 0, .int .u64 0, .int .u64 0, .int .u64 0, .int .u64 0, .int .u64 0, .pointer none] 86 fM ?_
 intro aU qN mi
 refine An rfl (Ik ?_)
 have jQ:=mi.px [] [6] []
 refine Il (Mz rfl (Kz (vP aU 0) (Kz (vP aU 0) (Kz (vP aU 1) (Lz (vU R.ax) jQ 0 D2 (fw (.int .u64 ((C6 (C7.wrap (((R.ax:Nat):Int)+1)):Nat):Int)) (Ir (e:=C7.wrap (((R.ax:Nat):Int)+1)) yk (fB _)) (Kz (vP aU 0) (Kz (vP aU 0) (Kz (vP aU 1) ?_)))))))))
 refine df [.int .u64 ((C6 (C7.wrap (((R.ax:Nat):Int)+1)):Nat):Int)] 1 jQ Tryz.sizeOf28 ?_
 intro qO jS
 refine ns (Mz rfl (Mz rfl (Kz (vP aU 0) (Kz (vP aU 0) (Kz (vP aU 1) (Lz (.int .u64 ((C6 (C7.wrap (((R.ax:Nat):Int)+1)):Nat):Int)) jS 0 D2 ?_))))))
 have oF:fQ (C6 (C7.wrap (((R.ax:Nat):Int)+1))) 32≤18446744073709551615:=pq _ _
 refine fw (.int .u64 ((fQ (C6 (C7.wrap (((R.ax:Nat):Int)+1))) 32:Nat):Int)) (Ir (JO (m:=32) rfl rfl) (fB _)) (Kz (vP aU 0) (Kz (vP aU 0) (Kz (vP aU 2) ?_)))
 refine df [.int .u64 ((fQ (C6 (C7.wrap (((R.ax:Nat):Int)+1))) 32:Nat):Int)] 2 jS Tryz.sizeOf28 ?_
 intro bI mo
 refine ns (Mz rfl (Az rfl (An rfl (rt (Fin.res (lH rfl rfl rfl) ?_)))))
 have mq:Own w D bI (sepL (q4 bK.own ([]))::_):=mo.sepNil
 have mr:Own w D bI (row none 0 0 (q4 bK.cells ([])) 107 9::_):=mq.free (eP 107 9)
 have mD:Own w D bI (sepL (q4 af.own ([]))::_):=mr.sepNil
 have mE:Own w D bI (row none 0 0 (q4 af.cells ([])) 149 3::_):=mD.free (eP 149 3)
 have mH:Own w D bI (sepL (q4 af.own ([]))::_):=mE.sepNil
 have mI:Own w D bI (row none 0 0 (q4 af.cells ([])) 149 3::_):=mH.free (eP 149 3)
 have mJ:Own w D bI (sepL (q4 af.own ([]))::_):=mI.sepNil
 have mK:Own w D bI (row none 0 0 (q4 af.cells ([])) 149 3::_):=mJ.free (eP 149 3)
 have mM:Own w D bI (sepL (q4 af.own ([]))::_):=mK.sepNil
 have mO:Own w D bI (row none 0 0 (q4 af.cells ([])) 149 3::_):=mM.free (eP 149 3)
 have jU:Own w D bI (sepL (q4 af.own ([]))::_):=mO.sepNil
 have jV:Own w D bI (row none 0 0 (q4 af.cells ([])) 149 3::_):=jU.free (eP 149 3)
 have jW:=jV.pf [12,13,14,15,16,17,10,11]
 have jX:Own w D bI (jZ aU (aD.mk (bZ.mk R.au (C6 (C7.wrap (((R.ax:Nat):Int)+1))) (fQ (C6 (C7.wrap (((R.ax:Nat):Int)+1))) 32) R.aF (E0 R.ag.ls) (E0 R.ak.ls) (E0 R.aK.ls)) 0 (E0 ([])) (dU.mk false 0 0 (E0 ([]))) (dU.mk false 0 0 (E0 ([]))) (dU.mk false 0 0 (E0 ([]))) (dU.mk false 0 0 (E0 ([]))) (dU.mk false 0 0 (E0 ([]))) 0 0 0 0 0)::_):=iK fV gm rfl rfl rfl rfl rfl rfl jW
 obtain⟨aI,B⟩:∃ q,(aD.mk (bZ.mk R.au (C6 (C7.wrap (((R.ax:Nat):Int)+1))) (fQ (C6 (C7.wrap (((R.ax:Nat):Int)+1))) 32) R.aF (E0 R.ag.ls) (E0 R.ak.ls) (E0 R.aK.ls)) 0 (E0 ([])) (dU.mk false 0 0 (E0 ([]))) (dU.mk false 0 0 (E0 ([]))) (dU.mk false 0 0 (E0 ([]))) (dU.mk false 0 0 (E0 ([]))) (dU.mk false 0 0 (E0 ([]))) 0 0 0 0 0)=q:=⟨_,rfl⟩
 have jY:Own w D bI [jZ aU aI,blk l9 [vI z.au,vU z.ax,vU z.bG,vU z.aF, .slice bi z.ag.ls.length aK, .slice bu z.ak.ls.length aO, .slice bA z.aK.ls.length aP] 33]:=by rw [← B]; exact jX
 have mP:Mk aI:=G6 f5 f5 f5 f5 f5
 have mQ:aI.aa.ag.ls.length≤1000∧aI.aa.au≤4∧aI.aC.ls.length+aI.aa.ak.ls.length≤8∧aI.aa.aK.ls.length≤4:=FB f5 f5 f5 f5 f5
 refine Mz rfl (Kz (vP aU 0) (Kz (vI 0) (Az rfl (An rfl (Ik (Ik ?_))))))
 have j3:=jY.pk [0]
 refine Il (Mz rfl (Kz (.bool false) (nt (jf (sk (sr (Mz rfl ?_)))))))
 obtain⟨a,y⟩:∃ q,lL aI=q:=⟨_,rfl⟩
 obtain⟨oG,gV,mR,gW,mU⟩:=IZ j3
 refine cl Tryz.call11 (uq _ _ aU aI a gV e8 f5 y) ?_
 rintro _ oH ⟨aC,aF,bB,bC,bL,bM,bY,cu,rfl,gX,gY,gZ⟩
 have eU:=gW _ _ gX
 have mV:=aA gY
 have mW:=aA gZ
 have mX:=eU.rowC (i:=0) rfl
 have mY:=eU.rowC (i:=1) rfl
 have mZ:=eU.rowC (i:=3) rfl
 obtain⟨ng,ni,nk⟩:=Gy f5 f5 y
 refine dn [vI 0, .int .u64 0, .int .u64 0, .int .u64 0, .slice none 0 0, .slice none 0 0, .slice none 0 0] 33 eU ?_
 intro U oI j4
 refine df [vI a.au,vU a.ax,vU a.bG,vU a.aF, .slice aC a.ag.ls.length aF, .slice bB a.ak.ls.length bC, .slice bL a.aK.ls.length bM] 0 j4 H2 ?_
 intro oJ gp
 refine ns (Mz rfl (Kz (vP U 1) (Lz (vU a.ax) gp 0 D2 (Mz rfl (Kz (.agg (iA 1 12 0 0 0 0 4611686018427387904 a.ax 0 0 0 0 0 0 0 false ([]) ([]) A1 l1.length c1 none 0 0 none 0 0).toArray) ?_)))))
 have j5:=gp.pf [6]
 obtain⟨⟨g,bO,cK⟩,C⟩:∃ q:kG × Int × aD,dY aI (bW.mk 1 12 0 0 0 0 4611686018427387904 a.ax 0 0 0 0 0 0 0 false (aL.mk ([]) ([])) (E0 l1) (E0 ([])) (E0 ([])))=q:=⟨_,rfl⟩
 obtain⟨oK,ib,ic,ig,nu⟩:=IZ j5
 refine cl Tryz.call13 (jI _ _ aU aI (bW.mk 1 12 0 0 0 0 4611686018427387904 a.ax 0 0 0 0 0 0 0 false (aL.mk ([]) ([])) (E0 l1) (E0 ([])) (E0 ([]))) A1 l1.length c1 none 0 0 [] none 0 0 g bO cK ib rfl (ic _ jm) (show l1.length≤c1∧l1.length≤9223372036854775807 from by omega) rfl rfl (fun _ _=>aY.nil _ _ _) f3 (fun _ h9=>absurd h9 v7) rfl (fun _ _=>aY.nil _ _ _) f3 f8 f5 C) ?_
 rintro _ oL ⟨p,Z,aV,rfl,ik,dH,fE,fF⟩
 have gu:=ig _ _ ik
 have ny:=aA dH
 have nz:=gu.rowC (i:=0) rfl
 replace fE:cK.aa.ag.ls.length=aI.aa.ag.ls.length∧cK.aa.au=aI.aa.au∧cK.aC.ls.length+cK.aa.ak.ls.length≤8∧cK.aa.aK.ls.length≤aI.aa.aK.ls.length+1:=fE
 replace fF:Mk cK:=fF
 refine Mz rfl (Kz (.agg #[.slice p g.cz.ls.length Z, .bool g.jo]) (Kz (vI bO) ?_))
 refine dn [.slice none 0 0, .bool false] 47 gu ?_
 intro cO oM j6
 refine df [.slice p g.cz.ls.length Z, .bool g.jo] 0 j6 Tryz.sizeOf47 ?_
 intro oN kg
 refine An rfl (Ik (Ik ?_))
 have eX:=kg.px [] [3] []
 refine Il (Mz rfl (fw (.bool (decide (¬ (bO=0)))) (IM (e:= !(decide (bO=0))) yk decide_not.symm) (nt ?_)))
 by_cases S:bO=0
 refine jF (dF (Lr S)) (sk (sr (Kz (vP U 4) (Lz (.slice aC a.ag.ls.length aF) eX 3 V7 (Mz rfl ?_)))))
 obtain⟨⟨l,dR⟩,G⟩:∃ q:(List jA) × Int,sS a.ag.ls l1=q:=⟨_,rfl⟩
 obtain⟨oP,il,iw,iy,iB⟩:=Iu eX
 refine cl Tryz.call16 (CE _ _ aC a.ag.ls.length aF a.ag.ls A1 l1.length c1 l1 l dR il (iB _ 4 _ rfl aW) rfl e6 (iw _ jm) rfl e6 G) ?_
 rintro _ oQ ⟨f,M,bD,rfl,iD,eu⟩
 have N:=iy _ _ iD
 have nA:=aA eu
 have nC:=N.rowC (i:=0) rfl
 refine Mz rfl (Kz (.slice f l.length M) (Kz (vI dR) (Az rfl (An rfl (Ik (sr (Mz rfl (fw (.bool (decide (¬ (dR=0)))) (IM (e:= !(decide (dR=0))) yk decide_not.symm) (nt ?_)))))))))
 by_cases Y:dR=0
 refine jF (dF (Lr Y)) (sk (Ik (sr (Kz (vP cO 0) (Lz (.slice p g.cz.ls.length Z) N 2 U3 (Kz (vJ g.cz.ls.length) (Kz (.bool (decide (((g.cz.ls.length:Nat):Int)=1))) (Mz rfl ?_))))))))
 by_cases t:((g.cz.ls.length:Nat):Int)=1
 refine Gz (vP cO 0) (dT t) (Gl (.slice p g.cz.ls.length Z) (dT t) N 2 U3 ?_)
 obtain⟨ag,bS⟩:=dh (ls:=aV) (i:=0) bz.len f2 (N.rds (i:=3) rfl) e9
 have aG:=eY dH bS
 have nD:ag.aB.ls.length≤ag.aB.c∧ag.aB.ls.length≤9223372036854775807:=bq N (i:=4) rfl (φ:=fun _=>_) (az (Q6.2 ⟨ag,D1 bS,b1⟩) bn)
 have nE:ag.ah.ls.length≤ag.ah.c∧ag.ah.ls.length≤9223372036854775807:=bq N (i:=4) rfl (φ:=fun _=>_) (az (Q6.2 ⟨ag,D1 bS, .tail _ b1⟩) bn)
 have nG:ag.ag.ls.length≤ag.ag.c∧ag.ag.ls.length≤9223372036854775807:=bq N (i:=4) rfl (φ:=fun _=>_) (az (Q6.2 ⟨ag,D1 bS, .tail _ b2⟩) bn)
 refine gw (.pointer (some ⟨ab p,ao p+0 *21,none⟩)) (dT t) (Iz (rY) rfl rfl ((N.rds (i:=3) rfl).addr (i:=0) e6) e6) (Gz (.pointer (some ⟨ab p,ao p+0 *21,none⟩)) (dT t) (gw (vI ag.av) (dT t) (IB rfl (bJ.one C2 (((N.rds (i:=3) rfl).elem bz.len bS f2).at_ (k:=0) rfl))) (Gz (.bool (decide (ag.av=2))) (dT t) (fw (.bool (decide (ag.av=2))) (Iw rfl (dT t) rfl) (nt ?_)))))
 by_cases aJ:ag.av=2
 refine jT (dT aJ) (sr (Mz rfl (Mz rfl ?_)))
 rcases Ls (Q) with au | au
 refine Gz (vP cO 0) au (Gl (.slice p g.cz.ls.length Z) au N 2 U3 (I7 (v:= .pointer (some ⟨ab p,ao p+0 *21,none⟩)) rfl rfl au rfl (Iz (rY) rfl rfl ((N.rds (i:=3) rfl).addr (i:=0) e6) e6) (Gz (.pointer (some ⟨ab p,ao p+0 *21+4,none⟩)) au (I7 (v:=vI ag.dK) rfl rfl au rfl (IB rfl (bJ.one C2 (((N.rds (i:=3) rfl).elem bz.len bS f2).at_ (k:=4) rfl))) (Gz (.bool (decide (ag.dK=2))) au (fw (.bool (decide (ag.dK=2))) (Iw rfl au rfl) (Mz rfl ?_)))))))
 by_cases aQ:ag.dK=2
 refine Gz (vP U 5) (dT aQ) (Gl (.slice bB a.ak.ls.length bC) (dT aQ) N 5 Tryz.isAgg30 (Gz (vJ a.ak.ls.length) (dT aQ) (Gz (.bool (decide (((a.ak.ls.length:Nat):Int) > 0))) (dT aQ) (fw (.bool (decide (((a.ak.ls.length:Nat):Int) > 0))) (Iw rfl (dT aQ) rfl) (An rfl (rt (tR (rs ?_))))))))
 have ko:=N.pk []
 obtain rfl:_=decide (((a.ak.ls.length:Nat):Int) > 0):=hr.symm.trans (et (ae J) (et (ae I) (et (ip X) (et (iN aB) (et (ae T) (et (ae B) (et (ae y) (et (ae C) (et (ip S) (et (ae G) (et (ip Y) (et (ip t) (et (ae (aT aG)) (et (ip aJ) (et (ip au) (ip aQ))))))))))))))))
 exact⟨rfl,ko⟩
 refine Sz (dF aQ) (Sz (dF aQ) (Sz (dF aQ) (Sz (dF aQ) (fw (.bool false) (Io rfl (dF aQ) rfl) (An rfl (rt (tR (rs ?_))))))))
 have kr:=N.pk []
 obtain rfl:_=false:=hr.symm.trans (et (ae J) (et (ae I) (et (ip X) (et (iN aB) (et (ae T) (et (ae B) (et (ae y) (et (ae C) (et (ip S) (et (ae G) (et (ip Y) (et (ip t) (et (ae (aT aG)) (et (ip aJ) (et (ip au) (iN aQ))))))))))))))))
 exact⟨rfl,kr⟩
 refine Sz au (Sz au (Sz au (Sz au (Sz au (Sz au (fw (.bool false) (Io rfl au rfl) (Mz rfl (Sz rfl (Sz rfl (Sz rfl (Sz rfl (fw (.bool false) (Io rfl rfl rfl) (An rfl (rt (tR (rs ?_))))))))))))))))
 have ku:=N.pk []
 obtain rfl:_=false:=hr.symm.trans (et (ae J) (et (ae I) (et (ip X) (et (iN aB) (et (ae T) (et (ae B) (et (ae y) (et (ae C) (et (ip S) (et (ae G) (et (ip Y) (et (ip t) (et (ae (aT aG)) (et (ip aJ) (fP au)))))))))))))))
 exact⟨rfl,ku⟩
 refine jF (dF aJ) (sk (Ik (sr (Kz (vP cO 0) (Lz (.slice p g.cz.ls.length Z) N 2 U3 (Kz (vJ g.cz.ls.length) (Mz rfl (Kz (vJ l.length) (fw (.bool (decide (¬ (((g.cz.ls.length:Nat):Int)=((l.length:Nat):Int))))) (IM (e:= !(decide (((g.cz.ls.length:Nat):Int)=((l.length:Nat):Int)))) yk decide_not.symm) (nt ?_))))))))))
 by_cases bE:((g.cz.ls.length:Nat):Int)=((l.length:Nat):Int)
 refine jF (dF (Lr bE)) (sk (Ik (sr (Kz (vP cO 0) (Lz (.slice p g.cz.ls.length Z) N 2 U3 (Kz (vJ g.cz.ls.length) (Mn rfl (bo ?_))))))))
 have kv:=N.px [] [2] []
 obtain⟨kw,eB⟩:=lF fun (h:Nat) w'=>Own w D w' [row f l.length M (q4 dQ.cells bD) 70 3,sepL (q4 dQ.own bD),row p g.cz.ls.length Z (q4 bz.cells aV) 42 21,sepL (q4 bz.own aV),blk U [vI a.au,vU a.ax,vU a.bG,vU a.aF, .slice aC a.ag.ls.length aF, .slice bB a.ak.ls.length bC, .slice bL a.aK.ls.length bM] 33,row aC a.ag.ls.length aF (q4 aM.cells a.ag.ls) 89 2,row bB a.ak.ls.length bC (q4 ay.cells bY) 60 5,sepL (q4 ay.own bY),row bL a.aK.ls.length bM (q4 aS.cells cu) 56 4,sepL (q4 aS.own cu)]∧h≤g.cz.ls.length∧eZ Q a l g.cz.ls 0=eZ Q a l (r4 h g.cz.ls) h
 refine C1 (fun i:Nat=> [(4, .bool false),(95,vJ i),(94,vJ g.cz.ls.length),(93, .slice p g.cz.ls.length Z),(11, .slice f l.length M),(8,vP U 0),(5, .bool Q)]) kw (fun i=>g.cz.ls.length - i) 0 ⟨rfl,rfl,rfl,rfl,rfl,rfl,rfl,trivial⟩ (eB.2 ⟨kv,e6,rfl⟩) ?_
 rintro h oW iE
 obtain⟨cz,nH,aX⟩:=eB.1 iE
 refine sr (Kz (.bool (decide (((h:Nat):Int) < ((g.cz.ls.length:Nat):Int)))) (nt (Ik ?_)))
 by_cases gy:((h:Nat):Int) < ((g.cz.ls.length:Nat):Int)
 obtain⟨b,aZ⟩:=dh (ls:=aV) (i:=h) bz.len f2 (cz.rds (i:=2) rfl) e9
 have iF:=eY dH aZ
 have nI:b.aB.ls.length≤b.aB.c∧b.aB.ls.length≤9223372036854775807:=bq cz (i:=3) rfl (φ:=fun _=>_) (az (Q6.2 ⟨b,D1 aZ,b1⟩) bn)
 have nJ:b.ah.ls.length≤b.ah.c∧b.ah.ls.length≤9223372036854775807:=bq cz (i:=3) rfl (φ:=fun _=>_) (az (Q6.2 ⟨b,D1 aZ, .tail _ b1⟩) bn)
 have nK:b.ag.ls.length≤b.ag.c∧b.ag.ls.length≤9223372036854775807:=bq cz (i:=3) rfl (φ:=fun _=>_) (az (Q6.2 ⟨b,D1 aZ, .tail _ b2⟩) bn)
 have bG:=drop_at iF
 refine jT (dT gy) (sk (Ik (bo (sr (Mz rfl (fw (.pointer (some ⟨ab p,ao p+h *21,none⟩)) (Iz (rY) rfl rfl ((cz.rds (i:=2) rfl).addr (i:=h) e6) e6) (fw (.agg (bz.cells b).toArray) (IB rfl (IJ (cs:=(bz.cells b)) Tryz.isAgg42 N9 ((cz.rds (i:=2) rfl).elem bz.len aZ f2))) ?_)))))))
 refine dn (iA 0 0 0 0 0 0 0 0 0 0 0 0 0 0 0 false ([]) ([]) none 0 0 none 0 0 none 0 0) 42 cz ?_
 intro ah oZ ky
 refine Az rfl ?_
 refine df (bz.cells b) 0 ky N9 ?_
 intro o5 kz
 refine nt (Ik (Ik ?_))
 refine oV 11 [] (IE (IE (bv.block (IE (IE (bv.block (IE IQ))))))) kz ?_
 intro o6 dz
 refine qp ah 0 0 rfl (ql 1 rfl 0 C2 rfl rfl rfl (qt (v:= .bool (decide (¬ (b.av=3)))) 2 rfl (fun _ _=>IM (e:= !(decide (b.av=3))) yk decide_not.symm) (qv 3 rfl rfl ?_)))
 by_cases O:b.av=3
 refine Iy (v:=vP ah 2) (rs:= []) 4 rfl rfl rfl (dF (Lr O)) e7 (fun _ _=>yk) (Iy (v:=vI b.eO) (rs:= []) 5 rfl rfl rfl (dF (Lr O)) e7 (fun _ ⟨_,H9⟩=>IB rfl (bJ.one C2 (I1 (H9.cls (i:=0) rfl) rfl))) (Iy (v:= .slice f l.length M) (rs:= []) 6 rfl rfl rfl (dF (Lr O)) e7 (fun _ _=>IA rfl) (Iy (v:=vJ h) (rs:= []) 7 rfl rfl rfl (dF (Lr O)) e7 (fun _ _=>IA rfl) ?_)))
 obtain⟨n,bT⟩:=iG (ls:=bD) (i:=h) e9
 have bU:=eY eu bT
 refine Iy (v:= .pointer (some ⟨ab f,ao f+h *3,none⟩)) (rs:= []) 8 rfl rfl rfl (dF (Lr O)) e7 (fun _ ⟨_,H9⟩=>Iz (xe) rfl rfl ((H9.rds (i:=1) rfl).addr (i:=h) e6) e6) (Iy (v:= .pointer (some ⟨ab f,ao f+h *3,none⟩)) (rs:= []) 9 rfl rfl rfl (dF (Lr O)) e7 (fun _ _=>yk) (Iy (v:=vI n.bE) (rs:= []) 10 rfl rfl rfl (dF (Lr O)) e7 (fun _ ⟨_,H9⟩=>IB rfl (bJ.one C2 (((H9.rds (i:=1) rfl).elem dQ.len bT f2).at_ (k:=0) rfl))) (Iy (v:= .bool (decide (¬ (b.eO=n.bE)))) (rs:= []) 11 rfl rfl rfl (dF (Lr O)) e7 (fun _ _=>IM (e:= !(decide (b.eO=n.bE))) yk decide_not.symm) (qt (v:= .bool (decide (¬ (b.eO=n.bE)))) 12 rfl (fun _ _=>Io rfl (dF (Lr O)) rfl) (qv 13 rfl rfl ?_)))))
 by_cases av:b.eO=n.bE
 refine Iy (v:=vP ah 11) (rs:= []) 14 rfl rfl rfl (dF (Lr av)) e7 (fun _ _=>yk) (Iy (v:=vU b.aF) (rs:= []) 15 rfl rfl rfl (dF (Lr av)) e7 (fun _ ⟨_,H9⟩=>IB rfl (bJ.one D2 (I1 (H9.cls (i:=0) rfl) rfl))) (Iy (v:=vP U 3) (rs:= []) 16 rfl rfl rfl (dF (Lr av)) e7 (fun _ _=>yk) (Iy (v:=vU a.aF) (rs:= []) 17 rfl rfl rfl (dF (Lr av)) e7 (fun _ ⟨_,H9⟩=>IB rfl (bJ.one D2 (I1 (H9.cls (i:=5) rfl) rfl))) (Iy (v:= .bool (decide (¬ (((b.aF:Nat):Int)=((a.aF:Nat):Int))))) (rs:= []) 18 rfl rfl rfl (dF (Lr av)) e7 (fun _ _=>IM (e:= !(decide (((b.aF:Nat):Int)=((a.aF:Nat):Int)))) yk decide_not.symm) (qt (v:= .bool (decide (¬ (((b.aF:Nat):Int)=((a.aF:Nat):Int))))) 19 rfl (fun _ _=>Io rfl (dF (Lr av)) rfl) (qv 20 rfl rfl ?_))))))
 by_cases K:((b.aF:Nat):Int)=((a.aF:Nat):Int)
 refine Iy (v:=vP ah 18) (rs:= []) 21 rfl rfl rfl (dF (Lr K)) e7 (fun _ _=>yk) (Iy (v:= .slice b.aB.A b.aB.ls.length b.aB.c) (rs:= []) 22 rfl rfl rfl (dF (Lr K)) e7 (fun _ ⟨_,H9⟩=>IB rfl (bJ.one R6 (I1 (H9.cls (i:=0) rfl) rfl))) (Iy (v:=vJ b.aB.ls.length) (rs:= []) 23 rfl rfl rfl (dF (Lr K)) e7 (fun _ _=>yk) (Iy (v:= .slice f l.length M) (rs:= []) 24 rfl rfl rfl (dF (Lr K)) e7 (fun _ _=>IA rfl) (Iy (v:=vJ h) (rs:= []) 25 rfl rfl rfl (dF (Lr K)) e7 (fun _ _=>IA rfl) (Iy (v:= .pointer (some ⟨ab f,ao f+h *3,none⟩)) (rs:= []) 26 rfl rfl rfl (dF (Lr K)) e7 (fun _ ⟨_,H9⟩=>Iz (xe) rfl rfl ((H9.rds (i:=1) rfl).addr (i:=h) e6) e6) (Iy (v:= .pointer (some ⟨ab f,ao f+h *3+1,none⟩)) (rs:= []) 27 rfl rfl rfl (dF (Lr K)) e7 (fun _ _=>yk) (Iy (v:= .slice n.aB.A n.aB.ls.length n.aB.c) (rs:= []) 28 rfl rfl rfl (dF (Lr K)) e7 (fun _ ⟨_,H9⟩=>IB rfl (bJ.one R6 (((H9.rds (i:=1) rfl).elem dQ.len bT f2).at_ (k:=1) rfl))) (Iy (v:=vJ n.aB.ls.length) (rs:= []) 29 rfl rfl rfl (dF (Lr K)) e7 (fun _ _=>yk) (Iy (v:= .bool (decide (¬ (((b.aB.ls.length:Nat):Int)=((n.aB.ls.length:Nat):Int))))) (rs:= []) 30 rfl rfl rfl (dF (Lr K)) e7 (fun _ _=>IM (e:= !(decide (((b.aB.ls.length:Nat):Int)=((n.aB.ls.length:Nat):Int)))) yk decide_not.symm) (qt (v:= .bool (decide (¬ (((b.aB.ls.length:Nat):Int)=((n.aB.ls.length:Nat):Int))))) 31 rfl (fun _ _=>Io rfl (dF (Lr K)) rfl) (qn (Iq ?_))))))))))))
 by_cases dB:((b.aB.ls.length:Nat):Int)=((n.aB.ls.length:Nat):Int)
 refine jF (dF (Lr dB)) (sk (sr (Kz (vP ah 18) (Lz (.slice b.aB.A b.aB.ls.length b.aB.c) dz 0 R6 (Kz (vJ b.aB.ls.length) (Mn rfl (bo ?_)))))))
 have kC:=dz.pf []
 obtain⟨kE,eD⟩:=lF fun (V:Nat) w'=>Own w D w' [blk ah (bz.cells b) 42,row f l.length M (q4 dQ.cells bD) 70 3,sepL (q4 dQ.own bD),row p g.cz.ls.length Z (q4 bz.cells aV) 42 21,sepL (q4 bz.own aV),blk U [vI a.au,vU a.ax,vU a.bG,vU a.aF, .slice aC a.ag.ls.length aF, .slice bB a.ak.ls.length bC, .slice bL a.aK.ls.length bM] 33,row aC a.ag.ls.length aF (q4 aM.cells a.ag.ls) 89 2,row bB a.ak.ls.length bC (q4 ay.cells bY) 60 5,sepL (q4 ay.own bY),row bL a.aK.ls.length bM (q4 aS.cells cu) 56 4,sepL (q4 aS.own cu)]∧V≤b.aB.ls.length∧gT a h (dQ.abs n) (bz.abs b) b.aB.ls 0=gT a h (dQ.abs n) (bz.abs b) (r4 V b.aB.ls) V
 refine C1 (fun i:Nat=> [(4, .bool false),(135,vJ i),(134,vJ b.aB.ls.length),(133, .slice b.aB.A b.aB.ls.length b.aB.c),(132,vP ah 18),(131, .bool (decide (¬ (((b.aB.ls.length:Nat):Int)=((n.aB.ls.length:Nat):Int))))),(130, .bool (decide (¬ (((b.aB.ls.length:Nat):Int)=((n.aB.ls.length:Nat):Int))))),(129,vJ n.aB.ls.length),(128, .slice n.aB.A n.aB.ls.length n.aB.c),(127, .pointer (some ⟨ab f,ao f+h *3+1,none⟩)),(126, .pointer (some ⟨ab f,ao f+h *3,none⟩)),(125,vJ h),(124, .slice f l.length M),(123,vJ b.aB.ls.length),(122, .slice b.aB.A b.aB.ls.length b.aB.c),(121,vP ah 18),(120, .bool (decide (¬ (((b.aF:Nat):Int)=((a.aF:Nat):Int))))),(119, .bool (decide (¬ (((b.aF:Nat):Int)=((a.aF:Nat):Int))))),(118, .bool (decide (¬ (((b.aF:Nat):Int)=((a.aF:Nat):Int))))),(117,vU a.aF),(116,vP U 3),(115,vU b.aF),(114,vP ah 11),(113, .bool (decide (¬ (b.eO=n.bE)))),(112, .bool (decide (¬ (b.eO=n.bE)))),(111, .bool (decide (¬ (b.eO=n.bE)))),(110,vI n.bE),(109, .pointer (some ⟨ab f,ao f+h *3,none⟩)),(108, .pointer (some ⟨ab f,ao f+h *3,none⟩)),(107,vJ h),(106, .slice f l.length M),(105,vI b.eO),(104,vP ah 2),(103, .bool (decide (¬ (b.av=3)))),(102, .bool (decide (¬ (b.av=3)))),(101,vI b.av),(100,vP ah 0),(13,vJ h),(14,vP ah 0),(99, .agg (bz.cells b).toArray),(98, .pointer (some ⟨ab p,ao p+h *21,none⟩)),(97,vJ h),(96, .bool (decide (((h:Nat):Int) < ((g.cz.ls.length:Nat):Int)))),(95,vJ h),(94,vJ g.cz.ls.length),(93, .slice p g.cz.ls.length Z),(11, .slice f l.length M),(8,vP U 0),(5, .bool Q)]) kE (fun i=>b.aB.ls.length - i) 0 ⟨rfl,rfl,rfl,rfl,rfl,rfl,rfl,rfl,rfl,rfl,rfl,rfl,rfl,rfl,rfl,rfl,rfl,rfl,rfl,rfl,rfl,rfl,rfl,rfl,rfl,rfl,rfl,rfl,rfl,rfl,rfl,rfl,rfl,rfl,rfl,rfl,rfl,rfl,rfl,rfl,rfl,rfl,rfl,rfl,rfl,rfl,rfl,rfl,rfl,trivial⟩ (eD.2 ⟨kC,e6,rfl⟩) ?_
 rintro V o7 iH
 obtain⟨dS,nL,dI⟩:=eD.1 iH
 refine sr (Kz (.bool (decide (((V:Nat):Int) < ((b.aB.ls.length:Nat):Int)))) (nt (Ik ?_)))
 by_cases gz:((V:Nat):Int) < ((b.aB.ls.length:Nat):Int)
 obtain⟨r,fG⟩:=dh (ls:=b.aB.ls) (i:=V) aN.len f2 (bq dS (i:=4) rfl (az (Q6.2 ⟨b,D1 aZ,b1⟩) aW)) e9
 have eF:=drop_at fG
 refine jT (dT gz) (sk (Ik (bo (sr (Mz rfl (fw (.pointer (some ⟨ab b.aB.A,ao b.aB.A+V *6,none⟩)) (Iz (mG) rfl rfl ((bq dS (i:=4) rfl (az (Q6.2 ⟨b,D1 aZ,b1⟩) aW)).addr (i:=V) e6) e6) (fw (.agg (aN.cells r).toArray) (IB rfl (IJ (cs:=(aN.cells r)) M8 M7 ((bq dS (i:=4) rfl (az (Q6.2 ⟨b,D1 aZ,b1⟩) aW)).elem aN.len fG f2))) ?_)))))))
 refine dn [vI 0, .string ⟨v6 ([])⟩, .string ⟨v6 ([])⟩, .string ⟨v6 ([])⟩, .string ⟨v6 ([])⟩,vI 0] 72 dS ?_
 intro o8 pg kF
 refine Az rfl ?_
 refine df (aN.cells r) 0 kF M7 ?_
 intro pu gB
 refine ns (La (aN.cells r) gB 0 M8 M7 ?_)
 obtain⟨⟨cZ,gD⟩,dJ⟩:∃ q:aL × Int,kD r=q:=⟨_,rfl⟩
 obtain⟨pz,iI,nM,iJ,nN⟩:=Iu gB
 refine cl Tryz.call17 (wU _ _ r cZ gD iI dJ) ?_
 rintro _ pE ⟨rfl,iL⟩
 have kH:=iJ _ _ iL
 refine Mz rfl (Kz (.agg (aL.cells cZ).toArray) (Kz (vI gD) ?_))
 refine dn [.string ⟨v6 ([])⟩, .string ⟨v6 ([])⟩] 38 kH ?_
 intro pF pG kI
 refine df (aL.cells cZ) 0 kI M9 ?_
 intro pI kJ
 refine An rfl (Ik ?_)
 refine oV 13 [] (IE (bv.block (IE (IE (bv.block (bv.block (IE (IE (bv.block (IE IQ)))))))))) kJ ?_
 intro pJ gF
 refine qt (v:= .agg (aN.cells r).toArray) 0 rfl (fun _ ⟨_,H9⟩=>IB rfl (IJ (cs:=(aN.cells r)) M8 M7 ((H9.cls (i:=1) rfl).lit (k:=0) (m:=6) rfl))) (qv 1 rfl rfl (qv 2 rfl rfl (qt (v:= .pointer (some ⟨ab f,ao f+h *3,none⟩)) 3 rfl (fun _ ⟨_,H9⟩=>Iz (xe) rfl rfl ((H9.rds (i:=3) rfl).addr (i:=h) e6) e6) (qk (.pointer (some ⟨ab f,ao f+h *3+1,none⟩)) 4 rfl (qt (v:= .slice n.aB.A n.aB.ls.length n.aB.c) 5 rfl (fun _ ⟨_,H9⟩=>IB rfl (bJ.one R6 (((H9.rds (i:=3) rfl).elem dQ.len bT f2).at_ (k:=1) rfl))) (qv 6 rfl rfl ?_))))))
 obtain⟨E,dK⟩:=iG (ls:=n.aB.ls) (i:=V) e9
 refine qt (v:= .pointer (some ⟨ab n.aB.A,ao n.aB.A+V *6,none⟩)) 7 rfl (fun _ ⟨_,H9⟩=>Iz (mG) rfl rfl ((bq H9 (i:=4) rfl (az (Q6.2 ⟨n,D1 bT,b1⟩) aW)).addr (i:=V) e6) e6) (qt (v:= .agg (aN.cells E).toArray) 8 rfl (fun _ ⟨_,H9⟩=>IB rfl (IJ (cs:=(aN.cells E)) M8 M7 ((bq H9 (i:=4) rfl (az (Q6.2 ⟨n,D1 bT,b1⟩) aW)).elem aN.len dK f2))) (qt (v:= .bool (decide (¬ ((r.av=E.av)∧(r.aZ=E.aZ)∧(r.aG=E.aG)∧(r.aJ=E.aJ)∧(r.aR=E.aR)∧(r.aV=E.aV))))) 9 rfl (fun _ _=>IM (e:= !(decide ((r.av=E.av)∧(r.aZ=E.aZ)∧(r.aG=E.aG)∧(r.aJ=E.aJ)∧(r.aR=E.aR)∧(r.aV=E.aV)))) (Jo rfl rfl e7 rfl (iQ.struct N3 e7 (iC.dec (iC.cons (u:=vI r.av) (v:=vI E.av) f2 (fun _=>by kernel_rfl) (fun _=>by kernel_rfl) (iQ.int v8) (iC.cons (u:= .string ⟨v6 r.aZ⟩) (v:= .string ⟨v6 E.aZ⟩) f2 (fun _=>by kernel_rfl) (fun _=>by kernel_rfl) (iQ.string v9) (iC.cons (u:= .string ⟨v6 r.aG⟩) (v:= .string ⟨v6 E.aG⟩) f2 (fun _=>by kernel_rfl) (fun _=>by kernel_rfl) (iQ.string v9) (iC.cons (u:= .string ⟨v6 r.aJ⟩) (v:= .string ⟨v6 E.aJ⟩) f2 (fun _=>by kernel_rfl) (fun _=>by kernel_rfl) (iQ.string v9) (iC.cons (u:= .string ⟨v6 r.aR⟩) (v:= .string ⟨v6 E.aR⟩) f2 (fun _=>by kernel_rfl) (fun _=>by kernel_rfl) (iQ.string v9) (iC.cons (u:=vI r.aV) (v:=vI E.aV) f2 (fun _=>by kernel_rfl) (fun _=>by kernel_rfl) (iQ.int v8) (iC.nil.up (Lp _)))))))) ((congrArg (decide (r.av=E.av) && ·) ((congrArg (decide (r.aZ=E.aZ) && ·) ((congrArg (decide (r.aG=E.aG) && ·) ((congrArg (decide (r.aJ=E.aJ) && ·) ((congrArg (decide (r.aR=E.aR) && ·) o9).trans gG)).trans gG)).trans gG)).trans gG)).trans gG)))) decide_not.symm) (qv 10 rfl rfl ?_)))
 by_cases ai:(r.av=E.av)∧(r.aZ=E.aZ)∧(r.aG=E.aG)∧(r.aJ=E.aJ)∧(r.aR=E.aR)∧(r.aV=E.aV)
 refine Iy (v:=vP U 4) (rs:= []) 11 rfl rfl rfl (dF (Lr ai)) e7 (fun _ _=>yk) (Iy (v:= .slice aC a.ag.ls.length aF) (rs:= []) 12 rfl rfl rfl (dF (Lr ai)) e7 (fun _ ⟨_,H9⟩=>IB rfl (bJ.one V7 (I1 (H9.cls (i:=7) rfl) rfl))) (Iy (v:=vP ah 2) (rs:= []) 13 rfl rfl rfl (dF (Lr ai)) e7 (fun _ _=>yk) (Iy (v:=vI b.eO) (rs:= []) 14 rfl rfl rfl (dF (Lr ai)) e7 (fun _ ⟨_,H9⟩=>IB rfl (bJ.one C2 (I1 (H9.cls (i:=2) rfl) rfl))) (Iy (v:= .agg (aL.cells cZ).toArray) (rs:= []) 15 rfl rfl rfl (dF (Lr ai)) e7 (fun _ ⟨_,H9⟩=>IB rfl (IJ (cs:=(aL.cells cZ)) Tryz.isAgg38 M9 ((H9.cls (i:=0) rfl).lit (k:=0) (m:=2) rfl))) ?_))))
 obtain⟨fe,eG⟩:∃ q,lv a.ag.ls b.eO cZ=q:=⟨_,rfl⟩
 obtain⟨pK,iM,nO,iO,iR⟩:=Iu gF
 refine Jl 16 rfl rfl rfl (dF (Lr ai)) e7 (IP Tryz.call18 rfl (wV _ _ aC a.ag.ls.length aF a.ag.ls b.eO cZ fe iM (iR _ 8 _ rfl aW) rfl e6 eG) ?_)
 rintro _ pM ⟨rfl,iT⟩
 have fH:=iO _ _ iT
 refine⟨.inr ⟨_,fH⟩, ?_⟩
 refine Iy (v:= .bool (!fe)) (rs:= []) 17 rfl rfl rfl (dF (Lr ai)) e7 (fun _ _=>yk) (qt (v:= .bool (!fe)) 18 rfl (fun _ _=>Io rfl (dF (Lr ai)) rfl) (qn (Iq ?_)))
 rcases Ls (fe) with dV | dV
 refine jF (cn dV) (IU (bN (Iq (Il (fw (vJ (V+1)) (Ir (e:=C3.wrap (((V:Nat):Int)+1)) yk f0) (Mz rfl (WL.nil ?_)))))))
 have kK:=fH.px [] [0,1] []
 exact II (V+1) ⟨rfl,rfl,rfl,rfl,rfl,rfl,rfl,rfl,rfl,rfl,rfl,rfl,rfl,rfl,rfl,rfl,rfl,rfl,rfl,rfl,rfl,rfl,rfl,rfl,rfl,rfl,rfl,rfl,rfl,rfl,rfl,rfl,rfl,rfl,rfl,rfl,rfl,rfl,rfl,rfl,rfl,rfl,rfl,rfl,rfl,rfl,rfl,rfl,rfl,trivial⟩ (eD.2 ⟨kK,e6,et (dI) (et (congrArg (fun q=>gT a h (dQ.abs n) (bz.abs b) q V) eF) (et (ae dJ) (et (ae (aT dK)) (et (ip ai) (et (ae eG) (ip dV))))))⟩) (by show b.aB.ls.length - (V+1) < b.aB.ls.length - V; omega)
 refine jT (cn dV) (sr (An rfl (rt (bR (tR (tR (bR (bR (tR (tR (bR (tR (rs ?_)))))))))))))
 have kL:=fH.pk []
 obtain rfl:_=false:=hr.symm.trans (et (ae J) (et (ae I) (et (ip X) (et (iN aB) (et (ae T) (et (ae B) (et (ae y) (et (ae C) (et (ip S) (et (ae G) (et (ip Y) (et (ip t) (et (ae (aT aG)) (et (iN aJ) (et (ip bE) (gL (et (aX) (et (congrArg (fun q=>eZ Q a l q h) bG) (et (ip O) (et (ae (aT bU)) (et (ip av) (et (ip K) (et (ip dB) (oU (et (dI) (et (congrArg (fun q=>gT a h (dQ.abs n) (bz.abs b) q V) eF) (et (ae dJ) (et (ae (aT dK)) (et (ip ai) (et (ae eG) (fP dV)))))))))))))))))))))))))))))))
 exact⟨rfl,kL⟩
 refine Ip (rs:= []) 11 rfl rfl rfl (dT ai) e7 (Ip (rs:= []) 12 rfl rfl rfl (dT ai) e7 (Ip (rs:= []) 13 rfl rfl rfl (dT ai) e7 (Ip (rs:= []) 14 rfl rfl rfl (dT ai) e7 (Ip (rs:= []) 15 rfl rfl rfl (dT ai) e7 (Ip (rs:= []) 16 rfl rfl rfl (dT ai) e7 (Ip (rs:= []) 17 rfl rfl rfl (dT ai) e7 (qt (v:= .bool true) 18 rfl (fun _ _=>Iw rfl (dT ai) rfl) (qn (Iq (jt (sr (An rfl (rt (bR (tR (tR (bR (bR (tR (tR (bR (tR (rs ?_)))))))))))))))))))))))
 have kM:=gF.pk []
 obtain rfl:_=false:=hr.symm.trans (et (ae J) (et (ae I) (et (ip X) (et (iN aB) (et (ae T) (et (ae B) (et (ae y) (et (ae C) (et (ip S) (et (ae G) (et (ip Y) (et (ip t) (et (ae (aT aG)) (et (iN aJ) (et (ip bE) (gL (et (aX) (et (congrArg (fun q=>eZ Q a l q h) bG) (et (ip O) (et (ae (aT bU)) (et (ip av) (et (ip K) (et (ip dB) (oU (et (dI) (et (congrArg (fun q=>gT a h (dQ.abs n) (bz.abs b) q V) eF) (et (ae dJ) (et (ae (aT dK)) (iN ai)))))))))))))))))))))))))))))
 exact⟨rfl,kM⟩
 refine jF (dF gz) (C5 (IC ?_))
 have iU:gT a h (dQ.abs n) (bz.abs b) b.aB.ls 0=B7 ():=et (dI) (et (congrArg (fun q=>gT a h (dQ.abs n) (bz.abs b) q V) (dZ (ls:=b.aB.ls) (i:=V) e6)) rfl)
 refine IC (IK (bN (Iq (Il (fw (vJ (h+1)) (Ir (e:=C3.wrap (((h:Nat):Int)+1)) yk f0) (Mz rfl (WL.nil ?_)))))))
 have kN:=dS.px [] [0] []
 exact II (h+1) ⟨rfl,rfl,rfl,rfl,rfl,rfl,rfl,trivial⟩ (eB.2 ⟨kN,e6,et (aX) (et (congrArg (fun q=>eZ Q a l q h) bG) (et (ip O) (et (ae (aT bU)) (et (ip av) (et (ip K) (et (ip dB) (sH iU)))))))⟩) (by show g.cz.ls.length - (h+1) < g.cz.ls.length - h; omega)
 refine jT (dT dB) (sr (An rfl (rt (tR (bR (tR (tR (bR (tR (rs ?_))))))))))
 have kP:=dz.pk []
 obtain rfl:_=false:=hr.symm.trans (et (ae J) (et (ae I) (et (ip X) (et (iN aB) (et (ae T) (et (ae B) (et (ae y) (et (ae C) (et (ip S) (et (ae G) (et (ip Y) (et (ip t) (et (ae (aT aG)) (et (iN aJ) (et (ip bE) (gL (et (aX) (et (congrArg (fun q=>eZ Q a l q h) bG) (et (ip O) (et (ae (aT bU)) (et (ip av) (et (ip K) (iN dB)))))))))))))))))))))))
 exact⟨rfl,kP⟩
 refine Ip (rs:= []) 21 rfl rfl rfl (dT K) e7 (Ip (rs:= []) 22 rfl rfl rfl (dT K) e7 (Ip (rs:= []) 23 rfl rfl rfl (dT K) e7 (Ip (rs:= []) 24 rfl rfl rfl (dT K) e7 (Ip (rs:= []) 25 rfl rfl rfl (dT K) e7 (Ip (rs:= []) 26 rfl rfl rfl (dT K) e7 (Ip (rs:= []) 27 rfl rfl rfl (dT K) e7 (Ip (rs:= []) 28 rfl rfl rfl (dT K) e7 (Ip (rs:= []) 29 rfl rfl rfl (dT K) e7 (Ip (rs:= []) 30 rfl rfl rfl (dT K) e7 (qt (v:= .bool true) 31 rfl (fun _ _=>Iw rfl (dT K) rfl) (qn (Iq (jt (sr (An rfl (rt (tR (bR (tR (tR (bR (tR (rs ?_)))))))))))))))))))))))
 have kQ:=dz.pk []
 obtain rfl:_=false:=hr.symm.trans (et (ae J) (et (ae I) (et (ip X) (et (iN aB) (et (ae T) (et (ae B) (et (ae y) (et (ae C) (et (ip S) (et (ae G) (et (ip Y) (et (ip t) (et (ae (aT aG)) (et (iN aJ) (et (ip bE) (gL (et (aX) (et (congrArg (fun q=>eZ Q a l q h) bG) (et (ip O) (et (ae (aT bU)) (et (ip av) (iN K))))))))))))))))))))))
 exact⟨rfl,kQ⟩
 refine Ip (rs:= []) 14 rfl rfl rfl (dT av) e7 (Ip (rs:= []) 15 rfl rfl rfl (dT av) e7 (Ip (rs:= []) 16 rfl rfl rfl (dT av) e7 (Ip (rs:= []) 17 rfl rfl rfl (dT av) e7 (Ip (rs:= []) 18 rfl rfl rfl (dT av) e7 (qt (v:= .bool true) 19 rfl (fun _ _=>Iw rfl (dT av) rfl) (qv 20 rfl rfl (Ip (rs:= []) 21 rfl rfl rfl rfl e7 (Ip (rs:= []) 22 rfl rfl rfl rfl e7 (Ip (rs:= []) 23 rfl rfl rfl rfl e7 (Ip (rs:= []) 24 rfl rfl rfl rfl e7 (Ip (rs:= []) 25 rfl rfl rfl rfl e7 (Ip (rs:= []) 26 rfl rfl rfl rfl e7 (Ip (rs:= []) 27 rfl rfl rfl rfl e7 (Ip (rs:= []) 28 rfl rfl rfl rfl e7 (Ip (rs:= []) 29 rfl rfl rfl rfl e7 (Ip (rs:= []) 30 rfl rfl rfl rfl e7 (qt (v:= .bool true) 31 rfl (fun _ _=>Iw rfl rfl rfl) (qn (Iq (jt (sr (An rfl (rt (tR (bR (tR (tR (bR (tR (rs ?_))))))))))))))))))))))))))))))
 have kR:=dz.pk []
 obtain rfl:_=false:=hr.symm.trans (et (ae J) (et (ae I) (et (ip X) (et (iN aB) (et (ae T) (et (ae B) (et (ae y) (et (ae C) (et (ip S) (et (ae G) (et (ip Y) (et (ip t) (et (ae (aT aG)) (et (iN aJ) (et (ip bE) (gL (et (aX) (et (congrArg (fun q=>eZ Q a l q h) bG) (et (ip O) (et (ae (aT bU)) (iN av)))))))))))))))))))))
 exact⟨rfl,kR⟩
 refine Ip (rs:= []) 4 rfl rfl rfl (dT O) e7 (Ip (rs:= []) 5 rfl rfl rfl (dT O) e7 (Ip (rs:= []) 6 rfl rfl rfl (dT O) e7 (Ip (rs:= []) 7 rfl rfl rfl (dT O) e7 (Ip (rs:= []) 8 rfl rfl rfl (dT O) e7 (Ip (rs:= []) 9 rfl rfl rfl (dT O) e7 (Ip (rs:= []) 10 rfl rfl rfl (dT O) e7 (Ip (rs:= []) 11 rfl rfl rfl (dT O) e7 (qt (v:= .bool true) 12 rfl (fun _ _=>Iw rfl (dT O) rfl) (qv 13 rfl rfl (Ip (rs:= []) 14 rfl rfl rfl rfl e7 (Ip (rs:= []) 15 rfl rfl rfl rfl e7 (Ip (rs:= []) 16 rfl rfl rfl rfl e7 (Ip (rs:= []) 17 rfl rfl rfl rfl e7 (Ip (rs:= []) 18 rfl rfl rfl rfl e7 (qt (v:= .bool true) 19 rfl (fun _ _=>Iw rfl rfl rfl) (qv 20 rfl rfl (Ip (rs:= []) 21 rfl rfl rfl rfl e7 (Ip (rs:= []) 22 rfl rfl rfl rfl e7 (Ip (rs:= []) 23 rfl rfl rfl rfl e7 (Ip (rs:= []) 24 rfl rfl rfl rfl e7 (Ip (rs:= []) 25 rfl rfl rfl rfl e7 (Ip (rs:= []) 26 rfl rfl rfl rfl e7 (Ip (rs:= []) 27 rfl rfl rfl rfl e7 (Ip (rs:= []) 28 rfl rfl rfl rfl e7 (Ip (rs:= []) 29 rfl rfl rfl rfl e7 (Ip (rs:= []) 30 rfl rfl rfl rfl e7 (qt (v:= .bool true) 31 rfl (fun _ _=>Iw rfl rfl rfl) (qn (Iq (jt (sr (An rfl (rt (tR (bR (tR ?_))))))))))))))))))))))))))))))))))))
 refine tR (bR (tR (rs ?_)))
 have kS:=dz.pk []
 obtain rfl:_=false:=hr.symm.trans (et (ae J) (et (ae I) (et (ip X) (et (iN aB) (et (ae T) (et (ae B) (et (ae y) (et (ae C) (et (ip S) (et (ae G) (et (ip Y) (et (ip t) (et (ae (aT aG)) (et (iN aJ) (et (ip bE) (gL (et (aX) (et (congrArg (fun q=>eZ Q a l q h) bG) (iN O)))))))))))))))))))
 exact⟨rfl,kS⟩
 refine jF (dF gy) (C5 (IC ?_))
 have iV:eZ Q a l g.cz.ls 0=B7 ():=et (aX) (et (congrArg (fun q=>eZ Q a l q h) (dZ (ls:=g.cz.ls) (i:=h) e6)) rfl)
 refine IC (IK (Iq (Ik ?_)))
 have kT:=cz.pk []
 refine Il (Mz rfl (An rfl (rt (rs ?_))))
 have kU:=kT.pk []
 obtain rfl:_=Q:=hr.symm.trans (et (ae J) (et (ae I) (et (ip X) (et (iN aB) (et (ae T) (et (ae B) (et (ae y) (et (ae C) (et (ip S) (et (ae G) (et (ip Y) (et (ip t) (et (ae (aT aG)) (et (iN aJ) (et (ip bE) (mF iV))))))))))))))))
 exact⟨rfl,kU⟩
 refine jT (dT bE) (sr (An rfl (rt (tR (rs ?_)))))
 have kV:=N.pk []
 obtain rfl:_=false:=hr.symm.trans (et (ae J) (et (ae I) (et (ip X) (et (iN aB) (et (ae T) (et (ae B) (et (ae y) (et (ae C) (et (ip S) (et (ae G) (et (ip Y) (et (ip t) (et (ae (aT aG)) (et (iN aJ) (iN bE)))))))))))))))
 exact⟨rfl,kV⟩
 refine Sz (dF t) (Sz (dF t) (Sz (dF t) (Sz (dF t) (Sz (dF t) (Sz (dF t) (fw (.bool false) (Io rfl (dF t) rfl) (nt (jf (sk (Ik (sr (Kz (vP cO 0) (Lz (.slice p g.cz.ls.length Z) N 2 U3 (Kz (vJ g.cz.ls.length) (Mz rfl (Kz (vJ l.length) (fw (.bool (decide (¬ (((g.cz.ls.length:Nat):Int)=((l.length:Nat):Int))))) (IM (e:= !(decide (((g.cz.ls.length:Nat):Int)=((l.length:Nat):Int)))) yk decide_not.symm) (nt ?_))))))))))))))))))
 by_cases bF:((g.cz.ls.length:Nat):Int)=((l.length:Nat):Int)
 refine jF (dF (Lr bF)) (sk (Ik (sr (Kz (vP cO 0) (Lz (.slice p g.cz.ls.length Z) N 2 U3 (Kz (vJ g.cz.ls.length) (Mn rfl (bo ?_))))))))
 have kW:=N.px [] [2] []
 obtain⟨kX,eH⟩:=lF fun (j:Nat) w'=>Own w D w' [row f l.length M (q4 dQ.cells bD) 70 3,sepL (q4 dQ.own bD),row p g.cz.ls.length Z (q4 bz.cells aV) 42 21,sepL (q4 bz.own aV),blk U [vI a.au,vU a.ax,vU a.bG,vU a.aF, .slice aC a.ag.ls.length aF, .slice bB a.ak.ls.length bC, .slice bL a.aK.ls.length bM] 33,row aC a.ag.ls.length aF (q4 aM.cells a.ag.ls) 89 2,row bB a.ak.ls.length bC (q4 ay.cells bY) 60 5,sepL (q4 ay.own bY),row bL a.aK.ls.length bM (q4 aS.cells cu) 56 4,sepL (q4 aS.own cu)]∧j≤g.cz.ls.length∧fZ Q a l g.cz.ls 0=fZ Q a l (r4 j g.cz.ls) j
 refine C1 (fun i:Nat=> [(4, .bool false),(95,vJ i),(94,vJ g.cz.ls.length),(93, .slice p g.cz.ls.length Z),(11, .slice f l.length M),(8,vP U 0),(5, .bool Q)]) kX (fun i=>g.cz.ls.length - i) 0 ⟨rfl,rfl,rfl,rfl,rfl,rfl,rfl,trivial⟩ (eH.2 ⟨kW,e6,rfl⟩) ?_
 rintro j pO iW
 obtain⟨cB,nP,bf⟩:=eH.1 iW
 refine sr (Kz (.bool (decide (((j:Nat):Int) < ((g.cz.ls.length:Nat):Int)))) (nt (Ik ?_)))
 by_cases gH:((j:Nat):Int) < ((g.cz.ls.length:Nat):Int)
 obtain⟨d,bg⟩:=dh (ls:=aV) (i:=j) bz.len f2 (cB.rds (i:=2) rfl) e9
 have iX:=eY dH bg
 have nQ:d.aB.ls.length≤d.aB.c∧d.aB.ls.length≤9223372036854775807:=bq cB (i:=3) rfl (φ:=fun _=>_) (az (Q6.2 ⟨d,D1 bg,b1⟩) bn)
 have nR:d.ah.ls.length≤d.ah.c∧d.ah.ls.length≤9223372036854775807:=bq cB (i:=3) rfl (φ:=fun _=>_) (az (Q6.2 ⟨d,D1 bg, .tail _ b1⟩) bn)
 have nS:d.ag.ls.length≤d.ag.c∧d.ag.ls.length≤9223372036854775807:=bq cB (i:=3) rfl (φ:=fun _=>_) (az (Q6.2 ⟨d,D1 bg, .tail _ b2⟩) bn)
 have bH:=drop_at iX
 refine jT (dT gH) (sk (Ik (bo (sr (Mz rfl (fw (.pointer (some ⟨ab p,ao p+j *21,none⟩)) (Iz (rY) rfl rfl ((cB.rds (i:=2) rfl).addr (i:=j) e6) e6) (fw (.agg (bz.cells d).toArray) (IB rfl (IJ (cs:=(bz.cells d)) Tryz.isAgg42 N9 ((cB.rds (i:=2) rfl).elem bz.len bg f2))) ?_)))))))
 refine dn (iA 0 0 0 0 0 0 0 0 0 0 0 0 0 0 0 false ([]) ([]) none 0 0 none 0 0 none 0 0) 42 cB ?_
 intro aj pQ kY
 refine Az rfl ?_
 refine df (bz.cells d) 0 kY N9 ?_
 intro pR kZ
 refine nt (Ik (Ik ?_))
 refine oV 11 [] (IE (IE (bv.block (IE (IE (bv.block (IE IQ))))))) kZ ?_
 intro pU dC
 refine qp aj 0 0 rfl (ql 1 rfl 0 C2 rfl rfl rfl (qt (v:= .bool (decide (¬ (d.av=3)))) 2 rfl (fun _ _=>IM (e:= !(decide (d.av=3))) yk decide_not.symm) (qv 3 rfl rfl ?_)))
 by_cases P:d.av=3
 refine Iy (v:=vP aj 2) (rs:= []) 4 rfl rfl rfl (dF (Lr P)) e7 (fun _ _=>yk) (Iy (v:=vI d.eO) (rs:= []) 5 rfl rfl rfl (dF (Lr P)) e7 (fun _ ⟨_,H9⟩=>IB rfl (bJ.one C2 (I1 (H9.cls (i:=0) rfl) rfl))) (Iy (v:= .slice f l.length M) (rs:= []) 6 rfl rfl rfl (dF (Lr P)) e7 (fun _ _=>IA rfl) (Iy (v:=vJ j) (rs:= []) 7 rfl rfl rfl (dF (Lr P)) e7 (fun _ _=>IA rfl) ?_)))
 obtain⟨o,bV⟩:=iG (ls:=bD) (i:=j) e9
 have bX:=eY eu bV
 refine Iy (v:= .pointer (some ⟨ab f,ao f+j *3,none⟩)) (rs:= []) 8 rfl rfl rfl (dF (Lr P)) e7 (fun _ ⟨_,H9⟩=>Iz (xe) rfl rfl ((H9.rds (i:=1) rfl).addr (i:=j) e6) e6) (Iy (v:= .pointer (some ⟨ab f,ao f+j *3,none⟩)) (rs:= []) 9 rfl rfl rfl (dF (Lr P)) e7 (fun _ _=>yk) (Iy (v:=vI o.bE) (rs:= []) 10 rfl rfl rfl (dF (Lr P)) e7 (fun _ ⟨_,H9⟩=>IB rfl (bJ.one C2 (((H9.rds (i:=1) rfl).elem dQ.len bV f2).at_ (k:=0) rfl))) (Iy (v:= .bool (decide (¬ (d.eO=o.bE)))) (rs:= []) 11 rfl rfl rfl (dF (Lr P)) e7 (fun _ _=>IM (e:= !(decide (d.eO=o.bE))) yk decide_not.symm) (qt (v:= .bool (decide (¬ (d.eO=o.bE)))) 12 rfl (fun _ _=>Io rfl (dF (Lr P)) rfl) (qv 13 rfl rfl ?_)))))
 by_cases ax:d.eO=o.bE
 refine Iy (v:=vP aj 11) (rs:= []) 14 rfl rfl rfl (dF (Lr ax)) e7 (fun _ _=>yk) (Iy (v:=vU d.aF) (rs:= []) 15 rfl rfl rfl (dF (Lr ax)) e7 (fun _ ⟨_,H9⟩=>IB rfl (bJ.one D2 (I1 (H9.cls (i:=0) rfl) rfl))) (Iy (v:=vP U 3) (rs:= []) 16 rfl rfl rfl (dF (Lr ax)) e7 (fun _ _=>yk) (Iy (v:=vU a.aF) (rs:= []) 17 rfl rfl rfl (dF (Lr ax)) e7 (fun _ ⟨_,H9⟩=>IB rfl (bJ.one D2 (I1 (H9.cls (i:=5) rfl) rfl))) (Iy (v:= .bool (decide (¬ (((d.aF:Nat):Int)=((a.aF:Nat):Int))))) (rs:= []) 18 rfl rfl rfl (dF (Lr ax)) e7 (fun _ _=>IM (e:= !(decide (((d.aF:Nat):Int)=((a.aF:Nat):Int)))) yk decide_not.symm) (qt (v:= .bool (decide (¬ (((d.aF:Nat):Int)=((a.aF:Nat):Int))))) 19 rfl (fun _ _=>Io rfl (dF (Lr ax)) rfl) (qv 20 rfl rfl ?_))))))
 by_cases L:((d.aF:Nat):Int)=((a.aF:Nat):Int)
 refine Iy (v:=vP aj 18) (rs:= []) 21 rfl rfl rfl (dF (Lr L)) e7 (fun _ _=>yk) (Iy (v:= .slice d.aB.A d.aB.ls.length d.aB.c) (rs:= []) 22 rfl rfl rfl (dF (Lr L)) e7 (fun _ ⟨_,H9⟩=>IB rfl (bJ.one R6 (I1 (H9.cls (i:=0) rfl) rfl))) (Iy (v:=vJ d.aB.ls.length) (rs:= []) 23 rfl rfl rfl (dF (Lr L)) e7 (fun _ _=>yk) (Iy (v:= .slice f l.length M) (rs:= []) 24 rfl rfl rfl (dF (Lr L)) e7 (fun _ _=>IA rfl) (Iy (v:=vJ j) (rs:= []) 25 rfl rfl rfl (dF (Lr L)) e7 (fun _ _=>IA rfl) (Iy (v:= .pointer (some ⟨ab f,ao f+j *3,none⟩)) (rs:= []) 26 rfl rfl rfl (dF (Lr L)) e7 (fun _ ⟨_,H9⟩=>Iz (xe) rfl rfl ((H9.rds (i:=1) rfl).addr (i:=j) e6) e6) (Iy (v:= .pointer (some ⟨ab f,ao f+j *3+1,none⟩)) (rs:= []) 27 rfl rfl rfl (dF (Lr L)) e7 (fun _ _=>yk) (Iy (v:= .slice o.aB.A o.aB.ls.length o.aB.c) (rs:= []) 28 rfl rfl rfl (dF (Lr L)) e7 (fun _ ⟨_,H9⟩=>IB rfl (bJ.one R6 (((H9.rds (i:=1) rfl).elem dQ.len bV f2).at_ (k:=1) rfl))) (Iy (v:=vJ o.aB.ls.length) (rs:= []) 29 rfl rfl rfl (dF (Lr L)) e7 (fun _ _=>yk) (Iy (v:= .bool (decide (¬ (((d.aB.ls.length:Nat):Int)=((o.aB.ls.length:Nat):Int))))) (rs:= []) 30 rfl rfl rfl (dF (Lr L)) e7 (fun _ _=>IM (e:= !(decide (((d.aB.ls.length:Nat):Int)=((o.aB.ls.length:Nat):Int)))) yk decide_not.symm) (qt (v:= .bool (decide (¬ (((d.aB.ls.length:Nat):Int)=((o.aB.ls.length:Nat):Int))))) 31 rfl (fun _ _=>Io rfl (dF (Lr L)) rfl) (qn (Iq ?_))))))))))))
 by_cases dD:((d.aB.ls.length:Nat):Int)=((o.aB.ls.length:Nat):Int)
 refine jF (dF (Lr dD)) (sk (sr (Kz (vP aj 18) (Lz (.slice d.aB.A d.aB.ls.length d.aB.c) dC 0 R6 (Kz (vJ d.aB.ls.length) (Mn rfl (bo ?_)))))))
 have lc:=dC.pf []
 obtain⟨lg,eO⟩:=lF fun (W:Nat) w'=>Own w D w' [blk aj (bz.cells d) 42,row f l.length M (q4 dQ.cells bD) 70 3,sepL (q4 dQ.own bD),row p g.cz.ls.length Z (q4 bz.cells aV) 42 21,sepL (q4 bz.own aV),blk U [vI a.au,vU a.ax,vU a.bG,vU a.aF, .slice aC a.ag.ls.length aF, .slice bB a.ak.ls.length bC, .slice bL a.aK.ls.length bM] 33,row aC a.ag.ls.length aF (q4 aM.cells a.ag.ls) 89 2,row bB a.ak.ls.length bC (q4 ay.cells bY) 60 5,sepL (q4 ay.own bY),row bL a.aK.ls.length bM (q4 aS.cells cu) 56 4,sepL (q4 aS.own cu)]∧W≤d.aB.ls.length∧iP a j (dQ.abs o) (bz.abs d) d.aB.ls 0=iP a j (dQ.abs o) (bz.abs d) (r4 W d.aB.ls) W
 refine C1 (fun i:Nat=> [(4, .bool false),(135,vJ i),(134,vJ d.aB.ls.length),(133, .slice d.aB.A d.aB.ls.length d.aB.c),(132,vP aj 18),(131, .bool (decide (¬ (((d.aB.ls.length:Nat):Int)=((o.aB.ls.length:Nat):Int))))),(130, .bool (decide (¬ (((d.aB.ls.length:Nat):Int)=((o.aB.ls.length:Nat):Int))))),(129,vJ o.aB.ls.length),(128, .slice o.aB.A o.aB.ls.length o.aB.c),(127, .pointer (some ⟨ab f,ao f+j *3+1,none⟩)),(126, .pointer (some ⟨ab f,ao f+j *3,none⟩)),(125,vJ j),(124, .slice f l.length M),(123,vJ d.aB.ls.length),(122, .slice d.aB.A d.aB.ls.length d.aB.c),(121,vP aj 18),(120, .bool (decide (¬ (((d.aF:Nat):Int)=((a.aF:Nat):Int))))),(119, .bool (decide (¬ (((d.aF:Nat):Int)=((a.aF:Nat):Int))))),(118, .bool (decide (¬ (((d.aF:Nat):Int)=((a.aF:Nat):Int))))),(117,vU a.aF),(116,vP U 3),(115,vU d.aF),(114,vP aj 11),(113, .bool (decide (¬ (d.eO=o.bE)))),(112, .bool (decide (¬ (d.eO=o.bE)))),(111, .bool (decide (¬ (d.eO=o.bE)))),(110,vI o.bE),(109, .pointer (some ⟨ab f,ao f+j *3,none⟩)),(108, .pointer (some ⟨ab f,ao f+j *3,none⟩)),(107,vJ j),(106, .slice f l.length M),(105,vI d.eO),(104,vP aj 2),(103, .bool (decide (¬ (d.av=3)))),(102, .bool (decide (¬ (d.av=3)))),(101,vI d.av),(100,vP aj 0),(13,vJ j),(14,vP aj 0),(99, .agg (bz.cells d).toArray),(98, .pointer (some ⟨ab p,ao p+j *21,none⟩)),(97,vJ j),(96, .bool (decide (((j:Nat):Int) < ((g.cz.ls.length:Nat):Int)))),(95,vJ j),(94,vJ g.cz.ls.length),(93, .slice p g.cz.ls.length Z),(11, .slice f l.length M),(8,vP U 0),(5, .bool Q)]) lg (fun i=>d.aB.ls.length - i) 0 ⟨rfl,rfl,rfl,rfl,rfl,rfl,rfl,rfl,rfl,rfl,rfl,rfl,rfl,rfl,rfl,rfl,rfl,rfl,rfl,rfl,rfl,rfl,rfl,rfl,rfl,rfl,rfl,rfl,rfl,rfl,rfl,rfl,rfl,rfl,rfl,rfl,rfl,rfl,rfl,rfl,rfl,rfl,rfl,rfl,rfl,rfl,rfl,rfl,rfl,trivial⟩ (eO.2 ⟨lc,e6,rfl⟩) ?_
 rintro W pV iY
 obtain⟨dW,nT,dL⟩:=eO.1 iY
 refine sr (Kz (.bool (decide (((W:Nat):Int) < ((d.aB.ls.length:Nat):Int)))) (nt (Ik ?_)))
 by_cases gI:((W:Nat):Int) < ((d.aB.ls.length:Nat):Int)
 obtain⟨s,fI⟩:=dh (ls:=d.aB.ls) (i:=W) aN.len f2 (bq dW (i:=4) rfl (az (Q6.2 ⟨d,D1 bg,b1⟩) aW)) e9
 have eQ:=drop_at fI
 refine jT (dT gI) (sk (Ik (bo (sr (Mz rfl (fw (.pointer (some ⟨ab d.aB.A,ao d.aB.A+W *6,none⟩)) (Iz (mG) rfl rfl ((bq dW (i:=4) rfl (az (Q6.2 ⟨d,D1 bg,b1⟩) aW)).addr (i:=W) e6) e6) (fw (.agg (aN.cells s).toArray) (IB rfl (IJ (cs:=(aN.cells s)) M8 M7 ((bq dW (i:=4) rfl (az (Q6.2 ⟨d,D1 bg,b1⟩) aW)).elem aN.len fI f2))) ?_)))))))
 refine dn [vI 0, .string ⟨v6 ([])⟩, .string ⟨v6 ([])⟩, .string ⟨v6 ([])⟩, .string ⟨v6 ([])⟩,vI 0] 72 dW ?_
 intro pW pX lh
 refine Az rfl ?_
 refine df (aN.cells s) 0 lh M7 ?_
 intro pY gJ
 refine ns (La (aN.cells s) gJ 0 M8 M7 ?_)
 obtain⟨⟨di,gK⟩,dM⟩:∃ q:aL × Int,kD s=q:=⟨_,rfl⟩
 obtain⟨p8,iZ,nU,ja,nV⟩:=Iu gJ
 refine cl Tryz.call17 (wU _ _ s di gK iZ dM) ?_
 rintro _ p9 ⟨rfl,jb⟩
 have ll:=ja _ _ jb
 refine Mz rfl (Kz (.agg (aL.cells di).toArray) (Kz (vI gK) ?_))
 refine dn [.string ⟨v6 ([])⟩, .string ⟨v6 ([])⟩] 38 ll ?_
 intro qa qb lm
 refine df (aL.cells di) 0 lm M9 ?_
 intro qc lq
 refine An rfl (Ik ?_)
 refine oV 13 [] (IE (bv.block (IE (IE (bv.block (bv.block (IE (IE (bv.block (IE IQ)))))))))) lq ?_
 intro qd gM
 refine qt (v:= .agg (aN.cells s).toArray) 0 rfl (fun _ ⟨_,H9⟩=>IB rfl (IJ (cs:=(aN.cells s)) M8 M7 ((H9.cls (i:=1) rfl).lit (k:=0) (m:=6) rfl))) (qv 1 rfl rfl (qv 2 rfl rfl (qt (v:= .pointer (some ⟨ab f,ao f+j *3,none⟩)) 3 rfl (fun _ ⟨_,H9⟩=>Iz (xe) rfl rfl ((H9.rds (i:=3) rfl).addr (i:=j) e6) e6) (qk (.pointer (some ⟨ab f,ao f+j *3+1,none⟩)) 4 rfl (qt (v:= .slice o.aB.A o.aB.ls.length o.aB.c) 5 rfl (fun _ ⟨_,H9⟩=>IB rfl (bJ.one R6 (((H9.rds (i:=3) rfl).elem dQ.len bV f2).at_ (k:=1) rfl))) (qv 6 rfl rfl ?_))))))
 obtain⟨F,dN⟩:=iG (ls:=o.aB.ls) (i:=W) e9
 refine qt (v:= .pointer (some ⟨ab o.aB.A,ao o.aB.A+W *6,none⟩)) 7 rfl (fun _ ⟨_,H9⟩=>Iz (mG) rfl rfl ((bq H9 (i:=4) rfl (az (Q6.2 ⟨o,D1 bV,b1⟩) aW)).addr (i:=W) e6) e6) (qt (v:= .agg (aN.cells F).toArray) 8 rfl (fun _ ⟨_,H9⟩=>IB rfl (IJ (cs:=(aN.cells F)) M8 M7 ((bq H9 (i:=4) rfl (az (Q6.2 ⟨o,D1 bV,b1⟩) aW)).elem aN.len dN f2))) (qt (v:= .bool (decide (¬ ((s.av=F.av)∧(s.aZ=F.aZ)∧(s.aG=F.aG)∧(s.aJ=F.aJ)∧(s.aR=F.aR)∧(s.aV=F.aV))))) 9 rfl (fun _ _=>IM (e:= !(decide ((s.av=F.av)∧(s.aZ=F.aZ)∧(s.aG=F.aG)∧(s.aJ=F.aJ)∧(s.aR=F.aR)∧(s.aV=F.aV)))) (Jo rfl rfl e7 rfl (iQ.struct N3 e7 (iC.dec (iC.cons (u:=vI s.av) (v:=vI F.av) f2 (fun _=>by kernel_rfl) (fun _=>by kernel_rfl) (iQ.int v8) (iC.cons (u:= .string ⟨v6 s.aZ⟩) (v:= .string ⟨v6 F.aZ⟩) f2 (fun _=>by kernel_rfl) (fun _=>by kernel_rfl) (iQ.string v9) (iC.cons (u:= .string ⟨v6 s.aG⟩) (v:= .string ⟨v6 F.aG⟩) f2 (fun _=>by kernel_rfl) (fun _=>by kernel_rfl) (iQ.string v9) (iC.cons (u:= .string ⟨v6 s.aJ⟩) (v:= .string ⟨v6 F.aJ⟩) f2 (fun _=>by kernel_rfl) (fun _=>by kernel_rfl) (iQ.string v9) (iC.cons (u:= .string ⟨v6 s.aR⟩) (v:= .string ⟨v6 F.aR⟩) f2 (fun _=>by kernel_rfl) (fun _=>by kernel_rfl) (iQ.string v9) (iC.cons (u:=vI s.aV) (v:=vI F.aV) f2 (fun _=>by kernel_rfl) (fun _=>by kernel_rfl) (iQ.int v8) (iC.nil.up (Lp _)))))))) ((congrArg (decide (s.av=F.av) && ·) ((congrArg (decide (s.aZ=F.aZ) && ·) ((congrArg (decide (s.aG=F.aG) && ·) ((congrArg (decide (s.aJ=F.aJ) && ·) ((congrArg (decide (s.aR=F.aR) && ·) o9).trans gG)).trans gG)).trans gG)).trans gG)).trans gG)))) decide_not.symm) (qv 10 rfl rfl ?_)))
 by_cases ak:(s.av=F.av)∧(s.aZ=F.aZ)∧(s.aG=F.aG)∧(s.aJ=F.aJ)∧(s.aR=F.aR)∧(s.aV=F.aV)
 refine Iy (v:=vP U 4) (rs:= []) 11 rfl rfl rfl (dF (Lr ak)) e7 (fun _ _=>yk) (Iy (v:= .slice aC a.ag.ls.length aF) (rs:= []) 12 rfl rfl rfl (dF (Lr ak)) e7 (fun _ ⟨_,H9⟩=>IB rfl (bJ.one V7 (I1 (H9.cls (i:=7) rfl) rfl))) (Iy (v:=vP aj 2) (rs:= []) 13 rfl rfl rfl (dF (Lr ak)) e7 (fun _ _=>yk) (Iy (v:=vI d.eO) (rs:= []) 14 rfl rfl rfl (dF (Lr ak)) e7 (fun _ ⟨_,H9⟩=>IB rfl (bJ.one C2 (I1 (H9.cls (i:=2) rfl) rfl))) (Iy (v:= .agg (aL.cells di).toArray) (rs:= []) 15 rfl rfl rfl (dF (Lr ak)) e7 (fun _ ⟨_,H9⟩=>IB rfl (IJ (cs:=(aL.cells di)) Tryz.isAgg38 M9 ((H9.cls (i:=0) rfl).lit (k:=0) (m:=2) rfl))) ?_))))
 obtain⟨fo,eT⟩:∃ q,lv a.ag.ls d.eO di=q:=⟨_,rfl⟩
 obtain⟨qf,jc,nW,jd,je⟩:=Iu gM
 refine Jl 16 rfl rfl rfl (dF (Lr ak)) e7 (IP Tryz.call18 rfl (wV _ _ aC a.ag.ls.length aF a.ag.ls d.eO di fo jc (je _ 8 _ rfl aW) rfl e6 eT) ?_)
 rintro _ qg ⟨rfl,jg⟩
 have fJ:=jd _ _ jg
 refine⟨.inr ⟨_,fJ⟩, ?_⟩
 refine Iy (v:= .bool (!fo)) (rs:= []) 17 rfl rfl rfl (dF (Lr ak)) e7 (fun _ _=>yk) (qt (v:= .bool (!fo)) 18 rfl (fun _ _=>Io rfl (dF (Lr ak)) rfl) (qn (Iq ?_)))
 rcases Ls (fo) with dX | dX
 refine jF (cn dX) (IU (bN (Iq (Il (fw (vJ (W+1)) (Ir (e:=C3.wrap (((W:Nat):Int)+1)) yk f0) (Mz rfl (WL.nil ?_)))))))
 have lu:=fJ.px [] [0,1] []
 exact II (W+1) ⟨rfl,rfl,rfl,rfl,rfl,rfl,rfl,rfl,rfl,rfl,rfl,rfl,rfl,rfl,rfl,rfl,rfl,rfl,rfl,rfl,rfl,rfl,rfl,rfl,rfl,rfl,rfl,rfl,rfl,rfl,rfl,rfl,rfl,rfl,rfl,rfl,rfl,rfl,rfl,rfl,rfl,rfl,rfl,rfl,rfl,rfl,rfl,rfl,rfl,trivial⟩ (eO.2 ⟨lu,e6,et (dL) (et (congrArg (fun q=>iP a j (dQ.abs o) (bz.abs d) q W) eQ) (et (ae dM) (et (ae (aT dN)) (et (ip ak) (et (ae eT) (ip dX))))))⟩) (by show d.aB.ls.length - (W+1) < d.aB.ls.length - W; omega)
 refine jT (cn dX) (sr (An rfl (rt (bR (tR (tR (bR (bR (tR (tR (bR (tR (rs ?_)))))))))))))
 have lw:=fJ.pk []
 obtain rfl:_=false:=hr.symm.trans (et (ae J) (et (ae I) (et (ip X) (et (iN aB) (et (ae T) (et (ae B) (et (ae y) (et (ae C) (et (ip S) (et (ae G) (et (ip Y) (et (iN t) (et (ip bF) (gL (et (bf) (et (congrArg (fun q=>fZ Q a l q j) bH) (et (ip P) (et (ae (aT bX)) (et (ip ax) (et (ip L) (et (ip dD) (oU (et (dL) (et (congrArg (fun q=>iP a j (dQ.abs o) (bz.abs d) q W) eQ) (et (ae dM) (et (ae (aT dN)) (et (ip ak) (et (ae eT) (fP dX)))))))))))))))))))))))))))))
 exact⟨rfl,lw⟩
 refine Ip (rs:= []) 11 rfl rfl rfl (dT ak) e7 (Ip (rs:= []) 12 rfl rfl rfl (dT ak) e7 (Ip (rs:= []) 13 rfl rfl rfl (dT ak) e7 (Ip (rs:= []) 14 rfl rfl rfl (dT ak) e7 (Ip (rs:= []) 15 rfl rfl rfl (dT ak) e7 (Ip (rs:= []) 16 rfl rfl rfl (dT ak) e7 (Ip (rs:= []) 17 rfl rfl rfl (dT ak) e7 (qt (v:= .bool true) 18 rfl (fun _ _=>Iw rfl (dT ak) rfl) (qn (Iq (jt (sr (An rfl (rt (bR (tR (tR (bR (bR (tR (tR (bR (tR (rs ?_)))))))))))))))))))))))
 have lC:=gM.pk []
 obtain rfl:_=false:=hr.symm.trans (et (ae J) (et (ae I) (et (ip X) (et (iN aB) (et (ae T) (et (ae B) (et (ae y) (et (ae C) (et (ip S) (et (ae G) (et (ip Y) (et (iN t) (et (ip bF) (gL (et (bf) (et (congrArg (fun q=>fZ Q a l q j) bH) (et (ip P) (et (ae (aT bX)) (et (ip ax) (et (ip L) (et (ip dD) (oU (et (dL) (et (congrArg (fun q=>iP a j (dQ.abs o) (bz.abs d) q W) eQ) (et (ae dM) (et (ae (aT dN)) (iN ak)))))))))))))))))))))))))))
 exact⟨rfl,lC⟩
 refine jF (dF gI) (C5 (IC ?_))
 have jh:iP a j (dQ.abs o) (bz.abs d) d.aB.ls 0=B7 ():=et (dL) (et (congrArg (fun q=>iP a j (dQ.abs o) (bz.abs d) q W) (dZ (ls:=d.aB.ls) (i:=W) e6)) rfl)
 refine IC (IK (bN (Iq (Il (fw (vJ (j+1)) (Ir (e:=C3.wrap (((j:Nat):Int)+1)) yk f0) (Mz rfl (WL.nil ?_)))))))
 have lD:=dW.px [] [0] []
 exact II (j+1) ⟨rfl,rfl,rfl,rfl,rfl,rfl,rfl,trivial⟩ (eH.2 ⟨lD,e6,et (bf) (et (congrArg (fun q=>fZ Q a l q j) bH) (et (ip P) (et (ae (aT bX)) (et (ip ax) (et (ip L) (et (ip dD) (sH jh)))))))⟩) (by show g.cz.ls.length - (j+1) < g.cz.ls.length - j; omega)
 refine jT (dT dD) (sr (An rfl (rt (tR (bR (tR (tR (bR (tR (rs ?_))))))))))
 have lG:=dC.pk []
 obtain rfl:_=false:=hr.symm.trans (et (ae J) (et (ae I) (et (ip X) (et (iN aB) (et (ae T) (et (ae B) (et (ae y) (et (ae C) (et (ip S) (et (ae G) (et (ip Y) (et (iN t) (et (ip bF) (gL (et (bf) (et (congrArg (fun q=>fZ Q a l q j) bH) (et (ip P) (et (ae (aT bX)) (et (ip ax) (et (ip L) (iN dD)))))))))))))))))))))
 exact⟨rfl,lG⟩
 refine Ip (rs:= []) 21 rfl rfl rfl (dT L) e7 (Ip (rs:= []) 22 rfl rfl rfl (dT L) e7 (Ip (rs:= []) 23 rfl rfl rfl (dT L) e7 (Ip (rs:= []) 24 rfl rfl rfl (dT L) e7 (Ip (rs:= []) 25 rfl rfl rfl (dT L) e7 (Ip (rs:= []) 26 rfl rfl rfl (dT L) e7 (Ip (rs:= []) 27 rfl rfl rfl (dT L) e7 (Ip (rs:= []) 28 rfl rfl rfl (dT L) e7 (Ip (rs:= []) 29 rfl rfl rfl (dT L) e7 (Ip (rs:= []) 30 rfl rfl rfl (dT L) e7 (qt (v:= .bool true) 31 rfl (fun _ _=>Iw rfl (dT L) rfl) (qn (Iq (jt (sr (An rfl (rt (tR (bR (tR (tR (bR (tR (rs ?_)))))))))))))))))))))))
 have lI:=dC.pk []
 obtain rfl:_=false:=hr.symm.trans (et (ae J) (et (ae I) (et (ip X) (et (iN aB) (et (ae T) (et (ae B) (et (ae y) (et (ae C) (et (ip S) (et (ae G) (et (ip Y) (et (iN t) (et (ip bF) (gL (et (bf) (et (congrArg (fun q=>fZ Q a l q j) bH) (et (ip P) (et (ae (aT bX)) (et (ip ax) (iN L))))))))))))))))))))
 exact⟨rfl,lI⟩
 refine Ip (rs:= []) 14 rfl rfl rfl (dT ax) e7 (Ip (rs:= []) 15 rfl rfl rfl (dT ax) e7 (Ip (rs:= []) 16 rfl rfl rfl (dT ax) e7 (Ip (rs:= []) 17 rfl rfl rfl (dT ax) e7 (Ip (rs:= []) 18 rfl rfl rfl (dT ax) e7 (qt (v:= .bool true) 19 rfl (fun _ _=>Iw rfl (dT ax) rfl) (qv 20 rfl rfl (Ip (rs:= []) 21 rfl rfl rfl rfl e7 (Ip (rs:= []) 22 rfl rfl rfl rfl e7 (Ip (rs:= []) 23 rfl rfl rfl rfl e7 (Ip (rs:= []) 24 rfl rfl rfl rfl e7 (Ip (rs:= []) 25 rfl rfl rfl rfl e7 (Ip (rs:= []) 26 rfl rfl rfl rfl e7 (Ip (rs:= []) 27 rfl rfl rfl rfl e7 (Ip (rs:= []) 28 rfl rfl rfl rfl e7 (Ip (rs:= []) 29 rfl rfl rfl rfl e7 (Ip (rs:= []) 30 rfl rfl rfl rfl e7 (qt (v:= .bool true) 31 rfl (fun _ _=>Iw rfl rfl rfl) (qn (Iq (jt (sr (An rfl (rt (tR (bR (tR (tR (bR (tR (rs ?_))))))))))))))))))))))))))))))
 have lJ:=dC.pk []
 obtain rfl:_=false:=hr.symm.trans (et (ae J) (et (ae I) (et (ip X) (et (iN aB) (et (ae T) (et (ae B) (et (ae y) (et (ae C) (et (ip S) (et (ae G) (et (ip Y) (et (iN t) (et (ip bF) (gL (et (bf) (et (congrArg (fun q=>fZ Q a l q j) bH) (et (ip P) (et (ae (aT bX)) (iN ax)))))))))))))))))))
 exact⟨rfl,lJ⟩
 refine Ip (rs:= []) 4 rfl rfl rfl (dT P) e7 (Ip (rs:= []) 5 rfl rfl rfl (dT P) e7 (Ip (rs:= []) 6 rfl rfl rfl (dT P) e7 (Ip (rs:= []) 7 rfl rfl rfl (dT P) e7 (Ip (rs:= []) 8 rfl rfl rfl (dT P) e7 (Ip (rs:= []) 9 rfl rfl rfl (dT P) e7 (Ip (rs:= []) 10 rfl rfl rfl (dT P) e7 (Ip (rs:= []) 11 rfl rfl rfl (dT P) e7 (qt (v:= .bool true) 12 rfl (fun _ _=>Iw rfl (dT P) rfl) (qv 13 rfl rfl (Ip (rs:= []) 14 rfl rfl rfl rfl e7 (Ip (rs:= []) 15 rfl rfl rfl rfl e7 (Ip (rs:= []) 16 rfl rfl rfl rfl e7 (Ip (rs:= []) 17 rfl rfl rfl rfl e7 (Ip (rs:= []) 18 rfl rfl rfl rfl e7 (qt (v:= .bool true) 19 rfl (fun _ _=>Iw rfl rfl rfl) (qv 20 rfl rfl (Ip (rs:= []) 21 rfl rfl rfl rfl e7 (Ip (rs:= []) 22 rfl rfl rfl rfl e7 (Ip (rs:= []) 23 rfl rfl rfl rfl e7 (Ip (rs:= []) 24 rfl rfl rfl rfl e7 (Ip (rs:= []) 25 rfl rfl rfl rfl e7 (Ip (rs:= []) 26 rfl rfl rfl rfl e7 (Ip (rs:= []) 27 rfl rfl rfl rfl e7 (Ip (rs:= []) 28 rfl rfl rfl rfl e7 (Ip (rs:= []) 29 rfl rfl rfl rfl e7 (Ip (rs:= []) 30 rfl rfl rfl rfl e7 (qt (v:= .bool true) 31 rfl (fun _ _=>Iw rfl rfl rfl) (qn (Iq (jt (sr (An rfl (rt (tR (bR (tR ?_))))))))))))))))))))))))))))))))))))
 refine tR (bR (tR (rs ?_)))
 have lK:=dC.pk []
 obtain rfl:_=false:=hr.symm.trans (et (ae J) (et (ae I) (et (ip X) (et (iN aB) (et (ae T) (et (ae B) (et (ae y) (et (ae C) (et (ip S) (et (ae G) (et (ip Y) (et (iN t) (et (ip bF) (gL (et (bf) (et (congrArg (fun q=>fZ Q a l q j) bH) (iN P)))))))))))))))))
 exact⟨rfl,lK⟩
 refine jF (dF gH) (C5 (IC ?_))
 have ji:fZ Q a l g.cz.ls 0=B7 ():=et (bf) (et (congrArg (fun q=>fZ Q a l q j) (dZ (ls:=g.cz.ls) (i:=j) e6)) rfl)
 refine IC (IK (Iq (Ik ?_)))
 have lM:=cB.pk []
 refine Il (Mz rfl (An rfl (rt (rs ?_))))
 have lN:=lM.pk []
 obtain rfl:_=Q:=hr.symm.trans (et (ae J) (et (ae I) (et (ip X) (et (iN aB) (et (ae T) (et (ae B) (et (ae y) (et (ae C) (et (ip S) (et (ae G) (et (ip Y) (et (iN t) (et (ip bF) (mF ji))))))))))))))
 exact⟨rfl,lN⟩
 refine jT (dT bF) (sr (An rfl (rt (tR (rs ?_)))))
 have lQ:=N.pk []
 obtain rfl:_=false:=hr.symm.trans (et (ae J) (et (ae I) (et (ip X) (et (iN aB) (et (ae T) (et (ae B) (et (ae y) (et (ae C) (et (ip S) (et (ae G) (et (ip Y) (et (iN t) (iN bF)))))))))))))
 exact⟨rfl,lQ⟩
 refine jT (dT Y) (sr (An rfl (rt (tR (rs ?_)))))
 have lS:=N.pk []
 obtain rfl:_=false:=hr.symm.trans (et (ae J) (et (ae I) (et (ip X) (et (iN aB) (et (ae T) (et (ae B) (et (ae y) (et (ae C) (et (ip S) (et (ae G) (iN Y)))))))))))
 exact⟨rfl,lS⟩
 refine jT (dT S) (sr (Mz rfl (Mz rfl ?_)))
 rcases Ls (Q) with bP | bP
 refine I7 (v:=vI bO) rfl rfl bP rfl (IA rfl) (Gz (.bool (decide (bO=180))) bP (fw (.bool (decide (bO=180))) (Iw rfl bP rfl) (An rfl (rt (tR (rs ?_))))))
 have lT:=eX.pk []
 obtain rfl:_=decide (bO=180):=hr.symm.trans (et (ae J) (et (ae I) (et (ip X) (et (iN aB) (et (ae T) (et (ae B) (et (ae y) (et (ae C) (et (iN S) (ip bP))))))))))
 exact⟨rfl,lT⟩
 refine Sz bP (Sz bP (fw (.bool false) (Io rfl bP rfl) (An rfl (rt (tR (rs ?_))))))
 have lU:=eX.pk []
 obtain rfl:_=false:=hr.symm.trans (et (ae J) (et (ae I) (et (ip X) (et (iN aB) (et (ae T) (et (ae B) (et (ae y) (et (ae C) (et (iN S) (fP bP))))))))))
 exact⟨rfl,lU⟩
 refine Sz (dT X) (Sz (dT X) (Sz (dT X) (fw (.bool true) (Iw rfl (dT X) rfl) (nt (jt (sr (Az rfl (An rfl (rt (tR (Fin.res (lH rfl rfl rfl) (Mz rfl (Kz (.pointer none) (Kz (vI 1) (Az rfl (An rfl (Ik (Ik ?_))))))))))))))))))
 have gN:=fD.pk []
 refine Il (Mz rfl (Kz (.bool true) (nt (jt (sr (Mz rfl (Mz rfl ?_)))))))
 rcases Ls (Q) with bQ | bQ
 refine I7 (v:=vI 1) rfl rfl bQ rfl (IA rfl) (Gz (.bool true) bQ (fw (.bool true) (Iw rfl bQ rfl) (An rfl (rt (tR (rs ?_))))))
 have lV:=gN.pk []
 obtain rfl:_=true:=hr.symm.trans (et (ae J) (et (ae I) (et (iN X) (ip bQ))))
 exact⟨rfl,lV⟩
 refine Sz bQ (Sz bQ (fw (.bool false) (Io rfl bQ rfl) (An rfl (rt (tR (rs ?_))))))
 have lW:=gN.pk []
 obtain rfl:_=false:=hr.symm.trans (et (ae J) (et (ae I) (et (iN X) (fP bQ))))
 exact⟨rfl,lW⟩
end Go.Proofs.YtbkagebjhbphaaaGreat
