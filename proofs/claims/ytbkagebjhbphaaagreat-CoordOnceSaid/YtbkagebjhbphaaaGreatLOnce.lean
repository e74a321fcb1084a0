/-
 coord: the law CoordOnce
-/
import Derived.Test.YtbkagebjhbphaaaGreatLv
import Derived.Test.YtbkagebjhbphaaaGreatCoV
namespace Go.Proofs.YtbkagebjhbphaaaGreat
open Int renaming toNat→D0
open IntKind renaming i64→C5,u64→D1
open List renaming drop→r3,flatMap→q3,length→r8,length_map→s3,map→s5,mem_flatMap→Q3,mem_of_getElem?→D3,not_mem_nil→y6,toArray→v9
open Ll renaming mk→E2
open Sum renaming inl→B9,inr→C1
open _root_.Go.Proofs.Tryz renaming call10→W2,call11→W1,call12→U8,func12→U9,isAgg28→D4,isAgg3→C4,isAgg33→U1,isAgg4→N3,isAgg42→N5,isAgg44→V9,isAgg54→W7,isAgg84→V0,sizeOf28→N7,sizeOf33→H4,sizeOf4→W6,sizeOf42→N6,sizeOf44→W0,sizeOf47→T4,sizeOf54→W5,underlying28→B8,underlying35→W4,underlying36→W3
open WL renaming nil→C6
open Wp renaming exit→C7,loop→C3
set_option maxRecDepth 100000
open Go.RowKit
set_option linter.unusedVariables false
set_option linter.unusedSectionVars false
set_option linter.unusedSimpArgs false
def eX.val (q:eX):Value:= .agg (v9 (eX.cells q))
def eX.zero:eX:=(eX.mk false false)
def eY (b:aA) (c:List bL):List bL→List (Nat × Bool)→List (Nat × eX)→((List (Nat × Bool)) × (List (Nat × eX))) ⊕ Bool
  | [],g,d=>B9 (g,d)
  | a::e,g,d=>bnd (if a.aD=3 then(kL g a.aN true) else g) fun sJrbbtbbfLstJaLsJ=>if a.aD=5 then bnd (nU sJrbbtbbfLstJaLsJ a.aN) fun h=>if Option.getD h false=true then bnd (nU d a.aN) fun f=>if(Option.getD f eX.zero).bD=true then if(Option.getD f eX.zero).oN=true then C1 (false) else if a.cz=true then eY b c e sJrbbtbbfLstJaLsJ (kL d a.aN (eX.mk true (!a.cz))) else C1 (false) else if(Option.getD f eX.zero).oN=true then if a.cz=true then C1 (false) else eY b c e sJrbbtbbfLstJaLsJ (kL d a.aN (eX.mk a.cz true)) else if a.cz=true then eY b c e sJrbbtbbfLstJaLsJ (kL d a.aN (eX.mk a.cz (!a.cz))) else eY b c e sJrbbtbbfLstJaLsJ (kL d a.aN (eX.mk a.cz (!a.cz))) else eY b c e sJrbbtbbfLstJaLsJ d else eY b c e sJrbbtbbfLstJaLsJ d
def gD (a:bL):List eD→Bool→Bool
  | [],b=>b
  | d::c,b=>if b=true then gD a c true else if d.aK=C5.wrap (a.fI - 10) then gD a c (decide (((d.aP:Nat):Int)=((a.aP:Nat):Int))) else gD a c false
def iD (a:aA) (c:List (Nat × Bool)) (d:List (Nat × eX)) (b:cZ):List bL→Unit ⊕ Bool
  | []=>B9 ()
  | e::f=>bnd (gD e b.aF.ls false) fun sLrbbtbbfLstJaLabLsL=>if e.aD=2 then if e.dz=1 then if sLrbbtbbfLstJaLabLsL=true then iD a c d b f else C1 (false) else iD a c d b f else iD a c d b f
def fP (n:Bool):List StepT→aA→List (Nat × Bool)→List (Nat × eX)→Unit ⊕ Bool
  | [],c,f,g=>B9 ()
  | a::j,c,f,g=>if ¬ (a.iU=0)∨¬ (a.az.aD=6) then qU (if a.iU=0 then bnd (bnd (eQ c) fun d=>(ja a.dE a.az.aD 1 d.av a.az.av,lZ a.dE a.az.aN d.av,ja a.dE a.az.aD 9 d.aV a.az.aV)) fun sJrbbtbbfLstJjtJ=>bnd (eT c (bL.mk a.az.aD a.az.aJ a.az.fI a.az.aK a.az.dz a.az.eH a.az.aP sJrbbtbbfLstJjtJ.1 sJrbbtbbfLstJjtJ.2.1 a.az.dY sJrbbtbbfLstJjtJ.2.2 a.az.aL (nR a.dE a.az.dL 0) a.az.cu a.az.xN a.az.cz a.az.bU (E2 a.az.aH.ls) (E2 a.az.ai.ls) (E2 a.az.ag.ls))) fun h=>B9 (h.2.2,h.1.fo.ls) else if a.iU=1 then bnd (jk c) fun i=>B9 (i.2,i.1.fo.ls) else if a.iU=4 then bnd (eQ c) fun e=>bnd (gJ e) fun k=>if k=0 then if((e.av:Nat):Int)=2147483647 then C1 (false) else bnd (gW e) fun b=>bnd ((aA.mk (cZ.mk b.au (D0 (D1.wrap (((b.av:Nat):Int)+1))) (eU (D0 (D1.wrap (((b.av:Nat):Int)+1))) 32) b.aL (E2 b.ag.ls) (E2 b.aj.ls) (E2 b.aF.ls)) 0 (E2 ([])) (df.mk false 0 0 (E2 ([]))) (df.mk false 0 0 (E2 ([]))) (df.mk false 0 0 (E2 ([]))) (df.mk false 0 0 (E2 ([]))) (df.mk false 0 0 (E2 ([]))) 0 0 0 0 0)) fun l=>B9 (l, []) else C1 (false) else B9 (c, [])) fun sJrbbtbbfLstJ=>qU (eY sJrbbtbbfLstJ.1 sJrbbtbbfLstJ.2 sJrbbtbbfLstJ.2 f g) fun sLrbbtbbfLstJaL=>bnd (eQ sJrbbtbbfLstJ.1) fun m=>qU (iD sJrbbtbbfLstJ.1 sLrbbtbbfLstJaL.1 sLrbbtbbfLstJaL.2 m sJrbbtbbfLstJ.2) fun _=>fP n j sJrbbtbbfLstJ.1 sLrbbtbbfLstJaL.1 sLrbbtbbfLstJaL.2 else bnd (()) fun _=>fP n j c f g
def sP (l0:List StepT):Bool:=
 bnd (vD) fun b=>bnd (gJ (cZ.mk 2 0 0 1 (E2 ([(aY.mk ([]) 1),(aY.mk ([109]) 2)])) (E2 ([])) (E2 ([])))) fun d=>if d=0 then bnd (gW (cZ.mk 2 0 0 1 (E2 ([(aY.mk ([]) 1),(aY.mk ([109]) 2)])) (E2 ([])) (E2 ([])))) fun a=>bnd ((aA.mk (cZ.mk a.au (D0 (D1.wrap (((a.av:Nat):Int)+1))) (eU (D0 (D1.wrap (((a.av:Nat):Int)+1))) 32) a.aL (E2 a.ag.ls) (E2 a.aj.ls) (E2 a.aF.ls)) 0 (E2 ([])) (df.mk false 0 0 (E2 ([]))) (df.mk false 0 0 (E2 ([]))) (df.mk false 0 0 (E2 ([]))) (df.mk false 0 0 (E2 ([]))) (df.mk false 0 0 (E2 ([]))) 0 0 0 0 0)) fun c=>if((l0.length:Nat):Int) > 100 then if b=true then true else false else lp (fP b l0 c ([]) ([])) fun _=>b else if b=true then false else false
set_option maxHeartbeats 4000000 in
theorem xU (w D A0 n0 c0 d0 l0 r0) (H:Own w D w []) (uC:s5 fM.abs d0=l0) (qY:Ro w D fun w'=>bE w' 25 A0 n0 (q3 fM.cells d0)) (iM:∀ x ∈ d0,Ro w D (fun w'=>bE w' 6 x.az.aH.A x.az.aH.ls.length (q3 bi.cells x.az.aH.ls))∧(x.az.aH.ls.length≤x.az.aH.c∧x.az.aH.ls.length≤9223372036854775807)∧Ro w D (fun w'=>bE w' 3 x.az.ai.A x.az.ai.ls.length (q3 ae.cells x.az.ai.ls))∧(x.az.ai.ls.length≤x.az.ai.c∧x.az.ai.ls.length≤9223372036854775807)∧(∀ y1 ∈ x.az.ai.ls,Ro w D (fun w'=>bE w' 2 y1.ak.A y1.ak.ls.length (q3 aI.cells y1.ak.ls))∧(y1.ak.ls.length≤y1.ak.c∧y1.ak.ls.length≤9223372036854775807))∧Ro w D (fun w'=>bE w' 2 x.az.ag.A x.az.ag.ls.length (q3 aY.cells x.az.ag.ls))∧(x.az.ag.ls.length≤x.az.ag.c∧x.az.ag.ls.length≤9223372036854775807)) (zB:n0=l0.length) (E8:l0.length *272≤211106232532992) (E9:l0.length *272≤140737488351232) (zC:∀ x ∈ l0,x.az.aP≤18446744073709551615∧x.az.aH.ls.length≤140737488351232∧x.az.ai.ls.length≤140737488351232∧x.az.ag.ls.length≤140737488351232) (hr:sP l0=r0):
    Calls Tryz.prog 3 #[.slice A0 n0 c0] w (d9 fun v w'=>v= .bool r0∧Own w D w' []):=by
 subst zB
 have CU:=aB uC
 refine cb Tryz.func3 ?_
 refine sr (Ar rfl ?_)
 obtain⟨S,aV⟩:∃ q,vD=q:=⟨_,rfl⟩
 obtain⟨Fa,uD,CV,uE,CW⟩:=Ii H
 refine cl Tryz.call7 (BB _ _ S uD aV) ?_
 rintro _ Fb ⟨rfl,uF⟩
 have zD:=uE _ _ uF
 refine Ar rfl ?_
 refine WL.do rfl (Iz Tryz.call9 rfl ?_ (fun _ _ k=>k))
 refine cb Tryz.func9 ?_
 refine sr ?_
 refine dV [vI 0, .int .u64 0, .int .u64 0, .int .u64 0, .slice none 0 0, .slice none 0 0, .slice none 0 0] 33 zD ?_
 intro Fe Ff zF
 refine ns (Kz (.agg #[.string ⟨v9 ([])⟩,vI 1]) (Kz (.agg #[.string ⟨v9 ([109])⟩,vI 2]) ?_))
 refine lg [.string ⟨v9 ([])⟩,vI 1, .string ⟨v9 ([109])⟩,vI 2] 89 2 2 zF ?_
 intro gZ Fg qZ
 replace qZ:=IL (y:=row gZ 2 2 (q3 aY.cells ([(aY.mk ([]) 1),(aY.mk ([109]) 2)])) 89 2) rfl qZ
 refine Kz (.agg #[vI 2, .int .u64 0, .int .u64 0, .int .u64 1, .slice gZ 2 2, .slice none 0 0, .slice none 0 0]) ?_
 have zG:=qZ.pb [0]
 refine dS [vI 2, .int .u64 0, .int .u64 0, .int .u64 1, .slice gZ 2 2, .slice none 0 0, .slice none 0 0] 0 zG H4 ?_
 intro Fh uG
 refine nt (rt (Fin.res (ol rfl rfl (Iy (cs:= [vI 2, .int .u64 0, .int .u64 0, .int .u64 1, .slice gZ 2 2, .slice none 0 0, .slice none 0 0]) U1 H4 ((uG.cls (i:=0) rfl).lit (k:=0) (m:=7) rfl))) ?_))
 refine WL.do rfl (Iz Tryz.call8 rfl ?_ (fun _ _ k=>k))
 refine cb Tryz.func8 ?_
 refine Ic ?_
 have zH:=uG.pk [1]
 refine Ib ?_
 refine dV [vI 2, .int .u64 0, .int .u64 0, .int .u64 1, .slice gZ 2 2, .slice none 0 0, .slice none 0 0] 33 zH ?_
 intro zI Fj uH
 refine Az rfl (An rfl (Ic (sr (La ([vI 2, .int .u64 0, .int .u64 0, .int .u64 1, .slice gZ 2 2, .slice none 0 0, .slice none 0 0]) uH 0 U1 H4 ?_))))
 obtain⟨mI,aX⟩:∃ q,gJ (cZ.mk 2 0 0 1 (E2 ([(aY.mk ([]) 1),(aY.mk ([109]) 2)])) (E2 ([])) (E2 ([])))=q:=⟨_,rfl⟩
 obtain⟨Fp,uI,CX,uJ,uK⟩:=Ii uH
 refine cl Tryz.call19 (mV _ _ (cZ.mk 2 0 0 1 (E2 ([(aY.mk ([]) 1),(aY.mk ([109]) 2)])) (E2 ([])) (E2 ([]))) gZ 2 2 none 0 0 [] none 0 0 [] mI uI rfl (uK _ 1 _ rfl aO) f2 rfl rfl (fun _ _=>bE.nil _ _ _) f2 (fun _ h9=>absurd h9 y6) rfl rfl (fun _ _=>bE.nil _ _ _) f2 (fun _ h9=>absurd h9 y6) e8 aX) ?_
 rintro _ Fq ⟨rfl,uL⟩
 have mJ:=uJ _ _ uL
 refine fw (.bool (decide (¬ (mI=0)))) (IG (e:= !(decide (mI=0))) yk decide_not.symm) (Mz rfl ?_)
 by_cases aP:mI=0
 refine gw (vP zI 1) (dF (Lh aP)) yk (gw (.int .u64 0) (dF (Lh aP)) (Io rfl (bZ.one D4 (jR.of (mJ.cls (i:=0) rfl) rfl))) (gw (.bool false) (dF (Lh aP)) yk (fw (.bool false) (Ih rfl (dF (Lh aP)) rfl) (nt (jf (sk (sr (La ([vI 2, .int .u64 0, .int .u64 0, .int .u64 1, .slice gZ 2 2, .slice none 0 0, .slice none 0 0]) mJ 0 U1 H4 ?_))))))))
 obtain⟨O,bv⟩:∃ q,gW (cZ.mk 2 0 0 1 (E2 ([(aY.mk ([]) 1),(aY.mk ([109]) 2)])) (E2 ([])) (E2 ([])))=q:=⟨_,rfl⟩
 obtain⟨Fs,uM,CY,uN,uO⟩:=Ii mJ
 refine cl Tryz.call20 (nN _ _ (cZ.mk 2 0 0 1 (E2 ([(aY.mk ([]) 1),(aY.mk ([109]) 2)])) (E2 ([])) (E2 ([]))) gZ 2 2 none 0 0 [] none 0 0 [] O uM rfl (uO _ 1 _ rfl aO) f2 rfl rfl (fun _ _=>bE.nil _ _ _) f2 (fun _ h9=>absurd h9 y6) rfl rfl (fun _ _=>bE.nil _ _ _) f2 (fun _ h9=>absurd h9 y6) e8 (by first | assumption | exact wM f5 | exact fun _ h9=>absurd h9 y6) (by first | assumption | exact wN f5 | exact fun _ h9=>absurd h9 y6) bv) ?_
 rintro _ Fu ⟨uP,uQ,uS,uU,uV,uW,Fv,Fw,rfl,uX,mO,mP⟩
 have mM:=uN _ _ uX
 have CZ:=aB mO
 have C8:=aB mP
 have C9:=mM.rowC (i:=0) rfl
 have Da:=mM.rowC (i:=1) rfl
 have Db:=mM.rowC (i:=3) rfl
 have Dc:O.ag.ls.length=2∧O.au=2∧O.aj.ls.length=0∧O.aF.ls.length=0:=Ch bv
 refine Kz (.agg #[vI O.au,vU O.av,vU O.aV,vU O.aL, .slice uP O.ag.ls.length uQ, .slice uS O.aj.ls.length uU, .slice uV O.aF.ls.length uW, .int .u64 0, .slice none 0 0, .bool false, .int .u64 0,vI 0, .slice none 0 0, .bool false, .int .u64 0,vI 0, .slice none 0 0, .bool false, .int .u64 0,vI 0, .slice none 0 0, .bool false, .int .u64 0,vI 0, .slice none 0 0, .bool false, .int .u64 0,vI 0, .slice none 0 0, .int .u64 0, .int .u64 0, .int .u64 0, .int .u64 0, .int .u64 0, .pointer none]) ?_
 refine dV [vI O.au,vU O.av,vU O.aV,vU O.aL, .slice uP O.ag.ls.length uQ, .slice uS O.aj.ls.length uU, .slice uV O.aF.ls.length uW, .int .u64 0, .slice none 0 0, .bool false, .int .u64 0,vI 0, .slice none 0 0, .bool false, .int .u64 0,vI 0, .slice none 0 0, .bool false, .int .u64 0,vI 0, .slice none 0 0, .bool false, .int .u64 0,vI 0, .slice none 0 0, .bool false, .int .u64 0,vI 0, .slice none 0 0, .int .u64 0, .int .u64 0, .int .u64 0, .int .u64 0, .int .u64 0, .pointer none] 86 mM ?_
 intro bz Fx zJ
 refine An rfl (Ic ?_)
 have uY:=zJ.px [] [6] []
 refine Ib (Mz rfl (Kz (vP bz 0) (Kz (vP bz 0) (Kz (vP bz 1) (Lz (vU O.av) uY 0 D4 (fw (.int .u64 ((D0 (D1.wrap (((O.av:Nat):Int)+1)):Nat):Int)) (Ie (e:=D1.wrap (((O.av:Nat):Int)+1)) yk (fD _)) (Kz (vP bz 0) (Kz (vP bz 0) (Kz (vP bz 1) ?_)))))))))
 refine dS [.int .u64 ((D0 (D1.wrap (((O.av:Nat):Int)+1)):Nat):Int)] 1 uY N7 ?_
 intro Fy uZ
 refine ns (Mz rfl (Mz rfl (Kz (vP bz 0) (Kz (vP bz 0) (Kz (vP bz 1) (Lz (.int .u64 ((D0 (D1.wrap (((O.av:Nat):Int)+1)):Nat):Int)) uZ 0 D4 ?_))))))
 have De:eU (D0 (D1.wrap (((O.av:Nat):Int)+1))) 32≤18446744073709551615:=nZ _ _
 refine fw (.int .u64 ((eU (D0 (D1.wrap (((O.av:Nat):Int)+1))) 32:Nat):Int)) (Ie (Jv (m:=32) rfl rfl) (fD _)) (Kz (vP bz 0) (Kz (vP bz 0) (Kz (vP bz 2) ?_)))
 refine dS [.int .u64 ((eU (D0 (D1.wrap (((O.av:Nat):Int)+1))) 32:Nat):Int)] 2 uZ N7 ?_
 intro bT zK
 refine ns (Mz rfl (Az rfl (An rfl (rt (Fin.res (lW rfl rfl rfl) ?_)))))
 have zL:Own w D bT (sepL (q3 bB.own ([]))::_):=zK.sepNil
 have zM:Own w D bT (row none 0 0 (q3 bB.cells ([])) 107 9::_):=zL.free (eZ 107 9)
 have zN:Own w D bT (sepL (q3 ae.own ([]))::_):=zM.sepNil
 have zO:Own w D bT (row none 0 0 (q3 ae.cells ([])) 149 3::_):=zN.free (eZ 149 3)
 have zP:Own w D bT (sepL (q3 ae.own ([]))::_):=zO.sepNil
 have zQ:Own w D bT (row none 0 0 (q3 ae.cells ([])) 149 3::_):=zP.free (eZ 149 3)
 have zR:Own w D bT (sepL (q3 ae.own ([]))::_):=zQ.sepNil
 have zS:Own w D bT (row none 0 0 (q3 ae.cells ([])) 149 3::_):=zR.free (eZ 149 3)
 have zT:Own w D bT (sepL (q3 ae.own ([]))::_):=zS.sepNil
 have zU:Own w D bT (row none 0 0 (q3 ae.cells ([])) 149 3::_):=zT.free (eZ 149 3)
 have u6:Own w D bT (sepL (q3 ae.own ([]))::_):=zU.sepNil
 have u7:Own w D bT (row none 0 0 (q3 ae.cells ([])) 149 3::_):=u6.free (eZ 149 3)
 have ve:=u7.pf [12,13,14,15,16,17,10,11]
 have vg:Own w D bT (iG bz (aA.mk (cZ.mk O.au (D0 (D1.wrap (((O.av:Nat):Int)+1))) (eU (D0 (D1.wrap (((O.av:Nat):Int)+1))) 32) O.aL (E2 O.ag.ls) (E2 O.aj.ls) (E2 O.aF.ls)) 0 (E2 ([])) (df.mk false 0 0 (E2 ([]))) (df.mk false 0 0 (E2 ([]))) (df.mk false 0 0 (E2 ([]))) (df.mk false 0 0 (E2 ([]))) (df.mk false 0 0 (E2 ([]))) 0 0 0 0 0)::_):=fe mO mP rfl rfl rfl rfl rfl rfl ve
 obtain⟨Y,aD⟩:∃ q,(aA.mk (cZ.mk O.au (D0 (D1.wrap (((O.av:Nat):Int)+1))) (eU (D0 (D1.wrap (((O.av:Nat):Int)+1))) 32) O.aL (E2 O.ag.ls) (E2 O.aj.ls) (E2 O.aF.ls)) 0 (E2 ([])) (df.mk false 0 0 (E2 ([]))) (df.mk false 0 0 (E2 ([]))) (df.mk false 0 0 (E2 ([]))) (df.mk false 0 0 (E2 ([]))) (df.mk false 0 0 (E2 ([]))) 0 0 0 0 0)=q:=⟨_,rfl⟩
 have vk:Own w D bT [iG bz Y,row gZ 2 2 (q3 aY.cells ([(aY.mk ([]) 1),(aY.mk ([109]) 2)])) 89 2]:=by rw [← aD]; exact vg
 have zV:Mk Y:=wO f5 f5
 have zW:Y.aa.ag.ls.length≤1000∧Y.aa.au≤4∧Y.ay.ls.length+Y.aa.aj.ls.length≤8∧Y.aa.aF.ls.length≤0:=tZ f5 f5
 refine Mz rfl (Kz (vP bz 0) (Kz (vI 0) (Az rfl (An rfl (Ic (Ic ?_))))))
 have lD:=vk.pk [0]
 refine Ib (Mz rfl (Kz (.bool false) (Mz rfl (gw (vI 0) rfl (Iq rfl) (Gz (.bool false) rfl (fw (.bool false) (Ih rfl rfl rfl) (Mz rfl (gw (.slice A0 l0.length c0) rfl (Iq rfl) (Gz (vJ l0.length) rfl (Gz (.bool (decide (((l0.length:Nat):Int) > 100))) rfl (fw (.bool (decide (((l0.length:Nat):Int) > 100))) (Ih rfl rfl rfl) (nt ?_))))))))))))
 by_cases bA:((l0.length:Nat):Int) > 100
 refine jT (dT bA) (sr (Mz rfl (Mz rfl ?_)))
 rcases Li (S) with bU | bU
 refine I1 (v:=vP bz 0) rfl rfl bU rfl (Iq rfl) (Gz (.bool true) bU (fw (.bool true) (Iw rfl bU rfl) (An rfl (rt (tR (rs ?_))))))
 have vo:=lD.pk []
 obtain rfl:_=true:=hr.symm.trans (et (ah aV) (et (ah aX) (et (ip aP) (et (ah bv) (et (ah aD) (et (ip bA) (ip bU)))))))
 exact⟨rfl,vo⟩
 refine Sz bU (Sz bU (fw (.bool false) (Ih rfl bU rfl) (An rfl (rt (tR (rs ?_))))))
 have vv:=lD.pk []
 obtain rfl:_=false:=hr.symm.trans (et (ah aV) (et (ah aX) (et (ip aP) (et (ah bv) (et (ah aD) (et (ip bA) (gm bU)))))))
 exact⟨rfl,vv⟩
 refine jF (dF bA) (sk (sr ?_))
 refine WL.do rfl (JN (κ:=Nat) (ν:=eX) kU eX.val lD ?_)
 intro Q Df vw
 refine Ar rfl ?_
 refine WL.do rfl (JN (κ:=Nat) (ν:=Bool) kU Value.bool vw ?_)
 intro P Dh vz
 refine An rfl (Ic (sr (Mz rfl (Kz (vJ l0.length) (Mn rfl (bo ?_))))))
 have vB:=vz.pf []
 obtain⟨vC,iw⟩:=Au fun (C:Nat) (g:aA) (p:Nat) T U w'=>Own w D w' [l5 P kU Value.bool T,l5 Q kU eX.val U,iG C g]∧p≤l0.length∧(g.aa.ag.ls.length≤1000∧g.aa.au≤4∧g.ay.ls.length+g.aa.aj.ls.length≤8∧g.aa.aF.ls.length≤p)∧Mk g∧fP S l0 Y ([]) ([])=fP S (r3 p l0) g T U
 refine C3 (fun i:Nat × aA × Nat × (List (Nat × Bool)) × (List (Nat × eX))=> [(2, .bool false),(4, .pointer (some ⟨i.1,0,none⟩)),(49,vJ i.2.2.1),(48,vJ l0.length),(47, .slice A0 l0.length c0),(7, .map (some P)),(6, .map (some Q)),(3, .bool S)]) vC (fun i=>l0.length - i.2.2.1) (bz,Y,0, [], []) ⟨rfl,rfl,rfl,rfl,rfl,rfl,rfl,rfl,trivial⟩ (iw.2 ⟨vB,(show 0≤l0.length∧(Y.aa.ag.ls.length≤1000∧Y.aa.au≤4∧Y.ay.ls.length+Y.aa.aj.ls.length≤8∧Y.aa.aF.ls.length≤0)∧Mk Y∧fP S l0 Y ([]) ([])=fP S (r3 0 l0) Y ([]) ([]) from ⟨e6,by first | omega | (dsimp only; omega) | exact tZ f5 f5,by first | assumption | exact wO f5 f5,rfl⟩)⟩) ?_
 rintro ⟨C,g,p,T,U⟩ Di q8
 obtain⟨iO,zX,zY,zZ,aQ⟩:=iw.1 q8
 refine sr (Kz (.bool (decide (((p:Nat):Int) < ((l0.length:Nat):Int)))) (nt (Ic ?_)))
 by_cases mQ:((p:Nat):Int) < ((l0.length:Nat):Int)
 obtain⟨a,aF⟩:=dN (ls:=d0) (i:=p) fM.len f4 (iO.ro qY) e9
 have lF:=fF uC aF
 have z8:=(iM _ (D3 aF)).2.1
 have Aa:=(iM _ (D3 aF)).2.2.2.1
 have Ab:r8 (s5 ae.abs a.az.ai.ls)=a.az.ai.ls.length:=s3 ..
 have Ac:=(iM _ (D3 aF)).2.2.2.2.2.2
 have Ad:a.az.aP≤18446744073709551615∧a.az.aH.ls.length≤140737488351232∧a.az.ai.ls.length≤140737488351232∧a.az.ag.ls.length≤140737488351232:=by have q:=zC _ (D3 lF); exact⟨q.1,q.2.1,Nat.le_trans (Nat.le_of_eq (s3 ..).symm) q.2.2.1,q.2.2.2⟩
 have bC:=drop_at lF
 refine jT (dT mQ) (sk (Ic (bo (sr (fw (.pointer (some ⟨ab A0,ao A0+p *25,none⟩)) (Ij (G7) rfl rfl ((iO.ro qY).addr (i:=p) e6) e6) (fw (.agg (fM.cells a).toArray) (Io rfl (Iy (cs:=(fM.cells a)) V9 W0 ((iO.ro qY).elem fM.len aF f4))) ?_))))))
 refine dV (Gy 0 0 0 0 0 0 0 0 0 0 0 0 0 0 0 0 0 false ([]) ([]) none 0 0 none 0 0 none 0 0 false ([])) 44 iO ?_
 intro E Dj vE
 refine dS (fM.cells a) 0 vE W0 ?_
 intro Dk vF
 refine ns (Kz (.agg #[.slice none 0 0, .bool false]) ?_)
 refine dV [.slice none 0 0, .bool false] 47 vF ?_
 intro F Dl vG
 refine dS [.slice none 0 0, .bool false] 0 vG T4 ?_
 intro mR ib
 refine nt (Ic (sr (Kz (vP E 0) (Lz (vI a.iU) ib 1 C4 (nt ?_)))))
 by_cases dK: ¬ (a.iU=0)∨¬ (a.az.aD=6)
 obtain⟨vH,dX⟩:=GM fun (B:Nat) (h:aA) j (u:Nat) L b aH w'=>Own w D w' [blk F [.slice j b.length u, .bool aH] 47,blk E (fM.cells a) 44,l5 P kU Value.bool T,l5 Q kU eX.val U,iG B h,row j b.length u (q3 bf.cells L) 42 21,sepL (q3 bf.own L)]∧s5 bf.abs L=b∧0≤b.length∧b.length≤9223372036854775807∧(h.aa.ag.ls.length≤1000∧h.aa.au≤4∧h.ay.ls.length+h.aa.aj.ls.length≤8∧h.aa.aF.ls.length≤g.aa.aF.ls.length+1)∧Mk h∧(if a.iU=0 then bnd (bnd (eQ g) fun X=>(ja a.dE a.az.aD 1 X.av a.az.av,lZ a.dE a.az.aN X.av,ja a.dE a.az.aD 9 X.aV a.az.aV)) fun sJrbbtbbfLstJjtJ=>bnd (eT g (bL.mk a.az.aD a.az.aJ a.az.fI a.az.aK a.az.dz a.az.eH a.az.aP sJrbbtbbfLstJjtJ.1 sJrbbtbbfLstJjtJ.2.1 a.az.dY sJrbbtbbfLstJjtJ.2.2 a.az.aL (nR a.dE a.az.dL 0) a.az.cu a.az.xN a.az.cz a.az.bU (E2 a.az.aH.ls) (E2 (s5 ae.abs a.az.ai.ls)) (E2 a.az.ag.ls))) fun bF=>B9 (bF.2.2,bF.1.fo.ls) else if a.iU=1 then bnd (jk g) fun bG=>B9 (bG.2,bG.1.fo.ls) else if a.iU=4 then bnd (eQ g) fun au=>bnd (gJ au) fun dY=>if dY=0 then if((au.av:Nat):Int)=2147483647 then C1 (false) else bnd (gW au) fun J=>bnd ((aA.mk (cZ.mk J.au (D0 (D1.wrap (((J.av:Nat):Int)+1))) (eU (D0 (D1.wrap (((J.av:Nat):Int)+1))) 32) J.aL (E2 J.ag.ls) (E2 J.aj.ls) (E2 J.aF.ls)) 0 (E2 ([])) (df.mk false 0 0 (E2 ([]))) (df.mk false 0 0 (E2 ([]))) (df.mk false 0 0 (E2 ([]))) (df.mk false 0 0 (E2 ([]))) (df.mk false 0 0 (E2 ([]))) 0 0 0 0 0)) fun dZ=>B9 (dZ, []) else C1 (false) else B9 (g, []))=B9 (h,b)
 refine IZ (fun i:Nat × aA × (Option Addr) × Nat × (List bf) × (List bL) × Bool=> [(2, .bool false),(4, .pointer (some ⟨i.1,0,none⟩)),(56, .bool (decide (a.iU=0))),(57, .bool (decide (a.iU=0))),(55,vI a.iU),(54,vP E 0),(10,vP F 0),(53, .agg #[.slice none 0 0, .bool false]),(9,vP E 0),(52, .agg (fM.cells a).toArray),(51, .pointer (some ⟨ab A0,ao A0+p *25,none⟩)),(50, .bool (decide (((p:Nat):Int) < ((l0.length:Nat):Int)))),(49,vJ p),(48,vJ l0.length),(47, .slice A0 l0.length c0),(7, .map (some P)),(6, .map (some Q)),(3, .bool S)]) vH ?_ ?_
 refine bo (sr (Kz (.bool (decide (a.iU=0))) (An rfl ?_)))
 by_cases dL:a.iU=0
 refine jT (dT dL) (Ic ?_)
 obtain⟨vK,iy⟩:=FB fun (bV:Nat) (aJ:Nat) (aK:Nat) (aL:Nat) (iP:Int) (iQ:Nat) (iR:Nat) (iT:Nat) ed (ek:Nat) bW eu (eB:Nat) bX bY eF (eG:Nat) cu cz (iU:Nat) (iV:Nat) (iW:Nat) w'=>Own w D w' [blk bV [vI a.az.aD,vI a.az.aJ,vI a.az.fI,vI a.az.aK,vI a.az.dz,vI a.az.eH,vU a.az.aP,vU aJ,vU aK,vU a.az.dY,vU aL,vU a.az.aL,vU (nR a.dE a.az.dL 0),vU a.az.cu,vU a.az.xN, .bool a.az.cz, .string ⟨v9 a.az.bU.bF⟩, .string ⟨v9 a.az.bU.bT⟩, .slice a.az.aH.A a.az.aH.ls.length a.az.aH.c, .slice a.az.ai.A a.az.ai.ls.length a.az.ai.c, .slice a.az.ag.A a.az.ag.ls.length a.az.ag.c] 42,blk F [.slice none 0 0, .bool false] 47,blk E (fM.cells a) 44,l5 P kU Value.bool T,l5 Q kU eX.val U,iG C g,row ed bW.length ek (q3 aY.cells bW) 89 2,row eu bY.length eB (q3 aC.cells bX) 60 5,sepL (q3 aC.own bX),row eF cz.length eG (q3 aU.cells cu) 56 4,sepL (q3 aU.own cu)]∧s5 aC.abs bX=bY∧s5 aU.abs cu=cz∧(bnd (eQ g) fun X=>(ja a.dE a.az.aD 1 X.av a.az.av,lZ a.dE a.az.aN X.av,ja a.dE a.az.aD 9 X.aV a.az.aV))=(aJ,aK,aL)
 refine IZ (fun i:Nat × Nat × Nat × Nat × Int × Nat × Nat × Nat × (Option Addr) × Nat × (List aY) × (Option Addr) × Nat × (List aC) × (List bH) × (Option Addr) × Nat × (List aU) × (List eD) × Nat × Nat × Nat=> [(11, .pointer (some ⟨i.1,0,none⟩)),(58, .agg (fM.cells a).toArray),(59,vP C 0),(60, .agg #[vI i.2.2.2.2.1,vU i.2.2.2.2.2.1,vU i.2.2.2.2.2.2.1,vU i.2.2.2.2.2.2.2.1, .slice i.2.2.2.2.2.2.2.2.1 i.2.2.2.2.2.2.2.2.2.2.1.length i.2.2.2.2.2.2.2.2.2.1, .slice i.2.2.2.2.2.2.2.2.2.2.2.1 i.2.2.2.2.2.2.2.2.2.2.2.2.2.2.1.length i.2.2.2.2.2.2.2.2.2.2.2.2.1, .slice i.2.2.2.2.2.2.2.2.2.2.2.2.2.2.2.1 i.2.2.2.2.2.2.2.2.2.2.2.2.2.2.2.2.2.2.1.length i.2.2.2.2.2.2.2.2.2.2.2.2.2.2.2.2.1]),(61,vP C 0),(62, .int .u64 0),(63, .agg #[vI a.az.aD,vI a.az.aJ,vI a.az.fI,vI a.az.aK,vI a.az.dz,vI a.az.eH,vU a.az.aP,vU i.2.2.2.2.2.2.2.2.2.2.2.2.2.2.2.2.2.2.2.1,vU i.2.2.2.2.2.2.2.2.2.2.2.2.2.2.2.2.2.2.2.2.1,vU a.az.dY,vU i.2.2.2.2.2.2.2.2.2.2.2.2.2.2.2.2.2.2.2.2.2,vU a.az.aL,vU (nR a.dE a.az.dL 0),vU a.az.cu,vU a.az.xN, .bool a.az.cz, .string ⟨v9 a.az.bU.bF⟩, .string ⟨v9 a.az.bU.bT⟩, .slice a.az.aH.A a.az.aH.ls.length a.az.aH.c, .slice a.az.ai.A a.az.ai.ls.length a.az.ai.c, .slice a.az.ag.A a.az.ag.ls.length a.az.ag.c]),(56, .bool (decide (a.iU=0))),(57, .bool (decide (a.iU=0))),(55,vI a.iU),(54,vP E 0),(10,vP F 0),(53, .agg #[.slice none 0 0, .bool false]),(9,vP E 0),(52, .agg (fM.cells a).toArray),(51, .pointer (some ⟨ab A0,ao A0+p *25,none⟩)),(50, .bool (decide (((p:Nat):Int) < ((l0.length:Nat):Int)))),(2, .bool false),(4,vP C 0),(49,vJ p),(48,vJ l0.length),(47, .slice A0 l0.length c0),(7, .map (some P)),(6, .map (some Q)),(3, .bool S)]) vK ?_ ?_
 refine vX [] (Iu (bQ.block (Iu (bQ.block (Iu (Iu (bQ.block (Iu IC)))))))) ib ?_
 intro Dm mU
 refine qt (v:= .agg (fM.cells a).toArray) 0 rfl (fun _ ⟨_,H9⟩=>Io rfl (Iy (cs:=(fM.cells a)) V9 W0 ((H9.cls (i:=1) rfl).lit (k:=0) (m:=25) rfl))) (qv 1 rfl rfl (qv 3 rfl rfl ?_))
 refine Jj 2 6 e7 ?_ ?_
 have vL:=mU.pf [4]
 obtain⟨l,iA⟩:∃ q,eQ g=q:=⟨_,rfl⟩
 obtain⟨Dn,q9,Af,rf,Ag⟩:=II vL
 refine GY.do 2 rfl e7 (Iz W1 rfl (kE _ _ C g l q9 e8 f5 iA) ?_)
 rintro _ Dp ⟨kF,kG,kH,kI,eH,eO,mW,mX,rfl,rq,jQ,jS⟩
 have kJ:=rf _ _ rq
 have Ah:=aB jQ
 have Ai:=aB jS
 have Aj:=kJ.rowC (i:=0) rfl
 have Ak:=kJ.rowC (i:=1) rfl
 have Al:=kJ.rowC (i:=3) rfl
 obtain⟨Am,Ao,Ap⟩:=uT f5 f5 iA
 have lG:=kJ.pf [6,7,8,9]
 refine⟨.inr ⟨_,lG⟩, ?_⟩
 refine Jj 4 6 e7 ?_ ?_
 refine GY.do 4 rfl e7 (Iz U8 rfl ?_ (fun _ _ k=>k))
 refine cb U9 ?_
 refine sr (An rfl (Ic (Ic ?_)))
 have vM:=lG.pf [9]
 obtain⟨Dq,Dr,Dt,Du,Dv,mY,mZ,ng,ni,nk,nu,ny,nz,nA,nC,nD,nE,nG,nH,nI,nJ,nK,nL,nM,nO,nP,ru,eP,fo,fq,fu,fA,fC,fE,Aq,nS⟩:=iZ vM
 refine Ib (Mz rfl (Kz (vP C 0) (Kz (vP C 34) (Lz (.pointer none) nS 0 V0 (Kz (.bool true) (nt (jt (sr (An rfl (rt (tR (rs ?_))))))))))))
 have nV:=nS.pf [18,19,20,21]
 refine⟨.inr ⟨_,nV⟩, ?_⟩
 refine Et ⟨5,_,_,_,_,_,Unit,fun g9=> .agg #[vI a.az.aD,vI a.az.aJ,vI a.az.fI,vI a.az.aK,vI a.az.dz,vI a.az.eH,vU a.az.aP,vU (ja a.dE a.az.aD 1 l.av a.az.av),vU (lZ a.dE a.az.aN l.av),vU a.az.dY,vU (ja a.dE a.az.aD 9 l.aV a.az.aV),vU a.az.aL,vU (nR a.dE a.az.dL 0),vU a.az.cu,vU a.az.xN, .bool a.az.cz, .string ⟨v9 a.az.bU.bF⟩, .string ⟨v9 a.az.bU.bT⟩, .slice a.az.aH.A a.az.aH.ls.length a.az.aH.c, .slice a.az.ai.A a.az.ai.ls.length a.az.ai.c, .slice a.az.ag.A a.az.ag.ls.length a.az.ag.c],fun _=>True,fun g9=> []⟩ ⟨6,_,_,_,_,_,Nat,fun g9=>vP g9 0,fun _=>True,fun g9=> [blk g9 (gU 0 0 0 0 0 0 0 0 0 0 0 0 0 0 0 false ([]) ([]) none 0 0 none 0 0 none 0 0) 42]⟩ 4 nV ⟨⟨rfl,rfl,rfl, ?_⟩,⟨rfl,rfl,rfl, ?_⟩,trivial⟩ ?_
 intro Dw L' vN
 obtain⟨Dx,ry,Av,rA,Aw⟩:=Ii vN
 refine(Iz W2 rfl (qQ _ _ a l.au l.av l.aV l.aL kF l.ag.ls.length kG kH l.aj.ls.length kI eH l.aF.ls.length eO 0 ry) ?_)
 rintro _ Dy ⟨rfl,rC⟩
 have vO:=rA _ _ rC
 exact⟨(),rfl,trivial,vO⟩
 intro Dz L' fG
 refine(IY (cs:=(gU 0 0 0 0 0 0 0 0 0 0 0 0 0 0 0 false ([]) ([]) none 0 0 none 0 0 none 0 0)) (t:=42) fG rfl rfl (fun _=>by kernel_rfl) ?_)
 intro kK nW iX
 exact⟨kK,rfl,trivial,iX⟩
 rintro ⟨⟩ _ kK _
 intro vQ iY
 have jb:Own w D vQ (blk kK (gU 0 0 0 0 0 0 0 0 0 0 0 0 0 0 0 false ([]) ([]) none 0 0 none 0 0 none 0 0) 42::_):=iY.flat.pf []
 have jc:=jb.pf [1,2,3,4]
 have vR:=jc.pf [4]
 refine qe 7 rfl (Do.store (vs:= [vI a.az.aD,vI a.az.aJ,vI a.az.fI,vI a.az.aK,vI a.az.dz,vI a.az.eH,vU a.az.aP,vU (ja a.dE a.az.aD 1 l.av a.az.av),vU (lZ a.dE a.az.aN l.av),vU a.az.dY,vU (ja a.dE a.az.aD 9 l.aV a.az.aV),vU a.az.aL,vU (nR a.dE a.az.dL 0),vU a.az.cu,vU a.az.xN, .bool a.az.cz, .string ⟨v9 a.az.bU.bF⟩, .string ⟨v9 a.az.bU.bT⟩, .slice a.az.aH.A a.az.aH.ls.length a.az.aH.c, .slice a.az.ai.A a.az.ai.ls.length a.az.ai.c, .slice a.az.ag.A a.az.ag.ls.length a.az.ag.c]) (o:=0) vR rfl rfl N6 rfl rfl rfl rfl ?_)
 intro DC vS
 have nX:=vS.pf [1,2,3,4]
 refine⟨.inr ⟨_,nX⟩, ?_⟩
 refine qn ?_
 have vT:=nX.pb [0,1,2,3,4,23,24,25,26,27]
 have vV:=fe ru eP fo fq fu fA fC fE vT
 have vW:=vV.pf [5,1,2,3,4]
 exact IQ (kK,ja a.dE a.az.aD 1 l.av a.az.av,lZ a.dE a.az.aN l.av,ja a.dE a.az.aD 9 l.aV a.az.aV,l.au,l.av,l.aV,l.aL,kF,kG,l.ag.ls,kH,kI,mW,l.aj.ls,eH,eO,mX,l.aF.ls,ja a.dE a.az.aD 1 l.av a.az.av,lZ a.dE a.az.aN l.av,ja a.dE a.az.aD 9 l.aV a.az.aV) ⟨rfl,rfl,rfl,rfl,rfl,rfl,rfl,rfl,rfl,rfl,rfl,rfl,rfl,rfl,rfl,rfl,rfl,rfl,rfl,rfl,rfl,rfl,rfl,rfl,rfl,trivial⟩ (iy.2 ⟨vW,by exact jQ,by exact jS,ah iA⟩)
 refine GY.do 6 rfl e7 (IY (cs:=(gU 0 0 0 0 0 0 0 0 0 0 0 0 0 0 0 false ([]) ([]) none 0 0 none 0 0 none 0 0)) (t:=42) lG rfl rfl (fun _=>by kernel_rfl) ?_)
 intro vY DD vZ
 have jd:=vZ.pf [1,2,3,4]
 refine⟨.inr ⟨_,jd⟩, ?_⟩
 refine GX.do 4 rfl e7 (Iz U8 rfl ?_ (fun _ _ k=>k))
 refine cb U9 ?_
 refine sr (An rfl (Ic (Ic ?_)))
 have lI:=jd.pf [10]
 obtain⟨wh,wm,mY,mZ,ng,ni,nk,nu,ny,nz,nA,nC,nD,nE,nG,nH,nI,nJ,nK,nL,nM,nO,nP,wo,wu,ww,eP,fo,fq,fu,fA,fC,fE,jU,rD,je⟩:=iZ lI
 refine Ib (Mz rfl (Kz (vP C 0) (Kz (vP C 34) (Lz (.pointer none) je 0 V0 (Kz (.bool true) (nt (jt (sr (An rfl (rt (tR (rs ?_))))))))))))
 have jg:=je.pf [18,19,20,21]
 refine⟨.inr ⟨_,jg⟩, ?_⟩
 obtain⟨wy,jV,rE,jW,rF⟩:=Ii jg
 refine qd 5 rfl (Iz W2 rfl (qQ _ _ a l.au l.av l.aV l.aL kF l.ag.ls.length kG kH l.aj.ls.length kI eH l.aF.ls.length eO 0 jV) ?_)
 rintro _ wz ⟨rfl,jX⟩
 have fG:=jW _ _ jX
 refine⟨.inr ⟨_,fG⟩, ?_⟩
 have lJ:=fG.pf [22]
 refine qe 7 rfl (Do.store (vs:= [vI a.az.aD,vI a.az.aJ,vI a.az.fI,vI a.az.aK,vI a.az.dz,vI a.az.eH,vU a.az.aP,vU (ja a.dE a.az.aD 1 l.av a.az.av),vU (lZ a.dE a.az.aN l.av),vU a.az.dY,vU (ja a.dE a.az.aD 9 l.aV a.az.aV),vU a.az.aL,vU (nR a.dE a.az.dL 0),vU a.az.cu,vU a.az.xN, .bool a.az.cz, .string ⟨v9 a.az.bU.bF⟩, .string ⟨v9 a.az.bU.bT⟩, .slice a.az.aH.A a.az.aH.ls.length a.az.aH.c, .slice a.az.ai.A a.az.ai.ls.length a.az.ai.c, .slice a.az.ag.A a.az.ag.ls.length a.az.ag.c]) (o:=0) lJ rfl rfl N6 rfl rfl rfl rfl ?_)
 intro nW iX
 have jh:=iX.pf [1,2,3,4]
 refine⟨.inr ⟨_,jh⟩, ?_⟩
 refine qn ?_
 have iY:=jh.pb [0,1,2,3,4,23,24,25,26,27]
 have jb:=fe eP fo fq fu fA fC fE jU iY
 have jc:=jb.pf [5,1,2,3,4]
 exact IQ (vY,ja a.dE a.az.aD 1 l.av a.az.av,lZ a.dE a.az.aN l.av,ja a.dE a.az.aD 9 l.aV a.az.aV,l.au,l.av,l.aV,l.aL,kF,kG,l.ag.ls,kH,kI,mW,l.aj.ls,eH,eO,mX,l.aF.ls,ja a.dE a.az.aD 1 l.av a.az.av,lZ a.dE a.az.aN l.av,ja a.dE a.az.aD 9 l.aV a.az.aV) ⟨rfl,rfl,rfl,rfl,rfl,rfl,rfl,rfl,rfl,rfl,rfl,rfl,rfl,rfl,rfl,rfl,rfl,rfl,rfl,rfl,rfl,rfl,rfl,rfl,rfl,trivial⟩ (iy.2 ⟨jc,by exact jQ,by exact jS,ah iA⟩)
 refine GY.do 6 rfl e7 (IY (cs:=(gU 0 0 0 0 0 0 0 0 0 0 0 0 0 0 0 false ([]) ([]) none 0 0 none 0 0 none 0 0)) (t:=42) mU rfl rfl (fun _=>by kernel_rfl) ?_)
 intro wB DF wC
 have og:=wC.pb [0,5]
 refine⟨.inr ⟨_,og⟩, ?_⟩
 have wD:=og.pf [5]
 obtain⟨l,jY⟩:∃ q,eQ g=q:=⟨_,rfl⟩
 obtain⟨DI,rG,Ay,rH,AA⟩:=II wD
 refine qd 2 rfl (Iz W1 rfl (kE _ _ C g l rG e8 f5 jY) ?_)
 rintro _ DJ ⟨eH,eO,oh,om,oo,oq,wE,wF,rfl,rJ,lK,lL⟩
 have kM:=rH _ _ rJ
 have AB:=aB lK
 have AC:=aB lL
 have AJ:=kM.rowC (i:=0) rfl
 have AL:=kM.rowC (i:=1) rfl
 have AO:=kM.rowC (i:=3) rfl
 obtain⟨AP,AQ,AR⟩:=uT f5 f5 jY
 have jd:=kM.pf [6,7,8,9]
 refine⟨.inr ⟨_,jd⟩, ?_⟩
 refine GX.do 4 rfl e7 (Iz U8 rfl ?_ (fun _ _ k=>k))
 refine cb U9 ?_
 refine sr (An rfl (Ic (Ic ?_)))
 have lI:=jd.pf [9]
 obtain⟨wh,wm,mY,mZ,ng,ni,nk,nu,ny,nz,nA,nC,nD,nE,nG,nH,nI,nJ,nK,nL,nM,nO,nP,wo,wu,ww,eP,fo,fq,fu,fA,fC,fE,jU,rD,je⟩:=iZ lI
 refine Ib (Mz rfl (Kz (vP C 0) (Kz (vP C 34) (Lz (.pointer none) je 0 V0 (Kz (.bool true) (nt (jt (sr (An rfl (rt (tR (rs ?_))))))))))))
 have jg:=je.pf [18,19,20,21]
 refine⟨.inr ⟨_,jg⟩, ?_⟩
 obtain⟨wy,jV,rE,jW,rF⟩:=Ii jg
 refine qd 5 rfl (Iz W2 rfl (qQ _ _ a l.au l.av l.aV l.aL eH l.ag.ls.length eO oh l.aj.ls.length om oo l.aF.ls.length oq 0 jV) ?_)
 rintro _ wz ⟨rfl,jX⟩
 have fG:=jW _ _ jX
 refine⟨.inr ⟨_,fG⟩, ?_⟩
 have lJ:=fG.pf [27]
 refine qe 7 rfl (Do.store (vs:= [vI a.az.aD,vI a.az.aJ,vI a.az.fI,vI a.az.aK,vI a.az.dz,vI a.az.eH,vU a.az.aP,vU (ja a.dE a.az.aD 1 l.av a.az.av),vU (lZ a.dE a.az.aN l.av),vU a.az.dY,vU (ja a.dE a.az.aD 9 l.aV a.az.aV),vU a.az.aL,vU (nR a.dE a.az.dL 0),vU a.az.cu,vU a.az.xN, .bool a.az.cz, .string ⟨v9 a.az.bU.bF⟩, .string ⟨v9 a.az.bU.bT⟩, .slice a.az.aH.A a.az.aH.ls.length a.az.aH.c, .slice a.az.ai.A a.az.ai.ls.length a.az.ai.c, .slice a.az.ag.A a.az.ag.ls.length a.az.ag.c]) (o:=0) lJ rfl rfl N6 rfl rfl rfl rfl ?_)
 intro nW iX
 have jh:=iX.pf [1,2,3,4]
 refine⟨.inr ⟨_,jh⟩, ?_⟩
 refine qn ?_
 have iY:=jh.pb [0,1,2,3,4,23,24,25,26,27]
 have jb:=fe eP fo fq fu fA fC fE jU iY
 have jc:=jb.pf [5,1,2,3,4]
 exact IQ (wB,ja a.dE a.az.aD 1 l.av a.az.av,lZ a.dE a.az.aN l.av,ja a.dE a.az.aD 9 l.aV a.az.aV,l.au,l.av,l.aV,l.aL,eH,eO,l.ag.ls,oh,om,wE,l.aj.ls,oo,oq,wF,l.aF.ls,ja a.dE a.az.aD 1 l.av a.az.av,lZ a.dE a.az.aN l.av,ja a.dE a.az.aD 9 l.aV a.az.aV) ⟨rfl,rfl,rfl,rfl,rfl,rfl,rfl,rfl,rfl,rfl,rfl,rfl,rfl,rfl,rfl,rfl,rfl,rfl,rfl,rfl,rfl,rfl,rfl,rfl,rfl,trivial⟩ (iy.2 ⟨jc,by exact lK,by exact lL,ah jY⟩)
 rintro ⟨bV,aJ,aK,aL,iP,iQ,iR,iT,ed,ek,bW,eu,eB,bX,bY,eF,eG,cu,cz,iU,iV,iW⟩ DK rM
 obtain⟨lM,rO,rP,rQ⟩:=iy.1 rM
 have AU:=aB rO
 have AV:=aB rP
 refine Ic (sr (Kz (vP bV 0) (Lz (vI a.az.aD) lM 0 C4 (Kz (.bool (decide (a.az.aD=6))) (nt ?_)))))
 have rR:(decide (a.az.aD=6))=false:=(dF e6)
 refine jF rR (sk (Ib (Mz rfl (La ([vI a.az.aD,vI a.az.aJ,vI a.az.fI,vI a.az.aK,vI a.az.dz,vI a.az.eH,vU a.az.aP,vU aJ,vU aK,vU a.az.dY,vU aL,vU a.az.aL,vU (nR a.dE a.az.dL 0),vU a.az.cu,vU a.az.xN, .bool a.az.cz, .string ⟨v9 a.az.bU.bF⟩, .string ⟨v9 a.az.bU.bT⟩, .slice a.az.aH.A a.az.aH.ls.length a.az.aH.c, .slice a.az.ai.A a.az.ai.ls.length a.az.ai.c, .slice a.az.ag.A a.az.ag.ls.length a.az.ag.c]) lM 0 N5 N6 ?_))))
 have wG:=lM.pf [5]
 obtain⟨⟨fH,ou,dM⟩,lN⟩:∃ q:kC × Int × aA,eT g (bL.mk a.az.aD a.az.aJ a.az.fI a.az.aK a.az.dz a.az.eH a.az.aP aJ aK a.az.dY aL a.az.aL (nR a.dE a.az.dL 0) a.az.cu a.az.xN a.az.cz a.az.bU (E2 a.az.aH.ls) (E2 (s5 ae.abs a.az.ai.ls)) (E2 a.az.ag.ls))=q:=⟨_,rfl⟩
 obtain⟨DL,rT,iB,rU,AX⟩:=II wG
 refine cl Tryz.call13 (j5 _ _ C g (bL.mk a.az.aD a.az.aJ a.az.fI a.az.aK a.az.dz a.az.eH a.az.aP aJ aK a.az.dY aL a.az.aL (nR a.dE a.az.dL 0) a.az.cu a.az.xN a.az.cz a.az.bU (E2 a.az.aH.ls) (E2 (s5 ae.abs a.az.ai.ls)) (E2 a.az.ag.ls)) a.az.aH.A a.az.aH.ls.length a.az.aH.c a.az.ai.A a.az.ai.ls.length a.az.ai.c a.az.ai.ls a.az.ag.A a.az.ag.ls.length a.az.ag.c fH ou dM rT rfl (iB _ (iM _ (D3 aF)).1) (show a.az.aH.ls.length≤a.az.aH.c∧a.az.aH.ls.length≤9223372036854775807 from by omega) (rfl:s5 ae.abs a.az.ai.ls=s5 ae.abs a.az.ai.ls) f1 (fun w9 h9=>qg (aB (rfl:s5 ae.abs a.az.ai.ls=s5 ae.abs a.az.ai.ls)) ((iB _ (iM _ (D3 aF)).2.2.1) w9 h9)) (show r8 (s5 ae.abs a.az.ai.ls)≤a.az.ai.c∧r8 (s5 ae.abs a.az.ai.ls)≤9223372036854775807 from by omega) (fun x9 h9=>⟨iB _ ((iM _ (D3 aF)).2.2.2.2.1 x9 h9).1,((iM _ (D3 aF)).2.2.2.2.1 x9 h9).2⟩) rfl (iB _ (iM _ (D3 aF)).2.2.2.2.2.1) (show a.az.ag.ls.length≤a.az.ag.c∧a.az.ag.ls.length≤9223372036854775807 from by omega) f9 f5 lN) ?_
 rintro _ DN ⟨lQ,lS,wH,rfl,rV,lT,lU,lV⟩
 have ow:=rU _ _ rV
 have AY:=aB lT
 have AZ:=ow.rowC (i:=0) rfl
 replace lU:dM.aa.ag.ls.length=g.aa.ag.ls.length∧dM.aa.au=g.aa.au∧dM.ay.ls.length+dM.aa.aj.ls.length≤8∧dM.aa.aF.ls.length≤g.aa.aF.ls.length+1:=lU
 replace lV:Mk dM:=lV
 refine Mz rfl (Kz (.agg #[.slice lQ fH.fo.ls.length lS, .bool fH.jl]) (Kz (vI ou) ?_))
 have wI:=ow.pf [4]
 refine dS [.slice lQ fH.fo.ls.length lS, .bool fH.jl] 0 wI T4 ?_
 intro DR wJ
 refine C6 (bN ?_)
 have wK:=wJ.pk [0,5,6,7,3,1,2]
 exact IQ (C,dM,lQ,lS,wH,fH.fo.ls,fH.jl) ⟨rfl,rfl,rfl,rfl,rfl,rfl,rfl,rfl,rfl,rfl,rfl,rfl,rfl,rfl,rfl,rfl,rfl,rfl,trivial⟩ (dX.2 ⟨wK,by exact lT,e6,e6,by first | omega | (dsimp only; omega) | assumption,f5,Eq.trans (if_pos dL) (Eq.trans (ah rQ) (ah lN))⟩)
 refine jF (dF dL) (sr (Kz (.bool (decide (a.iU=1))) (An rfl ?_)))
 by_cases fI:a.iU=1
 refine jT (dT fI) (Ib (Mz rfl ?_))
 have wL:=ib.pf [4]
 obtain⟨⟨ji,dO⟩,lX⟩:∃ q:kC × aA,jk g=q:=⟨_,rfl⟩
 obtain⟨DT,rW,A7,rX,A8⟩:=II wL
 refine cl Tryz.call14 (uR _ _ C g ji dO rW e8 f5 lX) ?_
 rintro _ DU ⟨oz,oC,wP,rfl,rY,lY,l7,l8⟩
 have oD:=rX _ _ rY
 have A9:=aB lY
 have Ba:=oD.rowC (i:=0) rfl
 replace l7:dO.aa.ag.ls.length=g.aa.ag.ls.length∧dO.aa.au=g.aa.au∧dO.ay.ls.length+dO.aa.aj.ls.length≤8∧dO.aa.aF.ls.length≤g.aa.aF.ls.length+0:=l7
 replace l8:Mk dO:=l8
 have wQ:=oD.pf [3]
 refine dS [.slice oz ji.fo.ls.length oC, .bool ji.jl] 0 wQ T4 ?_
 intro DV wR
 refine C6 (bN ?_)
 have wS:=wR.pb [3,1,2]
 exact IQ (C,dO,oz,oC,wP,ji.fo.ls,ji.jl) ⟨rfl,rfl,rfl,rfl,rfl,rfl,rfl,rfl,rfl,rfl,rfl,rfl,rfl,rfl,rfl,rfl,rfl,rfl,trivial⟩ (dX.2 ⟨wS,by exact lY,e6,e6,by first | omega | (dsimp only; omega) | assumption,f5,Eq.trans (if_neg dL) (Eq.trans (if_pos fI) (ah lX))⟩)
 refine jF (dF fI) (sr (Kz (.bool (decide (a.iU=4))) (An rfl ?_)))
 by_cases ic:a.iU=4
 refine jT (dT ic) (sr (Mz rfl ?_))
 have wT:=ib.pf [4]
 obtain⟨r,fJ⟩:∃ q,eQ g=q:=⟨_,rfl⟩
 obtain⟨DW,rZ,Bb,r9,Bc⟩:=II wT
 refine cl W1 (kE _ _ C g r rZ e8 f5 fJ) ?_
 rintro _ DX ⟨fK,cB,fO,cK,fQ,cO,ig,ik,rfl,si,jZ,j3⟩
 have kN:=r9 _ _ si
 have Bd:=aB jZ
 have Be:=aB j3
 have Bf:=kN.rowC (i:=0) rfl
 have Bg:=kN.rowC (i:=1) rfl
 have Bh:=kN.rowC (i:=3) rfl
 obtain⟨Bi,Bj,Bl⟩:=uT f5 f5 fJ
 refine WL.do rfl (Iz Tryz.call8 rfl ?_ (fun _ _ k=>k))
 refine cb Tryz.func8 ?_
 refine sr ?_
 refine dV [vI r.au,vU r.av,vU r.aV,vU r.aL, .slice fK r.ag.ls.length cB, .slice fO r.aj.ls.length cK, .slice fQ r.aF.ls.length cO] 33 kN ?_
 intro wU DY jl
 refine Az rfl (An rfl (Ic (sr (La ([vI r.au,vU r.av,vU r.aV,vU r.aL, .slice fK r.ag.ls.length cB, .slice fO r.aj.ls.length cK, .slice fQ r.aF.ls.length cO]) jl 0 U1 H4 ?_))))
 obtain⟨kP,iC⟩:∃ q,gJ r=q:=⟨_,rfl⟩
 obtain⟨DZ,sj,Bn,su,dI⟩:=Ii jl
 refine cl Tryz.call19 (mV _ _ r fK r.ag.ls.length cB fO r.aj.ls.length cK ig fQ r.aF.ls.length cO ik kP sj rfl (dI _ 1 _ rfl aO) (show r.ag.ls.length≤cB∧r.ag.ls.length≤9223372036854775807 from by omega) jZ rfl (dI _ 2 _ rfl aO) (show r.aj.ls.length≤cK∧r.aj.ls.length≤9223372036854775807 from by omega) (fun x9 h9=>⟨dI _ 3 _ rfl (ax (Q3.2 ⟨x9,h9,b1⟩) aO),aZ (φ:=fun _=>_) jl (i:=3) rfl (ax (Q3.2 ⟨x9,h9,b1⟩) aW)⟩) j3 rfl (dI _ 4 _ rfl aO) (show r.aF.ls.length≤cO∧r.aF.ls.length≤9223372036854775807 from by omega) (fun x9 h9=>⟨dI _ 5 _ rfl (ax (Q3.2 ⟨x9,h9,b1⟩) aO),aZ (φ:=fun _=>_) jl (i:=5) rfl (ax (Q3.2 ⟨x9,h9,b1⟩) aW),(fun y1 k1=>⟨dI _ 5 _ rfl (ax (Q3.2 ⟨x9,h9, .tail _ b1⟩) (ax (Q3.2 ⟨y1,k1,b1⟩) aO)),aZ (φ:=fun _=>_) jl (i:=5) rfl (ax (Q3.2 ⟨x9,h9, .tail _ b1⟩) (ax (Q3.2 ⟨y1,k1,b1⟩) aW))⟩)⟩) e8 iC) ?_
 rintro _ D5 ⟨rfl,sw⟩
 have dP:=su _ _ sw
 refine fw (.bool (decide (¬ (kP=0)))) (IG (e:= !(decide (kP=0))) yk decide_not.symm) (Mz rfl ?_)
 by_cases bI:kP=0
 refine gw (vP wU 1) (dF (Lh bI)) yk (gw (vU r.av) (dF (Lh bI)) (Io rfl (bZ.one D4 (jR.of (dP.cls (i:=0) rfl) rfl))) (gw (.bool (decide (((r.av:Nat):Int)=2147483647))) (dF (Lh bI)) yk (fw (.bool (decide (((r.av:Nat):Int)=2147483647))) (Ih rfl (dF (Lh bI)) rfl) (nt ?_))))
 by_cases kQ:((r.av:Nat):Int)=2147483647
 refine jT (dT kQ) (sr (Az rfl (An rfl (rt (tR (Fin.res (lW rfl rfl rfl) (Mz rfl (Kz (.pointer none) (Kz (vI 1) (Az rfl (An rfl (Ic (Ic ?_)))))))))))))
 have wW:=dP.px [] [0] []
 refine Ib (Mz rfl (Kz (.bool true) (Mz rfl (Sz rfl (Sz rfl (fw (.bool true) (Iw rfl rfl rfl) (nt (jt (sr (An rfl (rt (tR (bR (tR (bR (tR (tR (bR (tR (rs ?_))))))))))))))))))))
 have wX:=wW.pk []
 obtain rfl:_=false:=hr.symm.trans (et (ah aV) (et (ah aX) (et (ip aP) (et (ah bv) (et (ah aD) (et (iN bA) (jm (et (aQ) (et (congrArg (fun q=>fP S q g T U) bC) (et (ip dK) (oF (et (iN dL) (et (iN fI) (et (ip ic) (et (ah fJ) (et (ah iC) (et (ip bI) (ip kQ))))))))))))))))))
 exact⟨rfl,wX⟩
 refine jF (dF kQ) (sk (sr (La ([vI r.au,vU r.av,vU r.aV,vU r.aL, .slice fK r.ag.ls.length cB, .slice fO r.aj.ls.length cK, .slice fQ r.aF.ls.length cO]) dP 0 U1 H4 ?_)))
 obtain⟨G,l9⟩:∃ q,gW r=q:=⟨_,rfl⟩
 obtain⟨D6,sD,Bo,sF,dJ⟩:=Ii dP
 refine cl Tryz.call20 (nN _ _ r fK r.ag.ls.length cB fO r.aj.ls.length cK ig fQ r.aF.ls.length cO ik G sD rfl (dJ _ 1 _ rfl aO) (show r.ag.ls.length≤cB∧r.ag.ls.length≤9223372036854775807 from by omega) jZ rfl (dJ _ 2 _ rfl aO) (show r.aj.ls.length≤cK∧r.aj.ls.length≤9223372036854775807 from by omega) (fun x9 h9=>⟨dJ _ 3 _ rfl (ax (Q3.2 ⟨x9,h9,b1⟩) aO),aZ (φ:=fun _=>_) dP (i:=3) rfl (ax (Q3.2 ⟨x9,h9,b1⟩) aW)⟩) j3 rfl (dJ _ 4 _ rfl aO) (show r.aF.ls.length≤cO∧r.aF.ls.length≤9223372036854775807 from by omega) (fun x9 h9=>⟨dJ _ 5 _ rfl (ax (Q3.2 ⟨x9,h9,b1⟩) aO),aZ (φ:=fun _=>_) dP (i:=5) rfl (ax (Q3.2 ⟨x9,h9,b1⟩) aW),(fun y1 k1=>⟨dJ _ 5 _ rfl (ax (Q3.2 ⟨x9,h9, .tail _ b1⟩) (ax (Q3.2 ⟨y1,k1,b1⟩) aO)),aZ (φ:=fun _=>_) dP (i:=5) rfl (ax (Q3.2 ⟨x9,h9, .tail _ b1⟩) (ax (Q3.2 ⟨y1,k1,b1⟩) aW))⟩)⟩) e8 (by first | assumption | exact wM f5 | exact fun _ h9=>absurd h9 y6) (by first | assumption | exact wN f5 | exact fun _ h9=>absurd h9 y6) l9) ?_
 rintro _ D7 ⟨oG,oH,oI,oJ,oK,oL,D8,D9,rfl,sG,ma,mf⟩
 have kR:=sF _ _ sG
 have Bp:=aB ma
 have Bq:=aB mf
 have Br:=kR.rowC (i:=0) rfl
 have Bt:=kR.rowC (i:=1) rfl
 have Bu:=kR.rowC (i:=3) rfl
 refine Kz (.agg #[vI G.au,vU G.av,vU G.aV,vU G.aL, .slice oG G.ag.ls.length oH, .slice oI G.aj.ls.length oJ, .slice oK G.aF.ls.length oL, .int .u64 0, .slice none 0 0, .bool false, .int .u64 0,vI 0, .slice none 0 0, .bool false, .int .u64 0,vI 0, .slice none 0 0, .bool false, .int .u64 0,vI 0, .slice none 0 0, .bool false, .int .u64 0,vI 0, .slice none 0 0, .bool false, .int .u64 0,vI 0, .slice none 0 0, .int .u64 0, .int .u64 0, .int .u64 0, .int .u64 0, .int .u64 0, .pointer none]) ?_
 refine dV [vI G.au,vU G.av,vU G.aV,vU G.aL, .slice oG G.ag.ls.length oH, .slice oI G.aj.ls.length oJ, .slice oK G.aF.ls.length oL, .int .u64 0, .slice none 0 0, .bool false, .int .u64 0,vI 0, .slice none 0 0, .bool false, .int .u64 0,vI 0, .slice none 0 0, .bool false, .int .u64 0,vI 0, .slice none 0 0, .bool false, .int .u64 0,vI 0, .slice none 0 0, .bool false, .int .u64 0,vI 0, .slice none 0 0, .int .u64 0, .int .u64 0, .int .u64 0, .int .u64 0, .int .u64 0, .pointer none] 86 kR ?_
 intro Z Ea wY
 refine An rfl (Ic ?_)
 have wZ:=wY.px [] [6] []
 have xc:=wZ.pf [11]
 obtain⟨oM,oO,oP,oQ,oU,oV,oW,oZ,o5,o6,o7,o8,o9,pg,pq,pu,pz,pE,pF,pG,pI,pJ,pK,pM,pO,pQ,sH,sI,sJ,sK,sM,sN,sO,sQ,Bv,pR⟩:=iZ xc
 refine Ib (Mz rfl (Kz (vP Z 0) (Kz (vP Z 0) (Kz (vP Z 1) (Lz (vU G.av) pR 18 D4 (fw (.int .u64 ((D0 (D1.wrap (((G.av:Nat):Int)+1)):Nat):Int)) (Ie (e:=D1.wrap (((G.av:Nat):Int)+1)) yk (fD _)) (Kz (vP Z 0) (Kz (vP Z 0) (Kz (vP Z 1) ?_)))))))))
 have xe:=pR.pf [18]
 refine dS [.int .u64 ((D0 (D1.wrap (((G.av:Nat):Int)+1)):Nat):Int)] 1 xe N7 ?_
 intro Eb pU
 refine ns (Mz rfl (Mz rfl (Kz (vP Z 0) (Kz (vP Z 0) (Kz (vP Z 1) (Lz (.int .u64 ((D0 (D1.wrap (((G.av:Nat):Int)+1)):Nat):Int)) pU 0 D4 ?_))))))
 have Bw:eU (D0 (D1.wrap (((G.av:Nat):Int)+1))) 32≤18446744073709551615:=nZ _ _
 refine fw (.int .u64 ((eU (D0 (D1.wrap (((G.av:Nat):Int)+1))) 32:Nat):Int)) (Ie (Jv (m:=32) rfl rfl) (fD _)) (Kz (vP Z 0) (Kz (vP Z 0) (Kz (vP Z 2) ?_)))
 refine dS [.int .u64 ((eU (D0 (D1.wrap (((G.av:Nat):Int)+1))) 32:Nat):Int)] 2 pU N7 ?_
 intro ag xg
 refine ns (Mz rfl (Az rfl (An rfl (rt (Fin.res (lW rfl rfl rfl) ?_)))))
 have xh:Own w D ag (sepL (q3 bB.own ([]))::_):=xg.sepNil
 have xk:Own w D ag (row none 0 0 (q3 bB.cells ([])) 107 9::_):=xh.free (eZ 107 9)
 have xm:Own w D ag (sepL (q3 ae.own ([]))::_):=xk.sepNil
 have xn:Own w D ag (row none 0 0 (q3 ae.cells ([])) 149 3::_):=xm.free (eZ 149 3)
 have xq:Own w D ag (sepL (q3 ae.own ([]))::_):=xn.sepNil
 have xu:Own w D ag (row none 0 0 (q3 ae.cells ([])) 149 3::_):=xq.free (eZ 149 3)
 have xw:Own w D ag (sepL (q3 ae.own ([]))::_):=xu.sepNil
 have xx:Own w D ag (row none 0 0 (q3 ae.cells ([])) 149 3::_):=xw.free (eZ 149 3)
 have xy:Own w D ag (sepL (q3 ae.own ([]))::_):=xx.sepNil
 have xz:Own w D ag (row none 0 0 (q3 ae.cells ([])) 149 3::_):=xy.free (eZ 149 3)
 have xA:Own w D ag (sepL (q3 ae.own ([]))::_):=xz.sepNil
 have xB:Own w D ag (row none 0 0 (q3 ae.cells ([])) 149 3::_):=xA.free (eZ 149 3)
 have xC:=xB.pf [12,31,32,33,34,35,10,11]
 have xD:Own w D ag (iG Z (aA.mk (cZ.mk G.au (D0 (D1.wrap (((G.av:Nat):Int)+1))) (eU (D0 (D1.wrap (((G.av:Nat):Int)+1))) 32) G.aL (E2 G.ag.ls) (E2 G.aj.ls) (E2 G.aF.ls)) 0 (E2 ([])) (df.mk false 0 0 (E2 ([]))) (df.mk false 0 0 (E2 ([]))) (df.mk false 0 0 (E2 ([]))) (df.mk false 0 0 (E2 ([]))) (df.mk false 0 0 (E2 ([]))) 0 0 0 0 0)::_):=fe ma mf rfl rfl rfl rfl rfl rfl xC
 obtain⟨ai,mg⟩:∃ q,(aA.mk (cZ.mk G.au (D0 (D1.wrap (((G.av:Nat):Int)+1))) (eU (D0 (D1.wrap (((G.av:Nat):Int)+1))) 32) G.aL (E2 G.ag.ls) (E2 G.aj.ls) (E2 G.aF.ls)) 0 (E2 ([])) (df.mk false 0 0 (E2 ([]))) (df.mk false 0 0 (E2 ([]))) (df.mk false 0 0 (E2 ([]))) (df.mk false 0 0 (E2 ([]))) (df.mk false 0 0 (E2 ([]))) 0 0 0 0 0)=q:=⟨_,rfl⟩
 have xE:Own w D ag [iG Z ai,mK C g oM g.aa.ag.ls.length oO oP oQ oV oW o5 o6 o8 o9 pq pu pE pF pI pJ pM pO,row oM g.aa.ag.ls.length oO (q3 aY.cells g.aa.ag.ls) 89 2,row oP g.aa.aj.ls.length oQ (q3 aC.cells oU) 60 5,sepL (q3 aC.own oU),row oV g.aa.aF.ls.length oW (q3 aU.cells oZ) 56 4,sepL (q3 aU.own oZ),row o5 g.ay.ls.length o6 (q3 bB.cells o7) 107 9,sepL (q3 bB.own o7),row o8 g.bK.af.ls.length o9 (q3 ae.cells pg) 149 3,sepL (q3 ae.own pg),row pq g.bA.af.ls.length pu (q3 ae.cells pz) 149 3,sepL (q3 ae.own pz),row pE g.bz.af.ls.length pF (q3 ae.cells pG) 149 3,sepL (q3 ae.own pG),row pI g.bv.af.ls.length pJ (q3 ae.cells pK) 149 3,sepL (q3 ae.own pK),row pM g.bq.af.ls.length pO (q3 ae.cells pQ) 149 3,sepL (q3 ae.own pQ),row fK r.ag.ls.length cB (q3 aY.cells r.ag.ls) 89 2,row fO r.aj.ls.length cK (q3 aC.cells ig) 60 5,sepL (q3 aC.own ig),row fQ r.aF.ls.length cO (q3 aU.cells ik) 56 4,sepL (q3 aU.own ik),blk F [.slice none 0 0, .bool false] 47,blk E (fM.cells a) 44,l5 P kU Value.bool T,l5 Q kU eX.val U]:=by rw [← mg]; exact xD
 have Bz:Mk ai:=En f5 f5 f5 f5
 have BA:ai.aa.ag.ls.length≤1000∧ai.aa.au≤4∧ai.ay.ls.length+ai.aa.aj.ls.length≤8∧ai.aa.aF.ls.length≤g.aa.aF.ls.length+1:=CR f5 f5 f5 f5
 refine Mz rfl (Kz (vP Z 0) (Kz (vI 0) (Az rfl (An rfl (Ic (sr (Mz rfl (Kz (.bool false) (Mz rfl (gw (vI 0) rfl (Iq rfl) (Gz (.bool false) rfl (fw (.bool false) (Ih rfl rfl rfl) (nt (jf (sk (Ib (Mz rfl (Az rfl (C6 (bN ?_))))))))))))))))))))
 have xG:=xE.pb [0,19,20,21,22,23,24,25,26,27]
 have xH:=fe sH sI sJ sK sM sN sO sQ xG
 have xI:Own w D ag [sepL (q3 bf.own ([])),iG C g,iG Z ai,row fK r.ag.ls.length cB (q3 aY.cells r.ag.ls) 89 2,row fO r.aj.ls.length cK (q3 aC.cells ig) 60 5,sepL (q3 aC.own ig),row fQ r.aF.ls.length cO (q3 aU.cells ik) 56 4,sepL (q3 aU.own ik),blk F [.slice none 0 0, .bool false] 47,blk E (fM.cells a) 44,l5 P kU Value.bool T,l5 Q kU eX.val U]:=xH.sepNil
 have xJ:Own w D ag (row none 0 0 (q3 bf.cells ([])) 42 21::_):=xI.free (eZ 42 21)
 have xK:=xJ.pk [9,10,11,12,3,0,1]
 exact IQ (Z,ai,none,0, [], [],false) ⟨rfl,rfl,rfl,rfl,rfl,rfl,rfl,rfl,rfl,rfl,rfl,rfl,rfl,rfl,rfl,rfl,rfl,rfl,trivial⟩ (dX.2 ⟨xK,(show s5 bf.abs ([])=([])∧0≤r8 ([])∧0≤9223372036854775807∧(ai.aa.ag.ls.length≤1000∧ai.aa.au≤4∧ai.ay.ls.length+ai.aa.aj.ls.length≤8∧ai.aa.aF.ls.length≤g.aa.aF.ls.length+1)∧Mk ai∧(if a.iU=0 then bnd (bnd (eQ g) fun X=>(ja a.dE a.az.aD 1 X.av a.az.av,lZ a.dE a.az.aN X.av,ja a.dE a.az.aD 9 X.aV a.az.aV)) fun sJrbbtbbfLstJjtJ=>bnd (eT g (bL.mk a.az.aD a.az.aJ a.az.fI a.az.aK a.az.dz a.az.eH a.az.aP sJrbbtbbfLstJjtJ.1 sJrbbtbbfLstJjtJ.2.1 a.az.dY sJrbbtbbfLstJjtJ.2.2 a.az.aL (nR a.dE a.az.dL 0) a.az.cu a.az.xN a.az.cz a.az.bU (E2 a.az.aH.ls) (E2 (s5 ae.abs a.az.ai.ls)) (E2 a.az.ag.ls))) fun bF=>B9 (bF.2.2,bF.1.fo.ls) else if a.iU=1 then bnd (jk g) fun bG=>B9 (bG.2,bG.1.fo.ls) else if a.iU=4 then bnd (eQ g) fun au=>bnd (gJ au) fun dY=>if dY=0 then if((au.av:Nat):Int)=2147483647 then C1 (false) else bnd (gW au) fun J=>bnd ((aA.mk (cZ.mk J.au (D0 (D1.wrap (((J.av:Nat):Int)+1))) (eU (D0 (D1.wrap (((J.av:Nat):Int)+1))) 32) J.aL (E2 J.ag.ls) (E2 J.aj.ls) (E2 J.aF.ls)) 0 (E2 ([])) (df.mk false 0 0 (E2 ([]))) (df.mk false 0 0 (E2 ([]))) (df.mk false 0 0 (E2 ([]))) (df.mk false 0 0 (E2 ([]))) (df.mk false 0 0 (E2 ([]))) 0 0 0 0 0)) fun dZ=>B9 (dZ, []) else C1 (false) else B9 (g, []))=B9 (ai,([])) from ⟨by exact rfl,e6,e6,by first | omega | (dsimp only; omega) | assumption,f5,Eq.trans (if_neg dL) (Eq.trans (if_neg fI) (Eq.trans (if_pos ic) (Eq.trans (ah fJ) (Eq.trans (ah iC) (Eq.trans (if_pos bI) (Eq.trans (if_neg kQ) (Eq.trans (ah l9) (ah mg))))))))⟩)⟩)
 refine Sz (dT bI) (Sz (dT bI) (Sz (dT bI) (fw (.bool true) (Iw rfl (dT bI) rfl) (nt (jt (sr (Az rfl (An rfl (rt (tR (Fin.res (lW rfl rfl rfl) (Mz rfl (Kz (.pointer none) (Kz (vI 1) (Az rfl (An rfl (Ic (Ic ?_))))))))))))))))))
 have xL:=dP.px [] [0] []
 refine Ib (Mz rfl (Kz (.bool true) (Mz rfl (Sz rfl (Sz rfl (fw (.bool true) (Iw rfl rfl rfl) (nt (jt (sr (An rfl (rt (tR (bR (tR (bR (tR (tR (bR (tR (rs ?_))))))))))))))))))))
 have xM:=xL.pk []
 obtain rfl:_=false:=hr.symm.trans (et (ah aV) (et (ah aX) (et (ip aP) (et (ah bv) (et (ah aD) (et (iN bA) (jm (et (aQ) (et (congrArg (fun q=>fP S q g T U) bC) (et (ip dK) (oF (et (iN dL) (et (iN fI) (et (ip ic) (et (ah fJ) (et (ah iC) (iN bI)))))))))))))))))
 exact⟨rfl,xM⟩
 refine jF (dF ic) (IE (bN ?_))
 have xO:Own w D mR (sepL (q3 bf.own ([]))::_):=ib.sepNil
 have xP:Own w D mR (row none 0 0 (q3 bf.cells ([])) 42 21::_):=xO.free (eZ 42 21)
 have xQ:=xP.pb [0,1]
 exact IQ (C,g,none,0, [], [],false) ⟨rfl,rfl,rfl,rfl,rfl,rfl,rfl,rfl,rfl,rfl,rfl,rfl,rfl,rfl,rfl,rfl,rfl,rfl,trivial⟩ (dX.2 ⟨xQ,(show s5 bf.abs ([])=([])∧0≤r8 ([])∧0≤9223372036854775807∧(g.aa.ag.ls.length≤1000∧g.aa.au≤4∧g.ay.ls.length+g.aa.aj.ls.length≤8∧g.aa.aF.ls.length≤g.aa.aF.ls.length+1)∧Mk g∧(if a.iU=0 then bnd (bnd (eQ g) fun X=>(ja a.dE a.az.aD 1 X.av a.az.av,lZ a.dE a.az.aN X.av,ja a.dE a.az.aD 9 X.aV a.az.aV)) fun sJrbbtbbfLstJjtJ=>bnd (eT g (bL.mk a.az.aD a.az.aJ a.az.fI a.az.aK a.az.dz a.az.eH a.az.aP sJrbbtbbfLstJjtJ.1 sJrbbtbbfLstJjtJ.2.1 a.az.dY sJrbbtbbfLstJjtJ.2.2 a.az.aL (nR a.dE a.az.dL 0) a.az.cu a.az.xN a.az.cz a.az.bU (E2 a.az.aH.ls) (E2 (s5 ae.abs a.az.ai.ls)) (E2 a.az.ag.ls))) fun bF=>B9 (bF.2.2,bF.1.fo.ls) else if a.iU=1 then bnd (jk g) fun bG=>B9 (bG.2,bG.1.fo.ls) else if a.iU=4 then bnd (eQ g) fun au=>bnd (gJ au) fun dY=>if dY=0 then if((au.av:Nat):Int)=2147483647 then C1 (false) else bnd (gW au) fun J=>bnd ((aA.mk (cZ.mk J.au (D0 (D1.wrap (((J.av:Nat):Int)+1))) (eU (D0 (D1.wrap (((J.av:Nat):Int)+1))) 32) J.aL (E2 J.ag.ls) (E2 J.aj.ls) (E2 J.aF.ls)) 0 (E2 ([])) (df.mk false 0 0 (E2 ([]))) (df.mk false 0 0 (E2 ([]))) (df.mk false 0 0 (E2 ([]))) (df.mk false 0 0 (E2 ([]))) (df.mk false 0 0 (E2 ([]))) 0 0 0 0 0)) fun dZ=>B9 (dZ, []) else C1 (false) else B9 (g, []))=B9 (g,([])) from ⟨by exact rfl,e6,e6,by first | omega | (dsimp only; omega) | assumption,f5,Eq.trans (if_neg dL) (Eq.trans (if_neg fI) (if_neg ic))⟩)⟩)
 rintro ⟨B,h,j,u,L,b,aH⟩ Ec sS
 obtain⟨pV,j4,BC,BD,BF,BG,fT⟩:=dX.1 sS
 have BH:=aB j4
 refine Ic (sr (Kz (vP F 0) (Lz (.slice j b.length u) pV 0 Tryz.isAgg45 (Kz (vJ b.length) (Mn rfl (bo ?_))))))
 have xR:=pV.pf []
 obtain⟨xS,bJ⟩:=rz fun (s:Nat) M I w'=>Own w D w' [blk F [.slice j b.length u, .bool aH] 47,blk E (fM.cells a) 44,l5 P kU Value.bool M,l5 Q kU eX.val I,iG B h,row j b.length u (q3 bf.cells L) 42 21,sepL (q3 bf.own L)]∧s≤b.length∧eY h b b T U=eY h b (r3 s b) M I
 refine C3 (fun i:Nat × (List (Nat × Bool)) × (List (Nat × eX))=> [(2, .bool false),(95,vJ i.1),(94,vJ b.length),(93, .slice j b.length u),(92,vP F 0),(4,vP B 0),(56, .bool (decide (a.iU=0))),(57, .bool (decide (a.iU=0))),(55,vI a.iU),(54,vP E 0),(10,vP F 0),(53, .agg #[.slice none 0 0, .bool false]),(9,vP E 0),(52, .agg (fM.cells a).toArray),(51, .pointer (some ⟨ab A0,ao A0+p *25,none⟩)),(50, .bool (decide (((p:Nat):Int) < ((l0.length:Nat):Int)))),(49,vJ p),(48,vJ l0.length),(47, .slice A0 l0.length c0),(7, .map (some P)),(6, .map (some Q)),(3, .bool S)]) xS (fun i=>b.length - i.1) (0,T,U) ⟨rfl,rfl,rfl,rfl,rfl,rfl,rfl,rfl,rfl,rfl,rfl,rfl,rfl,rfl,rfl,rfl,rfl,rfl,rfl,rfl,rfl,rfl,trivial⟩ (bJ.2 ⟨xR,e6,rfl⟩) ?_
 rintro ⟨s,M,I⟩ Ed sU
 obtain⟨dQ,BI,aG⟩:=bJ.1 sU
 refine sr (Kz (.bool (decide (((s:Nat):Int) < ((b.length:Nat):Int)))) (nt (Ic ?_)))
 by_cases pW:((s:Nat):Int) < ((b.length:Nat):Int)
 obtain⟨f,fU⟩:=dN (ls:=L) (i:=s) bf.len f4 (dQ.rds (i:=5) rfl) e9
 have sV:=fF j4 fU
 have BJ:f.aH.ls.length≤f.aH.c∧f.aH.ls.length≤9223372036854775807:=aZ dQ (i:=6) rfl (φ:=fun _=>_) (ax (Q3.2 ⟨f,D3 fU,b1⟩) aW)
 have BK:f.ai.ls.length≤f.ai.c∧f.ai.ls.length≤9223372036854775807:=aZ dQ (i:=6) rfl (φ:=fun _=>_) (ax (Q3.2 ⟨f,D3 fU, .tail _ b1⟩) aW)
 have BL:f.ag.ls.length≤f.ag.c∧f.ag.ls.length≤9223372036854775807:=aZ dQ (i:=6) rfl (φ:=fun _=>_) (ax (Q3.2 ⟨f,D3 fU, .tail _ b2⟩) aW)
 have aR:=drop_at sV
 refine jT (dT pW) (sk (Ic (bo (sr (fw (.pointer (some ⟨ab j,ao j+s *21,none⟩)) (Ij (uu) rfl rfl ((dQ.rds (i:=5) rfl).addr (i:=s) e6) e6) (fw (.agg (bf.cells f).toArray) (Io rfl (Iy (cs:=(bf.cells f)) N5 N6 ((dQ.rds (i:=5) rfl).elem bf.len fU f4))) ?_))))))
 refine dV (gU 0 0 0 0 0 0 0 0 0 0 0 0 0 0 0 false ([]) ([]) none 0 0 none 0 0 none 0 0) 42 dQ ?_
 intro aa Ee xV
 refine dS (bf.cells f) 0 xV N6 ?_
 intro Ef kS
 refine nt (Ic (sr (Kz (vP aa 0) (Lz (vI f.aD) kS 0 C4 (Kz (.bool (decide (f.aD=3))) (nt ?_))))))
 obtain⟨xW,j6⟩:=nQ fun V w'=>Own w D w' [blk aa (bf.cells f) 42,blk F [.slice j b.length u, .bool aH] 47,blk E (fM.cells a) 44,l5 P kU Value.bool V,l5 Q kU eX.val I,iG B h,row j b.length u (q3 bf.cells L) 42 21,sepL (q3 bf.own L)]∧(if f.aD=3 then(kL M f.aN true) else M)=V
 refine IZ (fun i:(List (Nat × Bool))=> [(101, .bool (decide (f.aD=3))),(100,vI f.aD),(99,vP aa 0),(15,vP aa 0),(98, .agg (bf.cells f).toArray),(97, .pointer (some ⟨ab j,ao j+s *21,none⟩)),(96, .bool (decide (((s:Nat):Int) < ((b.length:Nat):Int)))),(2, .bool false),(95,vJ s),(94,vJ b.length),(93, .slice j b.length u),(92,vP F 0),(4,vP B 0),(56, .bool (decide (a.iU=0))),(57, .bool (decide (a.iU=0))),(55,vI a.iU),(54,vP E 0),(10,vP F 0),(53, .agg #[.slice none 0 0, .bool false]),(9,vP E 0),(52, .agg (fM.cells a).toArray),(51, .pointer (some ⟨ab A0,ao A0+p *25,none⟩)),(50, .bool (decide (((p:Nat):Int) < ((l0.length:Nat):Int)))),(49,vJ p),(48,vJ l0.length),(47, .slice A0 l0.length c0),(7, .map (some P)),(6, .map (some Q)),(3, .bool S)]) xW ?_ ?_
 by_cases kT:f.aD=3
 refine jT (dT kT) (Ib (Mz rfl (Kz (vP aa 8) (Lz (vU f.aN) kS 0 D4 ?_))))
 have xX:=kS.pf [3]
 refine Jb (Jf (k:=f.aN) (v:=true) xX (uf B8) W3 rfl rfl rfl ?_)
 intro Eg xY
 refine C6 ?_
 have xZ:=xY.pf [1,2,3]
 exact IQ (kL M f.aN true) ⟨rfl,rfl,rfl,rfl,rfl,rfl,rfl,rfl,rfl,rfl,rfl,rfl,rfl,rfl,rfl,rfl,rfl,rfl,rfl,rfl,rfl,rfl,rfl,rfl,rfl,rfl,rfl,rfl,rfl,trivial⟩ (j6.2 ⟨xZ,ip kT⟩)
 refine jF (dF kT) (IE ?_)
 have x8:=kS.pf []
 exact IQ M ⟨rfl,rfl,rfl,rfl,rfl,rfl,rfl,rfl,rfl,rfl,rfl,rfl,rfl,rfl,rfl,rfl,rfl,rfl,rfl,rfl,rfl,rfl,rfl,rfl,rfl,rfl,rfl,rfl,rfl,trivial⟩ (j6.2 ⟨x8,iN kT⟩)
 rintro V Eh sW
 obtain⟨dR,aS⟩:=j6.1 sW
 refine Ic (sr (Kz (vP aa 0) (Lz (vI f.aD) dR 0 C4 (fw (.bool (decide (¬ (f.aD=5)))) (IG (e:= !(decide (f.aD=5))) yk decide_not.symm) (Mz rfl ?_)))))
 by_cases W:f.aD=5
 refine gw (.map (some P)) (dF (Lh W)) (Iq rfl) (gw (vP aa 8) (dF (Lh W)) yk (gw (vU f.aN) (dF (Lh W)) (Io rfl (bZ.one D4 (jR.of (dR.cls (i:=0) rfl) rfl))) ?_))
 obtain⟨kV,aT⟩:∃ q,nU V f.aN=q:=⟨_,rfl⟩
 refine gw (.bool (Option.getD kV false)) (dF (Lh W)) (JS (k:=f.aN) (d0:=false) (i:=3) dR rfl (uf B8) W3 (fun _=>by kernel_rfl) rfl rfl aT) (gw (.bool (!(Option.getD kV false))) (dF (Lh W)) yk (fw (.bool (!(Option.getD kV false))) (Ih rfl (dF (Lh W)) rfl) (nt ?_)))
 rcases Li (Option.getD kV false) with bK | bK
 refine jF (cn bK) (sk (sr (Mz rfl (Kz (vP aa 8) (Lz (vU f.aN) dR 0 D4 ?_)))))
 obtain⟨bP,bM⟩:∃ q,nU I f.aN=q:=⟨_,rfl⟩
 refine fw (.agg #[.bool ((Option.getD bP eX.zero).bD), .bool ((Option.getD bP eX.zero).oN)]) (JS (k:=f.aN) (d0:=eX.zero) (i:=4) dR rfl (uf B8) W4 (fun _=>by kernel_rfl) rfl rfl bM) ?_
 refine dV [.bool false, .bool false] 54 dR ?_
 intro af Ei yc
 refine dS [.bool ((Option.getD bP eX.zero).bD), .bool ((Option.getD bP eX.zero).oN)] 0 yc W5 ?_
 intro Ej kW
 refine ns (Kz (vP af 0) (Lz (.bool ((Option.getD bP eX.zero).bD)) kW 0 N3 (Mz rfl ?_)))
 rcases Li ((Option.getD bP eX.zero).bD) with av | av
 refine Sz av (Sz av (fw (.bool true) (Iw rfl av rfl) (Kz (vP af 0) ?_)))
 refine dS [.bool true] 0 kW W6 ?_
 intro El kX
 refine ns (Kz (vP af 1) (Lz (.bool ((Option.getD bP eX.zero).oN)) kX 0 N3 (Mz rfl ?_)))
 rcases Li ((Option.getD bP eX.zero).oN) with bg | bg
 refine Sz bg (Sz bg (Sz bg (fw (.bool true) (Iw rfl bg rfl) (Kz (vP af 1) ?_))))
 refine dS [.bool true] 1 kX W6 ?_
 intro Em mh
 refine nt (Ic (sr (Kz (vP af 0) (Lz (.bool true) mh 0 N3 (Mz rfl (Gz (vP af 1) rfl (Gl (.bool true) rfl mh 0 N3 (fw (.bool true) (Iw rfl rfl rfl) (nt (jt (sr (An rfl (rt (tR (bR (tR (tR (bR (tR (bR (tR (tR (bR (tR (rs ?_)))))))))))))))))))))))))
 have yf:=mh.pk []
 obtain rfl:_=false:=hr.symm.trans (et (ah aV) (et (ah aX) (et (ip aP) (et (ah bv) (et (ah aD) (et (iN bA) (jm (et (aQ) (et (congrArg (fun q=>fP S q g T U) bC) (et (ip dK) (et (nY fT) (oF (et (aG) (et (congrArg (fun q=>eY h b q M I) aR) (et (ah aS) (et (ip W) (et (ah aT) (et (ip bK) (et (ah bM) (et (ip av) (ip bg)))))))))))))))))))))
 exact⟨rfl,yf⟩
 refine Gz (vP aa 15) bg (Gl (.bool f.cz) bg kX 1 N3 (Gz (.bool (!f.cz)) bg (fw (.bool (!f.cz)) (Ih rfl bg rfl) (Kz (vP af 1) ?_))))
 refine dS [.bool (!f.cz)] 1 kX W6 ?_
 intro Eo il
 refine nt (Ic (sr (Kz (vP af 0) (Lz (.bool true) il 0 N3 (Mz rfl (Gz (vP af 1) rfl (Gl (.bool (!f.cz)) rfl il 0 N3 (fw (.bool (!f.cz)) (Iw rfl rfl rfl) (nt ?_)))))))))
 rcases Li (f.cz) with jo | jo
 refine jF (cn jo) (sk (Ib (Mz rfl (Kz (vP aa 8) (Lz (vU f.aN) il 1 D4 (La ([.bool true, .bool (!f.cz)]) il 0 W7 W5 ?_))))))
 have yg:=il.pf [5]
 refine Jb (Jf (k:=f.aN) (v:=(eX.mk true (!f.cz))) yg (uf B8) W4 rfl rfl rfl ?_)
 intro Ep yh
 refine C6 (bN (Ig (Ib (fw (vJ (s+1)) (Ie (e:=C5.wrap (((s:Nat):Int)+1)) yk f0) (Mz rfl (C6 ?_))))))
 have yj:=yh.px [3,4,5] [1,2] []
 exact Ir (s+1,V,(kL I f.aN (eX.mk true (!f.cz)))) ⟨rfl,rfl,rfl,rfl,rfl,rfl,rfl,rfl,rfl,rfl,rfl,rfl,rfl,rfl,rfl,rfl,rfl,rfl,rfl,rfl,rfl,rfl,trivial⟩ (bJ.2 ⟨yj,e6,et (aG) (et (congrArg (fun q=>eY h b q M I) aR) (et (ah aS) (et (ip W) (et (ah aT) (et (ip bK) (et (ah bM) (et (ip av) (et (gm bg) (ip jo)))))))))⟩) (by show b.length - (s+1) < b.length - s; omega)
 refine jT (cn jo) (sr (An rfl (rt (tR (bR (tR (tR (bR (tR (bR (tR (tR (bR (tR (rs ?_)))))))))))))))
 have yl:=il.pk []
 obtain rfl:_=false:=hr.symm.trans (et (ah aV) (et (ah aX) (et (ip aP) (et (ah bv) (et (ah aD) (et (iN bA) (jm (et (aQ) (et (congrArg (fun q=>fP S q g T U) bC) (et (ip dK) (et (nY fT) (oF (et (aG) (et (congrArg (fun q=>eY h b q M I) aR) (et (ah aS) (et (ip W) (et (ah aT) (et (ip bK) (et (ah bM) (et (ip av) (et (gm bg) (gm jo))))))))))))))))))))))
 exact⟨rfl,yl⟩
 refine Gz (vP aa 15) av (Gl (.bool f.cz) av kW 1 N3 (fw (.bool f.cz) (Ih rfl av rfl) (Kz (vP af 0) ?_)))
 refine dS [.bool f.cz] 0 kW W6 ?_
 intro Er kY
 refine ns (Kz (vP af 1) (Lz (.bool ((Option.getD bP eX.zero).oN)) kY 0 N3 (Mz rfl ?_)))
 rcases Li ((Option.getD bP eX.zero).oN) with aM | aM
 refine Sz aM (Sz aM (Sz aM (fw (.bool true) (Iw rfl aM rfl) (Kz (vP af 1) ?_))))
 refine dS [.bool true] 1 kY W6 ?_
 intro Es iq
 refine nt (Ic (sr (Kz (vP af 0) (Lz (.bool f.cz) iq 0 N3 (Mz rfl ?_)))))
 rcases Li (f.cz) with dh | dh
 refine Gz (vP af 1) dh (Gl (.bool true) dh iq 0 N3 (fw (.bool true) (Iw rfl dh rfl) (nt (jt (sr (An rfl (rt (tR (bR (tR (tR (bR (tR (bR (tR (tR (bR (tR (rs ?_)))))))))))))))))))
 have ym:=iq.pk []
 obtain rfl:_=false:=hr.symm.trans (et (ah aV) (et (ah aX) (et (ip aP) (et (ah bv) (et (ah aD) (et (iN bA) (jm (et (aQ) (et (congrArg (fun q=>fP S q g T U) bC) (et (ip dK) (et (nY fT) (oF (et (aG) (et (congrArg (fun q=>eY h b q M I) aR) (et (ah aS) (et (ip W) (et (ah aT) (et (ip bK) (et (ah bM) (et (gm av) (et (ip aM) (ip dh))))))))))))))))))))))
 exact⟨rfl,ym⟩
 refine Sz dh (Sz dh (fw (.bool false) (Ih rfl dh rfl) (nt (jf (sk (Ib (Mz rfl (Kz (vP aa 8) (Lz (vU f.aN) iq 1 D4 (La ([.bool f.cz, .bool true]) iq 0 W7 W5 ?_))))))))))
 have yn:=iq.pf [5]
 refine Jb (Jf (k:=f.aN) (v:=(eX.mk f.cz true)) yn (uf B8) W4 rfl rfl rfl ?_)
 intro Eu yo
 refine C6 (bN (Ig (Ib (fw (vJ (s+1)) (Ie (e:=C5.wrap (((s:Nat):Int)+1)) yk f0) (Mz rfl (C6 ?_))))))
 have yt:=yo.px [3,4,5] [1,2] []
 exact Ir (s+1,V,(kL I f.aN (eX.mk f.cz true))) ⟨rfl,rfl,rfl,rfl,rfl,rfl,rfl,rfl,rfl,rfl,rfl,rfl,rfl,rfl,rfl,rfl,rfl,rfl,rfl,rfl,rfl,rfl,trivial⟩ (bJ.2 ⟨yt,e6,et (aG) (et (congrArg (fun q=>eY h b q M I) aR) (et (ah aS) (et (ip W) (et (ah aT) (et (ip bK) (et (ah bM) (et (gm av) (et (ip aM) (gm dh)))))))))⟩) (by show b.length - (s+1) < b.length - s; omega)
 refine Gz (vP aa 15) aM (Gl (.bool f.cz) aM kY 1 N3 (Gz (.bool (!f.cz)) aM (fw (.bool (!f.cz)) (Ih rfl aM rfl) (Kz (vP af 1) ?_))))
 refine dS [.bool (!f.cz)] 1 kY W6 ?_
 intro Ev dU
 refine nt (Ic (sr (Kz (vP af 0) (Lz (.bool f.cz) dU 0 N3 (Mz rfl ?_)))))
 rcases Li (f.cz) with bS | bS
 refine Gz (vP af 1) bS (Gl (.bool (!f.cz)) bS dU 0 N3 (fw (.bool (!f.cz)) (Iw rfl bS rfl) (nt (jF (cn bS) (sk (Ib (Mz rfl (Kz (vP aa 8) (Lz (vU f.aN) dU 1 D4 (La ([.bool f.cz, .bool (!f.cz)]) dU 0 W7 W5 ?_))))))))))
 have yu:=dU.pf [5]
 refine Jb (Jf (k:=f.aN) (v:=(eX.mk f.cz (!f.cz))) yu (uf B8) W4 rfl rfl rfl ?_)
 intro Ew yw
 refine C6 (bN (Ig (Ib (fw (vJ (s+1)) (Ie (e:=C5.wrap (((s:Nat):Int)+1)) yk f0) (Mz rfl (C6 ?_))))))
 have yx:=yw.px [3,4,5] [1,2] []
 exact Ir (s+1,V,(kL I f.aN (eX.mk f.cz (!f.cz)))) ⟨rfl,rfl,rfl,rfl,rfl,rfl,rfl,rfl,rfl,rfl,rfl,rfl,rfl,rfl,rfl,rfl,rfl,rfl,rfl,rfl,rfl,rfl,trivial⟩ (bJ.2 ⟨yx,e6,et (aG) (et (congrArg (fun q=>eY h b q M I) aR) (et (ah aS) (et (ip W) (et (ah aT) (et (ip bK) (et (ah bM) (et (gm av) (et (gm aM) (ip bS)))))))))⟩) (by show b.length - (s+1) < b.length - s; omega)
 refine Sz bS (Sz bS (fw (.bool false) (Ih rfl bS rfl) (nt (jf (sk (Ib (Mz rfl (Kz (vP aa 8) (Lz (vU f.aN) dU 1 D4 (La ([.bool f.cz, .bool (!f.cz)]) dU 0 W7 W5 ?_))))))))))
 have yz:=dU.pf [5]
 refine Jb (Jf (k:=f.aN) (v:=(eX.mk f.cz (!f.cz))) yz (uf B8) W4 rfl rfl rfl ?_)
 intro Ex yA
 refine C6 (bN (Ig (Ib (fw (vJ (s+1)) (Ie (e:=C5.wrap (((s:Nat):Int)+1)) yk f0) (Mz rfl (C6 ?_))))))
 have yB:=yA.px [3,4,5] [1,2] []
 exact Ir (s+1,V,(kL I f.aN (eX.mk f.cz (!f.cz)))) ⟨rfl,rfl,rfl,rfl,rfl,rfl,rfl,rfl,rfl,rfl,rfl,rfl,rfl,rfl,rfl,rfl,rfl,rfl,rfl,rfl,rfl,rfl,trivial⟩ (bJ.2 ⟨yB,e6,et (aG) (et (congrArg (fun q=>eY h b q M I) aR) (et (ah aS) (et (ip W) (et (ah aT) (et (ip bK) (et (ah bM) (et (gm av) (et (gm aM) (gm bS)))))))))⟩) (by show b.length - (s+1) < b.length - s; omega)
 refine jT (cn bK) (C7 (Il (IB (Ig (Ib (fw (vJ (s+1)) (Ie (e:=C5.wrap (((s:Nat):Int)+1)) yk f0) (Mz rfl (C6 ?_))))))))
 have yC:=dR.px [] [0] []
 exact Ir (s+1,V,I) ⟨rfl,rfl,rfl,rfl,rfl,rfl,rfl,rfl,rfl,rfl,rfl,rfl,rfl,rfl,rfl,rfl,rfl,rfl,rfl,rfl,rfl,rfl,trivial⟩ (bJ.2 ⟨yC,e6,et (aG) (et (congrArg (fun q=>eY h b q M I) aR) (et (ah aS) (et (ip W) (et (ah aT) (gm bK)))))⟩) (by show b.length - (s+1) < b.length - s; omega)
 refine Sz (dT W) (Sz (dT W) (Sz (dT W) (Sz (dT W) (Sz (dT W) (fw (.bool true) (Iw rfl (dT W) rfl) (nt (jt (C7 (Il (IB (Ig (Ib (fw (vJ (s+1)) (Ie (e:=C5.wrap (((s:Nat):Int)+1)) yk f0) (Mz rfl (C6 ?_)))))))))))))))
 have yD:=dR.px [] [0] []
 exact Ir (s+1,V,I) ⟨rfl,rfl,rfl,rfl,rfl,rfl,rfl,rfl,rfl,rfl,rfl,rfl,rfl,rfl,rfl,rfl,rfl,rfl,rfl,rfl,rfl,rfl,trivial⟩ (bJ.2 ⟨yD,e6,et (aG) (et (congrArg (fun q=>eY h b q M I) aR) (et (ah aS) (iN W)))⟩) (by show b.length - (s+1) < b.length - s; omega)
 refine jF (dF pW) (C7 (Il ?_))
 have mi:eY h b b T U=B9 (M,I):=et (aG) (et (congrArg (fun q=>eY h b q M I) (fB (ls:=b) (i:=s) e6)) rfl)
 refine Il (IB (Ig (sr (Mz rfl ?_))))
 have yE:=dQ.pf [4]
 obtain⟨d,iE⟩:∃ q,eQ h=q:=⟨_,rfl⟩
 obtain⟨Ey,sZ,BM,tq,BN⟩:=II yE
 refine cl W1 (kE _ _ B h d sZ e8 f5 iE) ?_
 rintro _ Ez ⟨di,dm,dn,dw,ay,bn,kZ,jq,rfl,tu,tC,mo⟩
 have lc:=tq _ _ tu
 have BO:=aB tC
 have BP:=aB mo
 have BQ:=lc.rowC (i:=0) rfl
 have BR:=lc.rowC (i:=1) rfl
 have BS:=lc.rowC (i:=3) rfl
 obtain⟨BU,BV,BX⟩:=uT f5 f5 iE
 refine dV [vI 0, .int .u64 0, .int .u64 0, .int .u64 0, .slice none 0 0, .slice none 0 0, .slice none 0 0] 33 lc ?_
 intro dx EA yF
 refine dS [vI d.au,vU d.av,vU d.aV,vU d.aL, .slice di d.ag.ls.length dm, .slice dn d.aj.ls.length dw, .slice ay d.aF.ls.length bn] 0 yF H4 ?_
 intro EB pX
 refine ns (Kz (vP F 0) (Lz (.slice j b.length u) pX 7 Tryz.isAgg45 (Kz (vJ b.length) (Mn rfl (bo ?_)))))
 have yG:=pX.pf []
 obtain⟨yH,fV⟩:=nQ fun (K:Nat) w'=>Own w D w' [blk dx [vI d.au,vU d.av,vU d.aV,vU d.aL, .slice di d.ag.ls.length dm, .slice dn d.aj.ls.length dw, .slice ay d.aF.ls.length bn] 33,row di d.ag.ls.length dm (q3 aY.cells d.ag.ls) 89 2,row dn d.aj.ls.length dw (q3 aC.cells kZ) 60 5,sepL (q3 aC.own kZ),row ay d.aF.ls.length bn (q3 aU.cells jq) 56 4,sepL (q3 aU.own jq),iG B h,blk F [.slice j b.length u, .bool aH] 47,blk E (fM.cells a) 44,l5 P kU Value.bool M,l5 Q kU eX.val I,row j b.length u (q3 bf.cells L) 42 21,sepL (q3 bf.own L)]∧K≤b.length∧iD h M I d b=iD h M I d (r3 K b)
 refine C3 (fun i:Nat=> [(2, .bool false),(150,vJ i),(149,vJ b.length),(148, .slice j b.length u),(147,vP F 0),(17,vP dx 0),(146, .agg #[vI d.au,vU d.av,vU d.aV,vU d.aL, .slice di d.ag.ls.length dm, .slice dn d.aj.ls.length dw, .slice ay d.aF.ls.length bn]),(145,vP B 0),(96, .bool (decide (((s:Nat):Int) < ((b.length:Nat):Int)))),(95,vJ s),(94,vJ b.length),(93, .slice j b.length u),(92,vP F 0),(4,vP B 0),(56, .bool (decide (a.iU=0))),(57, .bool (decide (a.iU=0))),(55,vI a.iU),(54,vP E 0),(10,vP F 0),(53, .agg #[.slice none 0 0, .bool false]),(9,vP E 0),(52, .agg (fM.cells a).toArray),(51, .pointer (some ⟨ab A0,ao A0+p *25,none⟩)),(50, .bool (decide (((p:Nat):Int) < ((l0.length:Nat):Int)))),(49,vJ p),(48,vJ l0.length),(47, .slice A0 l0.length c0),(7, .map (some P)),(6, .map (some Q)),(3, .bool S)]) yH (fun i=>b.length - i) 0 ⟨rfl,rfl,rfl,rfl,rfl,rfl,rfl,rfl,rfl,rfl,rfl,rfl,rfl,rfl,rfl,rfl,rfl,rfl,rfl,rfl,rfl,rfl,rfl,rfl,rfl,rfl,rfl,rfl,rfl,rfl,trivial⟩ (fV.2 ⟨yG,e6,rfl⟩) ?_
 rintro K EC tF
 obtain⟨dW,BZ,fZ⟩:=fV.1 tF
 refine sr (Kz (.bool (decide (((K:Nat):Int) < ((b.length:Nat):Int)))) (nt (Ic ?_)))
 by_cases pY:((K:Nat):Int) < ((b.length:Nat):Int)
 obtain⟨z,gp⟩:=dN (ls:=L) (i:=K) bf.len f4 (dW.rds (i:=11) rfl) e9
 have tH:=fF j4 gp
 have Ca:z.aH.ls.length≤z.aH.c∧z.aH.ls.length≤9223372036854775807:=aZ dW (i:=12) rfl (φ:=fun _=>_) (ax (Q3.2 ⟨z,D3 gp,b1⟩) aW)
 have Cb:z.ai.ls.length≤z.ai.c∧z.ai.ls.length≤9223372036854775807:=aZ dW (i:=12) rfl (φ:=fun _=>_) (ax (Q3.2 ⟨z,D3 gp, .tail _ b1⟩) aW)
 have Cc:z.ag.ls.length≤z.ag.c∧z.ag.ls.length≤9223372036854775807:=aZ dW (i:=12) rfl (φ:=fun _=>_) (ax (Q3.2 ⟨z,D3 gp, .tail _ b2⟩) aW)
 have iF:=drop_at tH
 refine jT (dT pY) (sk (Ic (bo (sr (fw (.pointer (some ⟨ab j,ao j+K *21,none⟩)) (Ij (uu) rfl rfl ((dW.rds (i:=11) rfl).addr (i:=K) e6) e6) (fw (.agg (bf.cells z).toArray) (Io rfl (Iy (cs:=(bf.cells z)) N5 N6 ((dW.rds (i:=11) rfl).elem bf.len gp f4))) ?_))))))
 refine dV (gU 0 0 0 0 0 0 0 0 0 0 0 0 0 0 0 false ([]) ([]) none 0 0 none 0 0 none 0 0) 42 dW ?_
 intro gq ED yI
 refine dS (bf.cells z) 0 yI N6 ?_
 intro EE p8
 refine ns (An rfl (Ic (sr (Kz (vP dx 6) (Lz (.slice ay d.aF.ls.length bn) p8 1 Tryz.isAgg31 (Kz (vJ d.aF.ls.length) (Mn rfl (bo ?_))))))))
 have yJ:=p8.pf []
 obtain⟨yK,gu⟩:=Fz fun aN (N:Nat) w'=>Own w D w' [blk gq (bf.cells z) 42,blk dx [vI d.au,vU d.av,vU d.aV,vU d.aL, .slice di d.ag.ls.length dm, .slice dn d.aj.ls.length dw, .slice ay d.aF.ls.length bn] 33,row di d.ag.ls.length dm (q3 aY.cells d.ag.ls) 89 2,row dn d.aj.ls.length dw (q3 aC.cells kZ) 60 5,sepL (q3 aC.own kZ),row ay d.aF.ls.length bn (q3 aU.cells jq) 56 4,sepL (q3 aU.own jq),iG B h,blk F [.slice j b.length u, .bool aH] 47,blk E (fM.cells a) 44,l5 P kU Value.bool M,l5 Q kU eX.val I,row j b.length u (q3 bf.cells L) 42 21,sepL (q3 bf.own L)]∧N≤d.aF.ls.length∧gD (bf.abs z) d.aF.ls false=gD (bf.abs z) (r3 N d.aF.ls) aN
 refine C3 (fun i:Bool × Nat=> [(20, .bool i.1),(157,vJ i.2),(156,vJ d.aF.ls.length),(155, .slice ay d.aF.ls.length bn),(154,vP dx 6),(19,vP gq 0),(153, .agg (bf.cells z).toArray),(152, .pointer (some ⟨ab j,ao j+K *21,none⟩)),(151, .bool (decide (((K:Nat):Int) < ((b.length:Nat):Int)))),(2, .bool false),(150,vJ K),(149,vJ b.length),(148, .slice j b.length u),(147,vP F 0),(17,vP dx 0),(146, .agg #[vI d.au,vU d.av,vU d.aV,vU d.aL, .slice di d.ag.ls.length dm, .slice dn d.aj.ls.length dw, .slice ay d.aF.ls.length bn]),(145,vP B 0),(96, .bool (decide (((s:Nat):Int) < ((b.length:Nat):Int)))),(95,vJ s),(94,vJ b.length),(93, .slice j b.length u),(92,vP F 0),(4,vP B 0),(56, .bool (decide (a.iU=0))),(57, .bool (decide (a.iU=0))),(55,vI a.iU),(54,vP E 0),(10,vP F 0),(53, .agg #[.slice none 0 0, .bool false]),(9,vP E 0),(52, .agg (fM.cells a).toArray),(51, .pointer (some ⟨ab A0,ao A0+p *25,none⟩)),(50, .bool (decide (((p:Nat):Int) < ((l0.length:Nat):Int)))),(49,vJ p),(48,vJ l0.length),(47, .slice A0 l0.length c0),(7, .map (some P)),(6, .map (some Q)),(3, .bool S)]) yK (fun i=>d.aF.ls.length - i.2) (false,0) ⟨rfl,rfl,rfl,rfl,rfl,rfl,rfl,rfl,rfl,rfl,rfl,rfl,rfl,rfl,rfl,rfl,rfl,rfl,rfl,rfl,rfl,rfl,rfl,rfl,rfl,rfl,rfl,rfl,rfl,rfl,rfl,rfl,rfl,rfl,rfl,rfl,rfl,rfl,rfl,trivial⟩ (gu.2 ⟨yJ,(show 0≤d.aF.ls.length∧gD (bf.abs z) d.aF.ls false=gD (bf.abs z) (r3 0 d.aF.ls) false from ⟨e6,rfl⟩)⟩) ?_
 rintro ⟨aN,N⟩ EF tJ
 obtain⟨bO,Ce,iH⟩:=gu.1 tJ
 refine sr (Kz (.bool (decide (((N:Nat):Int) < ((d.aF.ls.length:Nat):Int)))) (nt (Ic ?_)))
 by_cases p9:((N:Nat):Int) < ((d.aF.ls.length:Nat):Int)
 obtain⟨aj,kg⟩:=dN (ls:=jq) (i:=N) aU.len f4 (bO.rds (i:=5) rfl) e9
 have tK:=fF mo kg
 have Cf:aj.ai.ls.length≤aj.ai.c∧aj.ai.ls.length≤9223372036854775807:=aZ bO (i:=6) rfl (φ:=fun _=>_) (ax (Q3.2 ⟨aj,D3 kg,b1⟩) aW)
 have ko:=drop_at tK
 refine jT (dT p9) (sk (Ic (bo (sr (fw (.pointer (some ⟨ab ay,ao ay+N *4,none⟩)) (Ij (l6) rfl rfl ((bO.rds (i:=5) rfl).addr (i:=N) e6) e6) (fw (.agg (aU.cells aj).toArray) (Io rfl (Iy (cs:=(aU.cells aj)) Tryz.isAgg56 Tryz.sizeOf56 ((bO.rds (i:=5) rfl).elem aU.len kg f4))) ?_))))))
 refine dV [vI 0, .int .u64 0, .int .u64 0, .slice none 0 0] 56 bO ?_
 intro qa EG yL
 refine dS (aU.cells aj) 0 yL Tryz.sizeOf56 ?_
 intro EH gy
 refine nt (Ib (Mz rfl (Mz rfl ?_)))
 rcases Li (aN) with R | R
 refine Sz R (Sz R (Sz R (Sz R (Sz R (Sz R (Sz R (IR rfl rfl rfl (IR rfl rfl rfl (IR rfl rfl rfl (IR rfl rfl rfl (IR rfl rfl rfl (Sz R (fw (.bool true) (Iw rfl R rfl) (Az rfl (C6 (bN (Ig (Ib (fw (vJ (N+1)) (Ie (e:=C5.wrap (((N:Nat):Int)+1)) yk f0) (Mz rfl (C6 ?_)))))))))))))))))))))
 have yM:=gy.px [] [0] []
 exact Ir (true,N+1) ⟨rfl,rfl,rfl,rfl,rfl,rfl,rfl,rfl,rfl,rfl,rfl,rfl,rfl,rfl,rfl,rfl,rfl,rfl,rfl,rfl,rfl,rfl,rfl,rfl,rfl,rfl,rfl,rfl,rfl,rfl,rfl,rfl,rfl,rfl,rfl,rfl,rfl,rfl,rfl,trivial⟩ (gu.2 ⟨yM,(show (N+1)≤d.aF.ls.length∧gD (bf.abs z) d.aF.ls false=gD (bf.abs z) (r3 (N+1) d.aF.ls) true from ⟨e6,et (iH) (et (congrArg (fun q=>gD (bf.abs z) q aN) ko) (ip R))⟩)⟩) (by show d.aF.ls.length - (N+1) < d.aF.ls.length - N; omega)
 refine Gz (vP qa 0) R (Gl (vI aj.aK) R gy 0 C4 (Gz (vP gq 2) R (Gl (vI z.fI) R gy 1 C4 (Gz (vI (C5.wrap (z.fI - 10))) R (Gz (.bool (decide (aj.aK=C5.wrap (z.fI - 10)))) R (I1 (v:= .bool (decide (aj.aK=C5.wrap (z.fI - 10)))) rfl rfl R rfl (Iq rfl) ?_))))))
 by_cases az:aj.aK=C5.wrap (z.fI - 10)
 refine Gz (vP qa 2) (dT az) (Gl (vU aj.aP) (dT az) gy 0 D4 (Gz (vP gq 6) (dT az) (Gl (vU z.aP) (dT az) gy 1 D4 (Gz (.bool (decide (((aj.aP:Nat):Int)=((z.aP:Nat):Int)))) (dT az) (I1 (v:= .bool (decide (((aj.aP:Nat):Int)=((z.aP:Nat):Int)))) rfl rfl R rfl (Iw rfl (dT az) rfl) (fw (.bool (decide (((aj.aP:Nat):Int)=((z.aP:Nat):Int)))) (Ih rfl R rfl) (Az rfl (C6 (bN (Ig (Ib (fw (vJ (N+1)) (Ie (e:=C5.wrap (((N:Nat):Int)+1)) yk f0) (Mz rfl (C6 ?_))))))))))))))
 have yN:=gy.px [] [0] []
 exact Ir (decide (((aj.aP:Nat):Int)=((z.aP:Nat):Int)),N+1) ⟨rfl,rfl,rfl,rfl,rfl,rfl,rfl,rfl,rfl,rfl,rfl,rfl,rfl,rfl,rfl,rfl,rfl,rfl,rfl,rfl,rfl,rfl,rfl,rfl,rfl,rfl,rfl,rfl,rfl,rfl,rfl,rfl,rfl,rfl,rfl,rfl,rfl,rfl,rfl,trivial⟩ (gu.2 ⟨yN,e6,et (iH) (et (congrArg (fun q=>gD (bf.abs z) q aN) ko) (et (gm R) (ip az)))⟩) (by show d.aF.ls.length - (N+1) < d.aF.ls.length - N; omega)
 refine Sz (dF az) (Sz (dF az) (Sz (dF az) (Sz (dF az) (Sz (dF az) (I1 (v:= .bool false) rfl rfl R rfl (Ih rfl (dF az) rfl) (fw (.bool false) (Ih rfl R rfl) (Az rfl (C6 (bN (Ig (Ib (fw (vJ (N+1)) (Ie (e:=C5.wrap (((N:Nat):Int)+1)) yk f0) (Mz rfl (C6 ?_))))))))))))))
 have yO:=gy.px [] [0] []
 exact Ir (false,N+1) ⟨rfl,rfl,rfl,rfl,rfl,rfl,rfl,rfl,rfl,rfl,rfl,rfl,rfl,rfl,rfl,rfl,rfl,rfl,rfl,rfl,rfl,rfl,rfl,rfl,rfl,rfl,rfl,rfl,rfl,rfl,rfl,rfl,rfl,rfl,rfl,rfl,rfl,rfl,rfl,trivial⟩ (gu.2 ⟨yO,(show (N+1)≤d.aF.ls.length∧gD (bf.abs z) d.aF.ls false=gD (bf.abs z) (r3 (N+1) d.aF.ls) false from ⟨e6,et (iH) (et (congrArg (fun q=>gD (bf.abs z) q aN) ko) (et (gm R) (iN az)))⟩)⟩) (by show d.aF.ls.length - (N+1) < d.aF.ls.length - N; omega)
 refine jF (dF p9) (C7 (Il ?_))
 have iI:gD (bf.abs z) d.aF.ls false=aN:=et (iH) (et (congrArg (fun q=>gD (bf.abs z) q aN) (fB (ls:=d.aF.ls) (i:=N) e6)) rfl)
 refine Il (IB (Ig (sr (Kz (vP gq 0) (Lz (vI z.aD) bO 0 C4 (Kz (.bool (decide (z.aD=2))) (Mz rfl ?_)))))))
 by_cases bq:z.aD=2
 refine Gz (vP gq 4) (dT bq) (Gl (vI z.dz) (dT bq) bO 0 C4 (Gz (.bool (decide (z.dz=1))) (dT bq) (fw (.bool (decide (z.dz=1))) (Iw rfl (dT bq) rfl) (Mz rfl ?_))))
 by_cases dz:z.dz=1
 refine gw (.bool aN) (dT dz) (Iq rfl) (Gz (.bool (!aN)) (dT dz) (fw (.bool (!aN)) (Iw rfl (dT dz) rfl) (nt ?_)))
 rcases Li (aN) with jr | jr
 refine jF (cn jr) (IE (bN (Ig (Ib (fw (vJ (K+1)) (Ie (e:=C5.wrap (((K:Nat):Int)+1)) yk f0) (Mz rfl (C6 ?_)))))))
 have yP:=bO.px [] [0] []
 exact Ir (K+1) ⟨rfl,rfl,rfl,rfl,rfl,rfl,rfl,rfl,rfl,rfl,rfl,rfl,rfl,rfl,rfl,rfl,rfl,rfl,rfl,rfl,rfl,rfl,rfl,rfl,rfl,rfl,rfl,rfl,rfl,rfl,trivial⟩ (fV.2 ⟨yP,e6,et (fZ) (et (congrArg (fun q=>iD h M I d q) iF) (et (ah iI) (et (ip bq) (et (ip dz) (ip jr)))))⟩) (by show b.length - (K+1) < b.length - K; omega)
 refine jT (cn jr) (sr (An rfl (rt (bR (tR (tR (bR (bR (tR (tR (bR (tR (rs ?_)))))))))))))
 have yQ:=bO.pk []
 obtain rfl:_=false:=hr.symm.trans (et (ah aV) (et (ah aX) (et (ip aP) (et (ah bv) (et (ah aD) (et (iN bA) (jm (et (aQ) (et (congrArg (fun q=>fP S q g T U) bC) (et (ip dK) (et (nY fT) (et (nY mi) (et (ah iE) (oF (et (fZ) (et (congrArg (fun q=>iD h M I d q) iF) (et (ah iI) (et (ip bq) (et (ip dz) (gm jr))))))))))))))))))))
 exact⟨rfl,yQ⟩
 refine Sz (dF dz) (Sz (dF dz) (fw (.bool false) (Ih rfl (dF dz) rfl) (nt (jf (IE (bN (Ig (Ib (fw (vJ (K+1)) (Ie (e:=C5.wrap (((K:Nat):Int)+1)) yk f0) (Mz rfl (C6 ?_)))))))))))
 have yR:=bO.px [] [0] []
 exact Ir (K+1) ⟨rfl,rfl,rfl,rfl,rfl,rfl,rfl,rfl,rfl,rfl,rfl,rfl,rfl,rfl,rfl,rfl,rfl,rfl,rfl,rfl,rfl,rfl,rfl,rfl,rfl,rfl,rfl,rfl,rfl,rfl,trivial⟩ (fV.2 ⟨yR,e6,et (fZ) (et (congrArg (fun q=>iD h M I d q) iF) (et (ah iI) (et (ip bq) (iN dz))))⟩) (by show b.length - (K+1) < b.length - K; omega)
 refine Sz (dF bq) (Sz (dF bq) (Sz (dF bq) (fw (.bool false) (Ih rfl (dF bq) rfl) (Mz rfl (Sz rfl (Sz rfl (fw (.bool false) (Ih rfl rfl rfl) (nt (jf (IE (bN (Ig (Ib (fw (vJ (K+1)) (Ie (e:=C5.wrap (((K:Nat):Int)+1)) yk f0) (Mz rfl (C6 ?_))))))))))))))))
 have yS:=bO.px [] [0] []
 exact Ir (K+1) ⟨rfl,rfl,rfl,rfl,rfl,rfl,rfl,rfl,rfl,rfl,rfl,rfl,rfl,rfl,rfl,rfl,rfl,rfl,rfl,rfl,rfl,rfl,rfl,rfl,rfl,rfl,rfl,rfl,rfl,rfl,trivial⟩ (fV.2 ⟨yS,e6,et (fZ) (et (congrArg (fun q=>iD h M I d q) iF) (et (ah iI) (iN bq)))⟩) (by show b.length - (K+1) < b.length - K; omega)
 refine jF (dF pY) (C7 (Il ?_))
 have tL:iD h M I d b=B9 ():=et (fZ) (et (congrArg (fun q=>iD h M I d q) (fB (ls:=b) (i:=K) e6)) rfl)
 refine Il (IB (bN (Ig (Ib (fw (vJ (p+1)) (Ie (e:=C5.wrap (((p:Nat):Int)+1)) yk f0) (Mz rfl (C6 ?_)))))))
 have yT:=dW.pk [9,10,6]
 exact Ir (B,h,p+1,M,I) ⟨rfl,rfl,rfl,rfl,rfl,rfl,rfl,rfl,trivial⟩ (iw.2 ⟨yT,e6,by first | omega | (dsimp only; omega) | exact tZ f5 f5,by first | assumption | exact wO f5 f5,Eq.trans (aQ) (Eq.trans (congrArg (fun q=>fP S q g T U) bC) (Eq.trans (if_pos dK) (Eq.trans (nY fT) (Eq.trans (nY mi) (Eq.trans (ah iE) (nY tL))))))⟩) (by show l0.length - (p+1) < l0.length - p; omega)
 have Cg:a.iU=0:=by omega
 have Ci:a.az.aD=6:=by omega
 refine bo (sr (Kz (.bool (decide (a.iU=0))) (An rfl ?_)))
 have tN:(decide (a.iU=0))=true:=(dT e6)
 refine jT tN (Ic ?_)
 obtain⟨yU,iJ⟩:=FB fun (dA:Nat) (jv:Nat) (jw:Nat) (jy:Nat) (jA:Int) (jB:Nat) (jC:Nat) (jD:Nat) gz (gB:Nat) dB gF (gG:Nat) dC dD gH (gI:Nat) dE dG (jE:Nat) (jG:Nat) (jH:Nat) w'=>Own w D w' [blk dA [vI a.az.aD,vI a.az.aJ,vI a.az.fI,vI a.az.aK,vI a.az.dz,vI a.az.eH,vU a.az.aP,vU jv,vU jw,vU a.az.dY,vU jy,vU a.az.aL,vU (nR a.dE a.az.dL 0),vU a.az.cu,vU a.az.xN, .bool a.az.cz, .string ⟨v9 a.az.bU.bF⟩, .string ⟨v9 a.az.bU.bT⟩, .slice a.az.aH.A a.az.aH.ls.length a.az.aH.c, .slice a.az.ai.A a.az.ai.ls.length a.az.ai.c, .slice a.az.ag.A a.az.ag.ls.length a.az.ag.c] 42,blk F [.slice none 0 0, .bool false] 47,blk E (fM.cells a) 44,l5 P kU Value.bool T,l5 Q kU eX.val U,iG C g,row gz dB.length gB (q3 aY.cells dB) 89 2,row gF dD.length gG (q3 aC.cells dC) 60 5,sepL (q3 aC.own dC),row gH dG.length gI (q3 aU.cells dE) 56 4,sepL (q3 aU.own dE)]∧s5 aC.abs dC=dD∧s5 aU.abs dE=dG∧(())=()
 refine IZ (fun i:Nat × Nat × Nat × Nat × Int × Nat × Nat × Nat × (Option Addr) × Nat × (List aY) × (Option Addr) × Nat × (List aC) × (List bH) × (Option Addr) × Nat × (List aU) × (List eD) × Nat × Nat × Nat=> [(11, .pointer (some ⟨i.1,0,none⟩)),(58, .agg (fM.cells a).toArray),(59,vP C 0),(60, .agg #[vI i.2.2.2.2.1,vU i.2.2.2.2.2.1,vU i.2.2.2.2.2.2.1,vU i.2.2.2.2.2.2.2.1, .slice i.2.2.2.2.2.2.2.2.1 i.2.2.2.2.2.2.2.2.2.2.1.length i.2.2.2.2.2.2.2.2.2.1, .slice i.2.2.2.2.2.2.2.2.2.2.2.1 i.2.2.2.2.2.2.2.2.2.2.2.2.2.2.1.length i.2.2.2.2.2.2.2.2.2.2.2.2.1, .slice i.2.2.2.2.2.2.2.2.2.2.2.2.2.2.2.1 i.2.2.2.2.2.2.2.2.2.2.2.2.2.2.2.2.2.2.1.length i.2.2.2.2.2.2.2.2.2.2.2.2.2.2.2.2.1]),(61,vP C 0),(62, .int .u64 0),(63, .agg #[vI a.az.aD,vI a.az.aJ,vI a.az.fI,vI a.az.aK,vI a.az.dz,vI a.az.eH,vU a.az.aP,vU i.2.2.2.2.2.2.2.2.2.2.2.2.2.2.2.2.2.2.2.1,vU i.2.2.2.2.2.2.2.2.2.2.2.2.2.2.2.2.2.2.2.2.1,vU a.az.dY,vU i.2.2.2.2.2.2.2.2.2.2.2.2.2.2.2.2.2.2.2.2.2,vU a.az.aL,vU (nR a.dE a.az.dL 0),vU a.az.cu,vU a.az.xN, .bool a.az.cz, .string ⟨v9 a.az.bU.bF⟩, .string ⟨v9 a.az.bU.bT⟩, .slice a.az.aH.A a.az.aH.ls.length a.az.aH.c, .slice a.az.ai.A a.az.ai.ls.length a.az.ai.c, .slice a.az.ag.A a.az.ag.ls.length a.az.ag.c]),(56, .bool (decide (a.iU=0))),(57, .bool (decide (a.iU=0))),(55,vI a.iU),(54,vP E 0),(10,vP F 0),(53, .agg #[.slice none 0 0, .bool false]),(9,vP E 0),(52, .agg (fM.cells a).toArray),(51, .pointer (some ⟨ab A0,ao A0+p *25,none⟩)),(50, .bool (decide (((p:Nat):Int) < ((l0.length:Nat):Int)))),(2, .bool false),(4,vP C 0),(49,vJ p),(48,vJ l0.length),(47, .slice A0 l0.length c0),(7, .map (some P)),(6, .map (some Q)),(3, .bool S)]) yU ?_ ?_
 refine vX [] (Iu (bQ.block (Iu (bQ.block (Iu (Iu (bQ.block (Iu IC)))))))) ib ?_
 intro EI qb
 refine qt (v:= .agg (fM.cells a).toArray) 0 rfl (fun _ ⟨_,H9⟩=>Io rfl (Iy (cs:=(fM.cells a)) V9 W0 ((H9.cls (i:=1) rfl).lit (k:=0) (m:=25) rfl))) (qv 1 rfl rfl (qv 3 rfl rfl ?_))
 refine Jj 2 6 e7 ?_ ?_
 have yV:=qb.pf [4]
 obtain⟨n,mq⟩:∃ q,eQ g=q:=⟨_,rfl⟩
 obtain⟨EJ,tO,Cj,tQ,Ck⟩:=II yV
 refine GY.do 2 rfl e7 (Iz W1 rfl (kE _ _ C g n tO e8 f5 mq) ?_)
 rintro _ EK ⟨lh,ll,lm,lq,gK,gL,qc,qf,rfl,tT,kr,ku⟩
 have lu:=tQ _ _ tT
 have Cm:=aB kr
 have Cn:=aB ku
 have Co:=lu.rowC (i:=0) rfl
 have Cq:=lu.rowC (i:=1) rfl
 have Cr:=lu.rowC (i:=3) rfl
 obtain⟨Cs,Ct,Cu⟩:=uT f5 f5 mq
 have mr:=lu.pf [6,7,8,9]
 refine⟨.inr ⟨_,mr⟩, ?_⟩
 refine Jj 4 6 e7 ?_ ?_
 refine GY.do 4 rfl e7 (Iz U8 rfl ?_ (fun _ _ k=>k))
 refine cb U9 ?_
 refine sr (An rfl (Ic (Ic ?_)))
 have yX:=mr.pf [9]
 obtain⟨EL,EM,EN,EO,EP,qh,qi,qj,ql,qm,qo,qp,qw,qx,qy,qz,qA,qB,qC,qD,qE,qF,qG,qH,qI,qJ,tV,gM,gN,gP,gQ,gT,gV,gX,Cv,qK⟩:=iZ yX
 refine Ib (Mz rfl (Kz (vP C 0) (Kz (vP C 34) (Lz (.pointer none) qK 0 V0 (Kz (.bool true) (nt (jt (sr (An rfl (rt (tR (rs ?_))))))))))))
 have qL:=qK.pf [18,19,20,21]
 refine⟨.inr ⟨_,qL⟩, ?_⟩
 refine Et ⟨5,_,_,_,_,_,Unit,fun g9=> .agg #[vI a.az.aD,vI a.az.aJ,vI a.az.fI,vI a.az.aK,vI a.az.dz,vI a.az.eH,vU a.az.aP,vU (ja a.dE a.az.aD 1 n.av a.az.av),vU (lZ a.dE a.az.aN n.av),vU a.az.dY,vU (ja a.dE a.az.aD 9 n.aV a.az.aV),vU a.az.aL,vU (nR a.dE a.az.dL 0),vU a.az.cu,vU a.az.xN, .bool a.az.cz, .string ⟨v9 a.az.bU.bF⟩, .string ⟨v9 a.az.bU.bT⟩, .slice a.az.aH.A a.az.aH.ls.length a.az.aH.c, .slice a.az.ai.A a.az.ai.ls.length a.az.ai.c, .slice a.az.ag.A a.az.ag.ls.length a.az.ag.c],fun _=>True,fun g9=> []⟩ ⟨6,_,_,_,_,_,Nat,fun g9=>vP g9 0,fun _=>True,fun g9=> [blk g9 (gU 0 0 0 0 0 0 0 0 0 0 0 0 0 0 0 false ([]) ([]) none 0 0 none 0 0 none 0 0) 42]⟩ 4 qL ⟨⟨rfl,rfl,rfl, ?_⟩,⟨rfl,rfl,rfl, ?_⟩,trivial⟩ ?_
 intro EQ L' yY
 obtain⟨ER,tX,Cw,tY,Cx⟩:=Ii yY
 refine(Iz W2 rfl (qQ _ _ a n.au n.av n.aV n.aL lh n.ag.ls.length ll lm n.aj.ls.length lq gK n.aF.ls.length gL 0 tX) ?_)
 rintro _ ES ⟨rfl,ug⟩
 have yZ:=tY _ _ ug
 exact⟨(),rfl,trivial,yZ⟩
 intro ET L' gY
 refine(IY (cs:=(gU 0 0 0 0 0 0 0 0 0 0 0 0 0 0 0 false ([]) ([]) none 0 0 none 0 0 none 0 0)) (t:=42) gY rfl rfl (fun _=>by kernel_rfl) ?_)
 intro lv qM jI
 exact⟨lv,rfl,trivial,jI⟩
 rintro ⟨⟩ _ lv _
 intro y5 jJ
 have jK:Own w D y5 (blk lv (gU 0 0 0 0 0 0 0 0 0 0 0 0 0 0 0 false ([]) ([]) none 0 0 none 0 0 none 0 0) 42::_):=jJ.flat.pf []
 have jL:=jK.pf [1,2,3,4]
 have y7:=jL.pf [4]
 refine qe 7 rfl (Do.store (vs:= [vI a.az.aD,vI a.az.aJ,vI a.az.fI,vI a.az.aK,vI a.az.dz,vI a.az.eH,vU a.az.aP,vU (ja a.dE a.az.aD 1 n.av a.az.av),vU (lZ a.dE a.az.aN n.av),vU a.az.dY,vU (ja a.dE a.az.aD 9 n.aV a.az.aV),vU a.az.aL,vU (nR a.dE a.az.dL 0),vU a.az.cu,vU a.az.xN, .bool a.az.cz, .string ⟨v9 a.az.bU.bF⟩, .string ⟨v9 a.az.bU.bT⟩, .slice a.az.aH.A a.az.aH.ls.length a.az.aH.c, .slice a.az.ai.A a.az.ai.ls.length a.az.ai.c, .slice a.az.ag.A a.az.ag.ls.length a.az.ag.c]) (o:=0) y7 rfl rfl N6 rfl rfl rfl rfl ?_)
 intro EU y8
 have qN:=y8.pf [1,2,3,4]
 refine⟨.inr ⟨_,qN⟩, ?_⟩
 refine qn ?_
 have y9:=qN.pb [0,1,2,3,4,23,24,25,26,27]
 have za:=fe tV gM gN gP gQ gT gV gX y9
 have zb:=za.pf [5,1,2,3,4]
 exact IQ (lv,ja a.dE a.az.aD 1 n.av a.az.av,lZ a.dE a.az.aN n.av,ja a.dE a.az.aD 9 n.aV a.az.aV,n.au,n.av,n.aV,n.aL,lh,ll,n.ag.ls,lm,lq,qc,n.aj.ls,gK,gL,qf,n.aF.ls,ja a.dE a.az.aD 1 n.av a.az.av,lZ a.dE a.az.aN n.av,ja a.dE a.az.aD 9 n.aV a.az.aV) ⟨rfl,rfl,rfl,rfl,rfl,rfl,rfl,rfl,rfl,rfl,rfl,rfl,rfl,rfl,rfl,rfl,rfl,rfl,rfl,rfl,rfl,rfl,rfl,rfl,rfl,trivial⟩ (iJ.2 ⟨zb,by exact kr,by exact ku,rfl⟩)
 refine GY.do 6 rfl e7 (IY (cs:=(gU 0 0 0 0 0 0 0 0 0 0 0 0 0 0 0 false ([]) ([]) none 0 0 none 0 0 none 0 0)) (t:=42) mr rfl rfl (fun _=>by kernel_rfl) ?_)
 intro ze EW zf
 have jM:=zf.pf [1,2,3,4]
 refine⟨.inr ⟨_,jM⟩, ?_⟩
 refine GX.do 4 rfl e7 (Iz U8 rfl ?_ (fun _ _ k=>k))
 refine cb U9 ?_
 refine sr (An rfl (Ic (Ic ?_)))
 have mD:=jM.pf [10]
 obtain⟨zg,zh,qh,qi,qj,ql,qm,qo,qp,qw,qx,qy,qz,qA,qB,qC,qD,qE,qF,qG,qH,qI,qJ,zi,zk,zl,gM,gN,gP,gQ,gT,gV,gX,kv,uh,jN⟩:=iZ mD
 refine Ib (Mz rfl (Kz (vP C 0) (Kz (vP C 34) (Lz (.pointer none) jN 0 V0 (Kz (.bool true) (nt (jt (sr (An rfl (rt (tR (rs ?_))))))))))))
 have jO:=jN.pf [18,19,20,21]
 refine⟨.inr ⟨_,jO⟩, ?_⟩
 obtain⟨zm,kw,ui,kz,uj⟩:=Ii jO
 refine qd 5 rfl (Iz W2 rfl (qQ _ _ a n.au n.av n.aV n.aL lh n.ag.ls.length ll lm n.aj.ls.length lq gK n.aF.ls.length gL 0 kw) ?_)
 rintro _ zn ⟨rfl,kD⟩
 have gY:=kz _ _ kD
 refine⟨.inr ⟨_,gY⟩, ?_⟩
 have mE:=gY.pf [22]
 refine qe 7 rfl (Do.store (vs:= [vI a.az.aD,vI a.az.aJ,vI a.az.fI,vI a.az.aK,vI a.az.dz,vI a.az.eH,vU a.az.aP,vU (ja a.dE a.az.aD 1 n.av a.az.av),vU (lZ a.dE a.az.aN n.av),vU a.az.dY,vU (ja a.dE a.az.aD 9 n.aV a.az.aV),vU a.az.aL,vU (nR a.dE a.az.dL 0),vU a.az.cu,vU a.az.xN, .bool a.az.cz, .string ⟨v9 a.az.bU.bF⟩, .string ⟨v9 a.az.bU.bT⟩, .slice a.az.aH.A a.az.aH.ls.length a.az.aH.c, .slice a.az.ai.A a.az.ai.ls.length a.az.ai.c, .slice a.az.ag.A a.az.ag.ls.length a.az.ag.c]) (o:=0) mE rfl rfl N6 rfl rfl rfl rfl ?_)
 intro qM jI
 have jP:=jI.pf [1,2,3,4]
 refine⟨.inr ⟨_,jP⟩, ?_⟩
 refine qn ?_
 have jJ:=jP.pb [0,1,2,3,4,23,24,25,26,27]
 have jK:=fe gM gN gP gQ gT gV gX kv jJ
 have jL:=jK.pf [5,1,2,3,4]
 exact IQ (ze,ja a.dE a.az.aD 1 n.av a.az.av,lZ a.dE a.az.aN n.av,ja a.dE a.az.aD 9 n.aV a.az.aV,n.au,n.av,n.aV,n.aL,lh,ll,n.ag.ls,lm,lq,qc,n.aj.ls,gK,gL,qf,n.aF.ls,ja a.dE a.az.aD 1 n.av a.az.av,lZ a.dE a.az.aN n.av,ja a.dE a.az.aD 9 n.aV a.az.aV) ⟨rfl,rfl,rfl,rfl,rfl,rfl,rfl,rfl,rfl,rfl,rfl,rfl,rfl,rfl,rfl,rfl,rfl,rfl,rfl,rfl,rfl,rfl,rfl,rfl,rfl,trivial⟩ (iJ.2 ⟨jL,by exact kr,by exact ku,rfl⟩)
 refine GY.do 6 rfl e7 (IY (cs:=(gU 0 0 0 0 0 0 0 0 0 0 0 0 0 0 0 false ([]) ([]) none 0 0 none 0 0 none 0 0)) (t:=42) qb rfl rfl (fun _=>by kernel_rfl) ?_)
 intro zo EX zq
 have qO:=zq.pb [0,5]
 refine⟨.inr ⟨_,qO⟩, ?_⟩
 have zt:=qO.pf [5]
 obtain⟨n,mF⟩:∃ q,eQ g=q:=⟨_,rfl⟩
 obtain⟨EY,uk,Cy,ul,Cz⟩:=II zt
 refine qd 2 rfl (Iz W1 rfl (kE _ _ C g n uk e8 f5 mF) ?_)
 rintro _ EZ ⟨gK,gL,qP,qR,qU,qV,zu,zw,rfl,um,mG,mH⟩
 have lw:=ul _ _ um
 have CB:=aB mG
 have CE:=aB mH
 have CF:=lw.rowC (i:=0) rfl
 have CG:=lw.rowC (i:=1) rfl
 have CJ:=lw.rowC (i:=3) rfl
 obtain⟨CK,CL,CO⟩:=uT f5 f5 mF
 have jM:=lw.pf [6,7,8,9]
 refine⟨.inr ⟨_,jM⟩, ?_⟩
 refine GX.do 4 rfl e7 (Iz U8 rfl ?_ (fun _ _ k=>k))
 refine cb U9 ?_
 refine sr (An rfl (Ic (Ic ?_)))
 have mD:=jM.pf [9]
 obtain⟨zg,zh,qh,qi,qj,ql,qm,qo,qp,qw,qx,qy,qz,qA,qB,qC,qD,qE,qF,qG,qH,qI,qJ,zi,zk,zl,gM,gN,gP,gQ,gT,gV,gX,kv,uh,jN⟩:=iZ mD
 refine Ib (Mz rfl (Kz (vP C 0) (Kz (vP C 34) (Lz (.pointer none) jN 0 V0 (Kz (.bool true) (nt (jt (sr (An rfl (rt (tR (rs ?_))))))))))))
 have jO:=jN.pf [18,19,20,21]
 refine⟨.inr ⟨_,jO⟩, ?_⟩
 obtain⟨zm,kw,ui,kz,uj⟩:=Ii jO
 refine qd 5 rfl (Iz W2 rfl (qQ _ _ a n.au n.av n.aV n.aL gK n.ag.ls.length gL qP n.aj.ls.length qR qU n.aF.ls.length qV 0 kw) ?_)
 rintro _ zn ⟨rfl,kD⟩
 have gY:=kz _ _ kD
 refine⟨.inr ⟨_,gY⟩, ?_⟩
 have mE:=gY.pf [27]
 refine qe 7 rfl (Do.store (vs:= [vI a.az.aD,vI a.az.aJ,vI a.az.fI,vI a.az.aK,vI a.az.dz,vI a.az.eH,vU a.az.aP,vU (ja a.dE a.az.aD 1 n.av a.az.av),vU (lZ a.dE a.az.aN n.av),vU a.az.dY,vU (ja a.dE a.az.aD 9 n.aV a.az.aV),vU a.az.aL,vU (nR a.dE a.az.dL 0),vU a.az.cu,vU a.az.xN, .bool a.az.cz, .string ⟨v9 a.az.bU.bF⟩, .string ⟨v9 a.az.bU.bT⟩, .slice a.az.aH.A a.az.aH.ls.length a.az.aH.c, .slice a.az.ai.A a.az.ai.ls.length a.az.ai.c, .slice a.az.ag.A a.az.ag.ls.length a.az.ag.c]) (o:=0) mE rfl rfl N6 rfl rfl rfl rfl ?_)
 intro qM jI
 have jP:=jI.pf [1,2,3,4]
 refine⟨.inr ⟨_,jP⟩, ?_⟩
 refine qn ?_
 have jJ:=jP.pb [0,1,2,3,4,23,24,25,26,27]
 have jK:=fe gM gN gP gQ gT gV gX kv jJ
 have jL:=jK.pf [5,1,2,3,4]
 exact IQ (zo,ja a.dE a.az.aD 1 n.av a.az.av,lZ a.dE a.az.aN n.av,ja a.dE a.az.aD 9 n.aV a.az.aV,n.au,n.av,n.aV,n.aL,gK,gL,n.ag.ls,qP,qR,zu,n.aj.ls,qU,qV,zw,n.aF.ls,ja a.dE a.az.aD 1 n.av a.az.av,lZ a.dE a.az.aN n.av,ja a.dE a.az.aD 9 n.aV a.az.aV) ⟨rfl,rfl,rfl,rfl,rfl,rfl,rfl,rfl,rfl,rfl,rfl,rfl,rfl,rfl,rfl,rfl,rfl,rfl,rfl,rfl,rfl,rfl,rfl,rfl,rfl,trivial⟩ (iJ.2 ⟨jL,by exact mG,by exact mH,rfl⟩)
 rintro ⟨dA,jv,jw,jy,jA,jB,jC,jD,gz,gB,dB,gF,gG,dC,dD,gH,gI,dE,dG,jE,jG,jH⟩ E5 uo
 obtain⟨qW,uq,ut,uw⟩:=iJ.1 uo
 have CP:=aB uq
 have CQ:=aB ut
 refine Ic (sr (Kz (vP dA 0) (Lz (vI a.az.aD) qW 0 C4 (Kz (.bool (decide (a.az.aD=6))) (nt ?_)))))
 have uy:(decide (a.az.aD=6))=true:=(dT e6)
 refine jT uy (C7 (Il (Kk rfl (Il (IB (Ig (Ib (fw (vJ (p+1)) (Ie (e:=C5.wrap (((p:Nat):Int)+1)) yk f0) (Mz rfl (C6 ?_))))))))))
 have zx:=qW.pk [3,4,5]
 exact Ir (C,g,p+1,T,U) ⟨rfl,rfl,rfl,rfl,rfl,rfl,rfl,rfl,trivial⟩ (iw.2 ⟨zx,e6,by first | omega | (dsimp only; omega) | exact tZ f5 f5,by first | assumption | exact wO f5 f5,Eq.trans (aQ) (Eq.trans (congrArg (fun q=>fP S q g T U) bC) (Eq.trans (if_neg dK) (ah uw)))⟩) (by show l0.length - (p+1) < l0.length - p; omega)
 refine jF (dF mQ) (C7 (Il ?_))
 have uz:fP S l0 Y ([]) ([])=B9 ():=et (aQ) (et (congrArg (fun q=>fP S q g T U) (fB (ls:=l0) (i:=p) e6)) rfl)
 refine Il (IB (Ig (Ic ?_)))
 have zy:=iO.pk []
 refine Ib (Mz rfl (An rfl (rt (rs ?_))))
 have zz:=zy.pk []
 obtain rfl:_=S:=hr.symm.trans (et (ah aV) (et (ah aX) (et (ip aP) (et (ah bv) (et (ah aD) (et (iN bA) (nT uz)))))))
 exact⟨rfl,zz⟩
 refine Sz (dT aP) (Sz (dT aP) (Sz (dT aP) (fw (.bool true) (Iw rfl (dT aP) rfl) (nt (jt (sr (Az rfl (An rfl (rt (tR (Fin.res (lW rfl rfl rfl) (Mz rfl (Kz (.pointer none) (Kz (vI 1) (Az rfl (An rfl (Ic (Ic ?_))))))))))))))))))
 have qX:=mJ.pk []
 refine Ib (Mz rfl (Kz (.bool true) (Mz rfl (Sz rfl (Sz rfl (fw (.bool true) (Iw rfl rfl rfl) (Mz rfl (Sz rfl (Sz rfl (Sz rfl (fw (.bool true) (Iw rfl rfl rfl) (nt (jt (sr (Mz rfl (Mz rfl ?_))))))))))))))))
 rcases Li (S) with dH | dH
 refine I1 (v:= .pointer none) rfl rfl dH rfl (Iq rfl) (Gz (.bool false) dH (fw (.bool false) (Iw rfl dH rfl) (An rfl (rt (tR (rs ?_))))))
 have uA:=qX.pk []
 obtain rfl:_=false:=hr.symm.trans (et (ah aV) (et (ah aX) (et (iN aP) (ip dH))))
 exact⟨rfl,uA⟩
 refine Sz dH (Sz dH (fw (.bool false) (Ih rfl dH rfl) (An rfl (rt (tR (rs ?_))))))
 have uB:=qX.pk []
 obtain rfl:_=false:=hr.symm.trans (et (ah aV) (et (ah aX) (et (iN aP) (gm dH))))
 exact⟨rfl,uB⟩
end Go.Proofs.YtbkagebjhbphaaaGreat
