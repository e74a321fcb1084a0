/-
 coord: the chapter's examples.
-/
import Derived.Test.YtbkagebjhbphaaaGreatCoN
namespace Go.Proofs.YtbkagebjhbphaaaGreat
open Int renaming toNat→C6
open IntKind renaming u64→C7
open List renaming flatMap→q4,getD→B8,length→s0,length_replicate→H0,mem_flatMap→Q6,mem_of_getElem?→D1,not_mem_nil→v7,replicate→r7,toArray→v6
open Ll renaming mk→E0
open Sv renaming mk→G3
open _root_.Go.Proofs.Tryz renaming call13→U2,isAgg28→D2,isAgg3→C2,isAgg33→U0,isAgg4→N6,isAgg42→N8,isAgg45→U3,sizeOf28→O0,sizeOf33→H2,sizeOf42→N9,sizeOf47→T5
set_option maxRecDepth 100000
open Go.RowKit
set_option linter.unusedVariables false
set_option linter.unusedSectionVars false
set_option linter.unusedSimpArgs false
def uY:Bool:=
 bnd (gq (bZ.mk 2 0 0 1 (E0 ([(aM.mk ([]) 1),(aM.mk ([109]) 2)])) (E0 ([])) (E0 ([])))) fun n=>if n=0 then bnd (iq (bZ.mk 2 0 0 1 (E0 ([(aM.mk ([]) 1),(aM.mk ([109]) 2)])) (E0 ([])) (E0 ([])))) fun a=>bnd ((aD.mk (bZ.mk a.au (C6 (C7.wrap (((a.ax:Nat):Int)+1))) (fQ (C6 (C7.wrap (((a.ax:Nat):Int)+1))) 32) a.aF (E0 a.ag.ls) (E0 a.ak.ls) (E0 a.aK.ls)) 0 (E0 ([])) (dU.mk false 0 0 (E0 ([]))) (dU.mk false 0 0 (E0 ([]))) (dU.mk false 0 0 (E0 ([]))) (dU.mk false 0 0 (E0 ([]))) (dU.mk false 0 0 (E0 ([]))) 0 0 0 0 0)) fun o=>bnd (dY o (bW.mk 1 11 0 0 0 0 1 1 0 0 0 0 0 0 0 false (aL.mk ([]) ([])) (E0 ([(aN.mk 2 ([97]) ([49]) ([]) ([]) 0),(aN.mk 2 ([122]) ([50]) ([]) ([]) 0)])) (E0 ([])) (E0 ([])))) fun c=>bnd (dY c.2.2 (bW.mk 4 1 0 0 3 0 0 0 4294967297 0 0 0 0 0 0 false (aL.mk ([]) ([])) (E0 ([])) (E0 (r7 1 (aQ.mk false ([]) (E0 ([]))))) (E0 ([])))) fun d=>bnd (dY d.2.2 (bW.mk 4 2 0 0 3 0 0 0 4294967297 0 0 0 0 0 0 false (aL.mk ([]) ([])) (E0 ([])) (E0 (r7 1 (aQ.mk false ([]) (E0 ([]))))) (E0 ([])))) fun b=>bnd (dY b.2.2 (bW.mk 1 11 0 0 0 0 1 1 0 0 0 0 0 0 0 false (aL.mk ([]) ([])) (E0 ([(aN.mk 2 ([97]) ([49]) ([]) ([]) 0),(aN.mk 2 ([122]) ([50]) ([]) ([]) 0)])) (E0 ([])) (E0 ([])))) fun e=>bnd (dY e.2.2 (bW.mk 1 11 0 0 0 0 1 0 0 0 0 0 0 0 0 false (aL.mk ([]) ([])) (E0 ([(aN.mk 2 ([97]) ([49]) ([]) ([]) 0),(aN.mk 2 ([122]) ([50]) ([]) ([]) 0)])) (E0 ([])) (E0 ([])))) fun f=>bnd (dY f.2.2 (bW.mk 7 1 0 0 0 0 0 0 99 0 0 0 0 0 0 false (aL.mk ([]) ([])) (E0 ([])) (E0 ([])) (E0 ([])))) fun g=>if((c.1.cz.ls.length:Nat):Int)=2 then bnd (B8 c.1.cz.ls 1 default) fun h=>if h.av=3 then if((h.aX:Nat):Int)=4294967297 then if((d.1.cz.ls.length:Nat):Int)=0 then if d.1.jo=true then false else if((b.1.cz.ls.length:Nat):Int)=3 then bnd (B8 b.1.cz.ls 0 default) fun i=>if i.dK=1 then bnd (B8 b.1.cz.ls 2 default) fun j=>if j.fe=true then if b.1.jo=true then if((e.1.cz.ls.length:Nat):Int)=1 then bnd (B8 e.1.cz.ls 0 default) fun k=>if k.dK=1 then if((f.1.cz.ls.length:Nat):Int)=1 then bnd (B8 f.1.cz.ls 0 default) fun l=>if l.dK=2 then if((g.1.cz.ls.length:Nat):Int)=1 then bnd (B8 g.1.cz.ls 0 default) fun m=> !m.fe else false else false else false else false else false else false else false else false else false else false else false else false else false else false
set_option maxHeartbeats 4000000 in
theorem Bp (w D r0) (H:Own w D w []) (hr:uY=r0):
    Calls Tryz.prog 7 #[] w (dA fun v w'=>v= .bool r0∧Own w D w' []):=by
 refine cb Tryz.func7 ?_
 refine sr (Ar rfl ?_)
 refine WL.do rfl (IP Tryz.call9 rfl ?_ (fun _ _ k=>k))
 refine cb Tryz.func9 ?_
 refine sr ?_
 refine dn [vI 0, .int .u64 0, .int .u64 0, .int .u64 0, .slice none 0 0, .slice none 0 0, .slice none 0 0] 33 H ?_
 intro mg mh jc
 refine ns (Kz (.agg #[.string ⟨v6 ([])⟩,vI 1]) (Kz (.agg #[.string ⟨v6 ([109])⟩,vI 2]) ?_))
 refine jV [.string ⟨v6 ([])⟩,vI 1, .string ⟨v6 ([109])⟩,vI 2] 89 2 2 jc ?_
 intro aX mi ed
 replace ed:=IX (y:=row aX 2 2 (q4 aM.cells ([(aM.mk ([]) 1),(aM.mk ([109]) 2)])) 89 2) rfl ed
 refine Kz (.agg #[vI 2, .int .u64 0, .int .u64 0, .int .u64 1, .slice aX 2 2, .slice none 0 0, .slice none 0 0]) ?_
 have jd:=ed.pb [0]
 refine df [vI 2, .int .u64 0, .int .u64 0, .int .u64 1, .slice aX 2 2, .slice none 0 0, .slice none 0 0] 0 jd H2 ?_
 intro mo fH
 refine nt (rt (Fin.res (oo rfl rfl (IJ (cs:= [vI 2, .int .u64 0, .int .u64 0, .int .u64 1, .slice aX 2 2, .slice none 0 0, .slice none 0 0]) U0 H2 ((fH.cls (i:=0) rfl).lit (k:=0) (m:=7) rfl))) ?_))
 refine WL.do rfl (IP Tryz.call8 rfl ?_ (fun _ _ k=>k))
 refine cb Tryz.func8 ?_
 refine Ik ?_
 have je:=fH.pk [1]
 refine Il ?_
 refine dn [vI 2, .int .u64 0, .int .u64 0, .int .u64 1, .slice aX 2 2, .slice none 0 0, .slice none 0 0] 33 je ?_
 intro jg mq fI
 refine Az rfl (An rfl (Ik (sr (La ([vI 2, .int .u64 0, .int .u64 0, .int .u64 1, .slice aX 2 2, .slice none 0 0, .slice none 0 0]) fI 0 U0 H2 ?_))))
 obtain⟨cO,F⟩:∃ q,gq (bZ.mk 2 0 0 1 (E0 ([(aM.mk ([]) 1),(aM.mk ([109]) 2)])) (E0 ([])) (E0 ([])))=q:=⟨_,rfl⟩
 obtain⟨mr,fJ,kS,fK,fM⟩:=Iu fI
 refine cl Tryz.call19 (oC _ _ (bZ.mk 2 0 0 1 (E0 ([(aM.mk ([]) 1),(aM.mk ([109]) 2)])) (E0 ([])) (E0 ([]))) aX 2 2 none 0 0 [] none 0 0 [] cO fJ rfl (fM _ 1 _ rfl aW) f3 rfl rfl (fun _ _=>aY.nil _ _ _) f3 (fun _ h9=>absurd h9 v7) rfl rfl (fun _ _=>aY.nil _ _ _) f3 (fun _ h9=>absurd h9 v7) e8 F) ?_
 rintro _ mD ⟨rfl,fO⟩
 have cZ:=fK _ _ fO
 refine fw (.bool (decide (¬ (cO=0)))) (IM (e:= !(decide (cO=0))) yk decide_not.symm) (Mz rfl ?_)
 by_cases O:cO=0
 refine gw (vP jg 1) (dF (Lr O)) yk (gw (.int .u64 0) (dF (Lr O)) (IB rfl (bJ.one D2 (I1 (cZ.cls (i:=0) rfl) rfl))) (gw (.bool false) (dF (Lr O)) yk (fw (.bool false) (Io rfl (dF (Lr O)) rfl) (nt (jf (sk (sr (La ([vI 2, .int .u64 0, .int .u64 0, .int .u64 1, .slice aX 2 2, .slice none 0 0, .slice none 0 0]) cZ 0 U0 H2 ?_))))))))
 obtain⟨f,G⟩:∃ q,iq (bZ.mk 2 0 0 1 (E0 ([(aM.mk ([]) 1),(aM.mk ([109]) 2)])) (E0 ([])) (E0 ([])))=q:=⟨_,rfl⟩
 obtain⟨mE,fT,kT,fU,fV⟩:=Iu cZ
 refine cl Tryz.call20 (oO _ _ (bZ.mk 2 0 0 1 (E0 ([(aM.mk ([]) 1),(aM.mk ([109]) 2)])) (E0 ([])) (E0 ([]))) aX 2 2 none 0 0 [] none 0 0 [] f fT rfl (fV _ 1 _ rfl aW) f3 rfl rfl (fun _ _=>aY.nil _ _ _) f3 (fun _ h9=>absurd h9 v7) rfl rfl (fun _ _=>aY.nil _ _ _) f3 (fun _ h9=>absurd h9 v7) e8 (by first | assumption | exact ym f5 | exact fun _ h9=>absurd h9 v7) (by first | assumption | exact yn f5 | exact fun _ h9=>absurd h9 v7) G) ?_
 rintro _ mF ⟨fZ,gm,gp,gu,gy,gz,mG,mH,rfl,gB,dm,dw⟩
 have di:=fU _ _ gB
 have kU:=aA dm
 have kV:=aA dw
 have kW:=di.rowC (i:=0) rfl
 have kX:=di.rowC (i:=1) rfl
 have kY:=di.rowC (i:=3) rfl
 have kZ:f.ag.ls.length=2∧f.au=2∧f.ak.ls.length=0∧f.aK.ls.length=0:=Fv G
 refine Kz (.agg #[vI f.au,vU f.ax,vU f.bG,vU f.aF, .slice fZ f.ag.ls.length gm, .slice gp f.ak.ls.length gu, .slice gy f.aK.ls.length gz, .int .u64 0, .slice none 0 0, .bool false, .int .u64 0,vI 0, .slice none 0 0, .bool false, .int .u64 0,vI 0, .slice none 0 0, .bool false, .int .u64 0,vI 0, .slice none 0 0, .bool false, .int .u64 0,vI 0, .slice none 0 0, .bool false, .int .u64 0,vI 0, .slice none 0 0, .int .u64 0, .int .u64 0, .int .u64 0, .int .u64 0, .int .u64 0, .pointer none]) ?_
 refine dn [vI f.au,vU f.ax,vU f.bG,vU f.aF, .slice fZ f.ag.ls.length gm, .slice gp f.ak.ls.length gu, .slice gy f.aK.ls.length gz, .int .u64 0, .slice none 0 0, .bool false, .int .u64 0,vI 0, .slice none 0 0, .bool false, .int .u64 0,vI 0, .slice none 0 0, .bool false, .int .u64 0,vI 0, .slice none 0 0, .bool false, .int .u64 0,vI 0, .slice none 0 0, .bool false, .int .u64 0,vI 0, .slice none 0 0, .int .u64 0, .int .u64 0, .int .u64 0, .int .u64 0, .int .u64 0, .pointer none] 86 di ?_
 intro U mI jh
 refine An rfl (Ik ?_)
 have gD:=jh.px [] [6] []
 refine Il (Mz rfl (Kz (vP U 0) (Kz (vP U 0) (Kz (vP U 1) (Lz (vU f.ax) gD 0 D2 (fw (.int .u64 ((C6 (C7.wrap (((f.ax:Nat):Int)+1)):Nat):Int)) (Ir (e:=C7.wrap (((f.ax:Nat):Int)+1)) yk (fB _)) (Kz (vP U 0) (Kz (vP U 0) (Kz (vP U 1) ?_)))))))))
 refine df [.int .u64 ((C6 (C7.wrap (((f.ax:Nat):Int)+1)):Nat):Int)] 1 gD O0 ?_
 intro mJ gF
 refine ns (Mz rfl (Mz rfl (Kz (vP U 0) (Kz (vP U 0) (Kz (vP U 1) (Lz (.int .u64 ((C6 (C7.wrap (((f.ax:Nat):Int)+1)):Nat):Int)) gF 0 D2 ?_))))))
 have lc:fQ (C6 (C7.wrap (((f.ax:Nat):Int)+1))) 32≤18446744073709551615:=pq _ _
 refine fw (.int .u64 ((fQ (C6 (C7.wrap (((f.ax:Nat):Int)+1))) 32:Nat):Int)) (Ir (JO (m:=32) rfl rfl) (fB _)) (Kz (vP U 0) (Kz (vP U 0) (Kz (vP U 2) ?_)))
 refine df [.int .u64 ((fQ (C6 (C7.wrap (((f.ax:Nat):Int)+1))) 32:Nat):Int)] 2 gF O0 ?_
 intro aB ji
 refine ns (Mz rfl (Az rfl (An rfl (rt (Fin.res (lH rfl rfl rfl) ?_)))))
 have jk:Own w D aB (sepL (q4 bK.own ([]))::_):=ji.sepNil
 have jl:Own w D aB (row none 0 0 (q4 bK.cells ([])) 107 9::_):=jk.free (eP 107 9)
 have jm:Own w D aB (sepL (q4 af.own ([]))::_):=jl.sepNil
 have jo:Own w D aB (row none 0 0 (q4 af.cells ([])) 149 3::_):=jm.free (eP 149 3)
 have jq:Own w D aB (sepL (q4 af.own ([]))::_):=jo.sepNil
 have jr:Own w D aB (row none 0 0 (q4 af.cells ([])) 149 3::_):=jq.free (eP 149 3)
 have jv:Own w D aB (sepL (q4 af.own ([]))::_):=jr.sepNil
 have jw:Own w D aB (row none 0 0 (q4 af.cells ([])) 149 3::_):=jv.free (eP 149 3)
 have jy:Own w D aB (sepL (q4 af.own ([]))::_):=jw.sepNil
 have jA:Own w D aB (row none 0 0 (q4 af.cells ([])) 149 3::_):=jy.free (eP 149 3)
 have jB:Own w D aB (sepL (q4 af.own ([]))::_):=jA.sepNil
 have jC:Own w D aB (row none 0 0 (q4 af.cells ([])) 149 3::_):=jB.free (eP 149 3)
 have jD:=jC.pf [12,13,14,15,16,17,10,11]
 have jE:Own w D aB (jZ U (aD.mk (bZ.mk f.au (C6 (C7.wrap (((f.ax:Nat):Int)+1))) (fQ (C6 (C7.wrap (((f.ax:Nat):Int)+1))) 32) f.aF (E0 f.ag.ls) (E0 f.ak.ls) (E0 f.aK.ls)) 0 (E0 ([])) (dU.mk false 0 0 (E0 ([]))) (dU.mk false 0 0 (E0 ([]))) (dU.mk false 0 0 (E0 ([]))) (dU.mk false 0 0 (E0 ([]))) (dU.mk false 0 0 (E0 ([]))) 0 0 0 0 0)::_):=iK dm dw rfl rfl rfl rfl rfl rfl jD
 obtain⟨aJ,I⟩:∃ q,(aD.mk (bZ.mk f.au (C6 (C7.wrap (((f.ax:Nat):Int)+1))) (fQ (C6 (C7.wrap (((f.ax:Nat):Int)+1))) 32) f.aF (E0 f.ag.ls) (E0 f.ak.ls) (E0 f.aK.ls)) 0 (E0 ([])) (dU.mk false 0 0 (E0 ([]))) (dU.mk false 0 0 (E0 ([]))) (dU.mk false 0 0 (E0 ([]))) (dU.mk false 0 0 (E0 ([]))) (dU.mk false 0 0 (E0 ([]))) 0 0 0 0 0)=q:=⟨_,rfl⟩
 have jF:Own w D aB [jZ U aJ,row aX 2 2 (q4 aM.cells ([(aM.mk ([]) 1),(aM.mk ([109]) 2)])) 89 2]:=by rw [← I]; exact jE
 have lg:Mk aJ:=Gm f5 f5
 have lh:aJ.aa.ag.ls.length≤1000∧aJ.aa.au≤4∧aJ.aC.ls.length+aJ.aa.ak.ls.length≤8∧aJ.aa.aK.ls.length≤0:=Es f5 f5
 refine Mz rfl (Kz (vP U 0) (Kz (vI 0) (Az rfl (An rfl (Ik (Ik ?_))))))
 have jG:=jF.pk [0]
 refine Il (Mz rfl (Kz (.bool false) (Mz rfl (gw (vI 0) rfl (IA rfl) (Gz (.bool false) rfl (fw (.bool false) (Io rfl rfl rfl) (nt (jf (sk (sr (Kz (.agg #[vI 2, .string ⟨v6 ([97])⟩, .string ⟨v6 ([49])⟩, .string ⟨v6 ([])⟩, .string ⟨v6 ([])⟩,vI 0]) (Kz (.agg #[vI 2, .string ⟨v6 ([122])⟩, .string ⟨v6 ([50])⟩, .string ⟨v6 ([])⟩, .string ⟨v6 ([])⟩,vI 0]) ?_))))))))))))
 refine jV [vI 2, .string ⟨v6 ([97])⟩, .string ⟨v6 ([49])⟩, .string ⟨v6 ([])⟩, .string ⟨v6 ([])⟩,vI 0,vI 2, .string ⟨v6 ([122])⟩, .string ⟨v6 ([50])⟩, .string ⟨v6 ([])⟩, .string ⟨v6 ([])⟩,vI 0] 72 6 2 jG ?_
 intro aC ll bE
 replace bE:=IX (y:=row aC 2 2 (q4 aN.cells ([(aN.mk 2 ([97]) ([49]) ([]) ([]) 0),(aN.mk 2 ([122]) ([50]) ([]) ([]) 0)])) 72 6) rfl bE
 refine Kz (.agg (iA 1 11 0 0 0 0 1 1 0 0 0 0 0 0 0 false ([]) ([]) aC 2 2 none 0 0 none 0 0).toArray) ?_
 refine dn (iA 0 0 0 0 0 0 0 0 0 0 0 0 0 0 0 false ([]) ([]) none 0 0 none 0 0 none 0 0) 42 bE ?_
 intro gG lm gH
 refine df (iA 1 11 0 0 0 0 1 1 0 0 0 0 0 0 0 false ([]) ([]) aC 2 2 none 0 0 none 0 0) 0 gH N9 ?_
 intro lq dx
 refine ns (Mz rfl (La (iA 1 11 0 0 0 0 1 1 0 0 0 0 0 0 0 false ([]) ([]) aC 2 2 none 0 0 none 0 0) dx 0 N8 N9 ?_))
 have gI:=dx.pf [2]
 obtain⟨⟨aj,dz,Z⟩,l⟩:∃ q:kG × Int × aD,dY aJ (bW.mk 1 11 0 0 0 0 1 1 0 0 0 0 0 0 0 false (aL.mk ([]) ([])) (E0 ([(aN.mk 2 ([97]) ([49]) ([]) ([]) 0),(aN.mk 2 ([122]) ([50]) ([]) ([]) 0)])) (E0 ([])) (E0 ([])))=q:=⟨_,rfl⟩
 obtain⟨lu,ek,jH,eu,eB⟩:=IZ gI
 refine cl U2 (jI _ _ U aJ (bW.mk 1 11 0 0 0 0 1 1 0 0 0 0 0 0 0 false (aL.mk ([]) ([])) (E0 ([(aN.mk 2 ([97]) ([49]) ([]) ([]) 0),(aN.mk 2 ([122]) ([50]) ([]) ([]) 0)])) (E0 ([])) (E0 ([]))) aC 2 2 none 0 0 [] none 0 0 aj dz Z ek rfl (eB _ 1 _ rfl aW) f3 rfl rfl (fun _ _=>aY.nil _ _ _) f3 (fun _ h9=>absurd h9 v7) rfl (fun _ _=>aY.nil _ _ _) f3 f8 f5 l) ?_
 rintro _ lv ⟨V,bg,gJ,rfl,eD,bF,bG,bH⟩
 have dB:=eu _ _ eD
 have jJ:=aA bF
 have jK:=dB.rowC (i:=0) rfl
 replace bG:Z.aa.ag.ls.length=aJ.aa.ag.ls.length∧Z.aa.au=aJ.aa.au∧Z.aC.ls.length+Z.aa.ak.ls.length≤8∧Z.aa.aK.ls.length≤aJ.aa.aK.ls.length+1:=bG
 replace bH:Mk Z:=bH
 refine Mz rfl (Kz (.agg #[.slice V aj.cz.ls.length bg, .bool aj.jo]) (Kz (vI dz) ?_))
 refine dn [.slice none 0 0, .bool false] 47 dB ?_
 intro bI lw gK
 refine df [.slice V aj.cz.ls.length bg, .bool aj.jo] 0 gK T5 ?_
 intro lC gL
 refine Ar rfl ?_
 refine WL.do rfl (Jt (x0:=(af.mk false ([]) (G3 none 0 ([])))) (z:= .agg #[.bool false, .string ⟨v6 ([])⟩, .slice none 0 0]) (k:=1) (size:=3) (bytes:=48) af.len f2 rfl Tryz.underlying40 e7 gL rfl rfl e6 (by unfold maxLen; omega) ?_)
 intro aZ gM gN
 have bf:List.map af.abs (r7 1 (af.mk false ([]) (G3 none 0 ([]))))=(r7 1 (aQ.mk false ([]) (E0 ([])))):=List.map_replicate
 have gP:Own w D gM (sepL (q4 af.own (r7 1 (af.mk false ([]) (G3 none 0 ([])))))::_):=gN.free (uQ (wX (eP 153 2)))
 have jL:s0 (r7 1 (af.mk false ([]) (G3 none 0 ([]))))=1:=H0
 have jM:s0 (r7 1 (aQ.mk false ([]) (E0 ([]))))=1:=H0
 refine Kz (.agg (iA 4 1 0 0 3 0 0 0 4294967297 0 0 0 0 0 0 false ([]) ([]) none 0 0 aZ 1 1 none 0 0).toArray) ?_
 refine dn (iA 0 0 0 0 0 0 0 0 0 0 0 0 0 0 0 false ([]) ([]) none 0 0 none 0 0 none 0 0) 42 gP ?_
 intro gQ lD gT
 refine df (iA 4 1 0 0 3 0 0 0 4294967297 0 0 0 0 0 0 false ([]) ([]) none 0 0 aZ 1 1 none 0 0) 0 gT N9 ?_
 intro lF dC
 refine ns (Mz rfl (La (iA 4 1 0 0 3 0 0 0 4294967297 0 0 0 0 0 0 false ([]) ([]) none 0 0 aZ 1 1 none 0 0) dC 0 N8 N9 ?_))
 have dD:=dC.pf [6]
 obtain⟨⟨T,dE,aa⟩,n⟩:∃ q:kG × Int × aD,dY Z (bW.mk 4 1 0 0 3 0 0 0 4294967297 0 0 0 0 0 0 false (aL.mk ([]) ([])) (E0 ([])) (E0 (r7 1 (aQ.mk false ([]) (E0 ([]))))) (E0 ([])))=q:=⟨_,rfl⟩
 obtain⟨lG,eF,jN,eG,bL⟩:=IZ dD
 refine cl U2 (jI _ _ U Z (bW.mk 4 1 0 0 3 0 0 0 4294967297 0 0 0 0 0 0 false (aL.mk ([]) ([])) (E0 ([])) (E0 (r7 1 (aQ.mk false ([]) (E0 ([]))))) (E0 ([]))) none 0 0 aZ 1 1 (r7 1 (af.mk false ([]) (G3 none 0 ([])))) none 0 0 T dE aa eF rfl (fun _ _=>aY.nil _ _ _) f3 bf f1 (fun w9 h9=>sZ (aA bf) ((bL _ 2 _ rfl aW) w9 h9)) (show s0 (r7 1 (aQ.mk false ([]) (E0 ([]))))≤1∧s0 (r7 1 (aQ.mk false ([]) (E0 ([]))))≤9223372036854775807 from by omega) (fun x9 h9=>⟨bL _ 1 _ rfl (az (Q6.2 ⟨x9,h9,b1⟩) aW),bq (φ:=fun _=>_) dD (i:=2) rfl (az (Q6.2 ⟨x9,h9,b1⟩) bn)⟩) rfl (fun _ _=>aY.nil _ _ _) f3 f8 f5 n) ?_
 rintro _ lI ⟨bM,bN,lJ,rfl,eH,eO,bO,bP⟩
 have dG:=eG _ _ eH
 have jP:=aA eO
 have jQ:=dG.rowC (i:=0) rfl
 replace bO:aa.aa.ag.ls.length=Z.aa.ag.ls.length∧aa.aa.au=Z.aa.au∧aa.aC.ls.length+aa.aa.ak.ls.length≤8∧aa.aa.aK.ls.length≤Z.aa.aK.ls.length+1:=bO
 replace bP:Mk aa:=bP
 refine Mz rfl (Kz (.agg #[.slice bM T.cz.ls.length bN, .bool T.jo]) (Kz (vI dE) ?_))
 refine dn [.slice none 0 0, .bool false] 47 dG ?_
 intro dH lK gV
 refine df [.slice bM T.cz.ls.length bN, .bool T.jo] 0 gV T5 ?_
 intro lL gW
 refine Ar rfl (Kz (vP gQ 1) ?_)
 have gX:=gW.pf [4]
 refine df [vI 2] 1 gX Tryz.sizeOf3 ?_
 intro lM dI
 refine ns (Mz rfl (La (iA 4 2 0 0 3 0 0 0 4294967297 0 0 0 0 0 0 false ([]) ([]) none 0 0 aZ 1 1 none 0 0) dI 0 N8 N9 ?_))
 have dJ:=dI.pf [4]
 obtain⟨⟨P,dK,ag⟩,o⟩:∃ q:kG × Int × aD,dY aa (bW.mk 4 2 0 0 3 0 0 0 4294967297 0 0 0 0 0 0 false (aL.mk ([]) ([])) (E0 ([])) (E0 (r7 1 (aQ.mk false ([]) (E0 ([]))))) (E0 ([])))=q:=⟨_,rfl⟩
 obtain⟨lN,eQ,jS,eT,bQ⟩:=IZ dJ
 refine cl U2 (jI _ _ U aa (bW.mk 4 2 0 0 3 0 0 0 4294967297 0 0 0 0 0 0 false (aL.mk ([]) ([])) (E0 ([])) (E0 (r7 1 (aQ.mk false ([]) (E0 ([]))))) (E0 ([]))) none 0 0 aZ 1 1 (r7 1 (af.mk false ([]) (G3 none 0 ([])))) none 0 0 P dK ag eQ rfl (fun _ _=>aY.nil _ _ _) f3 bf f1 (fun w9 h9=>sZ (aA bf) ((bQ _ 5 _ rfl aW) w9 h9)) (show s0 (r7 1 (aQ.mk false ([]) (E0 ([]))))≤1∧s0 (r7 1 (aQ.mk false ([]) (E0 ([]))))≤9223372036854775807 from by omega) (fun x9 h9=>⟨bQ _ 4 _ rfl (az (Q6.2 ⟨x9,h9,b1⟩) aW),bq (φ:=fun _=>_) dJ (i:=5) rfl (az (Q6.2 ⟨x9,h9,b1⟩) bn)⟩) rfl (fun _ _=>aY.nil _ _ _) f3 f8 f5 o) ?_
 rintro _ lQ ⟨W,bi,dL,rfl,eU,bu,bR,bS⟩
 have dM:=eT _ _ eU
 have jT:=aA bu
 have jU:=dM.rowC (i:=0) rfl
 replace bR:ag.aa.ag.ls.length=aa.aa.ag.ls.length∧ag.aa.au=aa.aa.au∧ag.aC.ls.length+ag.aa.ak.ls.length≤8∧ag.aa.aK.ls.length≤aa.aa.aK.ls.length+1:=bR
 replace bS:Mk ag:=bS
 refine Mz rfl (Kz (.agg #[.slice W P.cz.ls.length bi, .bool P.jo]) (Kz (vI dK) ?_))
 refine dn [.slice none 0 0, .bool false] 47 dM ?_
 intro bA lS gY
 refine df [.slice W P.cz.ls.length bi, .bool P.jo] 0 gY T5 ?_
 intro lT gZ
 refine An rfl (Ik ?_)
 have dN:=gZ.px [] [4,8,9] []
 refine Il (Mz rfl (La (iA 1 11 0 0 0 0 1 1 0 0 0 0 0 0 0 false ([]) ([]) aC 2 2 none 0 0 none 0 0) dN 10 N8 N9 ?_))
 have ib:=dN.pf [3]
 obtain⟨⟨ak,dO,ah⟩,p⟩:∃ q:kG × Int × aD,dY ag (bW.mk 1 11 0 0 0 0 1 1 0 0 0 0 0 0 0 false (aL.mk ([]) ([])) (E0 ([(aN.mk 2 ([97]) ([49]) ([]) ([]) 0),(aN.mk 2 ([122]) ([50]) ([]) ([]) 0)])) (E0 ([])) (E0 ([])))=q:=⟨_,rfl⟩
 obtain⟨lU,eX,jW,eZ,fe⟩:=IZ ib
 refine cl U2 (jI _ _ U ag (bW.mk 1 11 0 0 0 0 1 1 0 0 0 0 0 0 0 false (aL.mk ([]) ([])) (E0 ([(aN.mk 2 ([97]) ([49]) ([]) ([]) 0),(aN.mk 2 ([122]) ([50]) ([]) ([]) 0)])) (E0 ([])) (E0 ([]))) aC 2 2 none 0 0 [] none 0 0 ak dO ah eX rfl (fe _ 10 _ rfl aW) f3 rfl rfl (fun _ _=>aY.nil _ _ _) f3 (fun _ h9=>absurd h9 v7) rfl (fun _ _=>aY.nil _ _ _) f3 f8 f5 p) ?_
 rintro _ lV ⟨aG,bB,ic,rfl,fo,bT,bU,bV⟩
 have dP:=eZ _ _ fo
 have jX:=aA bT
 have jY:=dP.rowC (i:=0) rfl
 replace bU:ah.aa.ag.ls.length=ag.aa.ag.ls.length∧ah.aa.au=ag.aa.au∧ah.aC.ls.length+ah.aa.ak.ls.length≤8∧ah.aa.aK.ls.length≤ag.aa.aK.ls.length+1:=bU
 replace bV:Mk ah:=bV
 refine Mz rfl (Kz (.agg #[.slice aG ak.cz.ls.length bB, .bool ak.jo]) (Kz (vI dO) ?_))
 refine dn [.slice none 0 0, .bool false] 47 dP ?_
 intro dQ lW ig
 refine df [.slice aG ak.cz.ls.length bB, .bool ak.jo] 0 ig T5 ?_
 intro lX ik
 refine Ar rfl (Kz (vP gG 7) ?_)
 have il:=ik.pf [13]
 refine df [.int .u64 0] 7 il O0 ?_
 intro lY dR
 refine ns (Mz rfl (La (iA 1 11 0 0 0 0 1 0 0 0 0 0 0 0 0 false ([]) ([]) aC 2 2 none 0 0 none 0 0) dR 0 N8 N9 ?_))
 have iw:=dR.pf [4]
 obtain⟨⟨au,dS,ai⟩,r⟩:∃ q:kG × Int × aD,dY ah (bW.mk 1 11 0 0 0 0 1 0 0 0 0 0 0 0 0 false (aL.mk ([]) ([])) (E0 ([(aN.mk 2 ([97]) ([49]) ([]) ([]) 0),(aN.mk 2 ([122]) ([50]) ([]) ([]) 0)])) (E0 ([])) (E0 ([])))=q:=⟨_,rfl⟩
 obtain⟨lZ,fq,j3,fu,fA⟩:=IZ iw
 refine cl U2 (jI _ _ U ah (bW.mk 1 11 0 0 0 0 1 0 0 0 0 0 0 0 0 false (aL.mk ([]) ([])) (E0 ([(aN.mk 2 ([97]) ([49]) ([]) ([]) 0),(aN.mk 2 ([122]) ([50]) ([]) ([]) 0)])) (E0 ([])) (E0 ([]))) aC 2 2 none 0 0 [] none 0 0 au dS ai fq rfl (fA _ 13 _ rfl aW) f3 rfl rfl (fun _ _=>aY.nil _ _ _) f3 (fun _ h9=>absurd h9 v7) rfl (fun _ _=>aY.nil _ _ _) f3 f8 f5 r) ?_
 rintro _ l5 ⟨aH,bC,iy,rfl,fC,bX,bY,cu⟩
 have dV:=fu _ _ fC
 have j4:=aA bX
 have j5:=dV.rowC (i:=0) rfl
 replace bY:ai.aa.ag.ls.length=ah.aa.ag.ls.length∧ai.aa.au=ah.aa.au∧ai.aC.ls.length+ai.aa.ak.ls.length≤8∧ai.aa.aK.ls.length≤ah.aa.aK.ls.length+1:=bY
 replace cu:Mk ai:=cu
 refine Mz rfl (Kz (.agg #[.slice aH au.cz.ls.length bC, .bool au.jo]) (Kz (vI dS) ?_))
 refine dn [.slice none 0 0, .bool false] 47 dV ?_
 intro dW l6 iB
 refine df [.slice aH au.cz.ls.length bC, .bool au.jo] 0 iB T5 ?_
 intro l7 iC
 refine An rfl (Ik ?_)
 have iD:=iC.px [] [4,17] []
 refine Il (Mz rfl (Kz (.agg (iA 7 1 0 0 0 0 0 0 99 0 0 0 0 0 0 false ([]) ([]) none 0 0 none 0 0 none 0 0).toArray) ?_))
 have iE:=iD.pf [3]
 obtain⟨⟨av,dX,aK⟩,s⟩:∃ q:kG × Int × aD,dY ai (bW.mk 7 1 0 0 0 0 0 0 99 0 0 0 0 0 0 false (aL.mk ([]) ([])) (E0 ([])) (E0 ([])) (E0 ([])))=q:=⟨_,rfl⟩
 obtain⟨l8,fD,j6,fE,kg⟩:=IZ iE
 refine cl U2 (jI _ _ U ai (bW.mk 7 1 0 0 0 0 0 0 99 0 0 0 0 0 0 false (aL.mk ([]) ([])) (E0 ([])) (E0 ([])) (E0 ([]))) none 0 0 none 0 0 [] none 0 0 av dX aK fD rfl (fun _ _=>aY.nil _ _ _) f3 rfl rfl (fun _ _=>aY.nil _ _ _) f3 (fun _ h9=>absurd h9 v7) rfl (fun _ _=>aY.nil _ _ _) f3 f8 f5 s) ?_
 rintro _ l9 ⟨aI,bD,iF,rfl,fF,cz,cB,cK⟩
 have dZ:=fE _ _ fF
 have ko:=aA cz
 have kr:=dZ.rowC (i:=0) rfl
 replace cB:aK.aa.ag.ls.length=ai.aa.ag.ls.length∧aK.aa.au=ai.aa.au∧aK.aC.ls.length+aK.aa.ak.ls.length≤8∧aK.aa.aK.ls.length≤ai.aa.aK.ls.length+1:=cB
 replace cK:Mk aK:=cK
 refine Mz rfl (Kz (.agg #[.slice aI av.cz.ls.length bD, .bool av.jo]) (Kz (vI dX) ?_))
 refine dn [.slice none 0 0, .bool false] 47 dZ ?_
 intro d9 ma iG
 refine df [.slice aI av.cz.ls.length bD, .bool av.jo] 0 iG T5 ?_
 intro mf iH
 refine An rfl (Ik ?_)
 have a:=iH.px [] [3] []
 refine Il (Kz (vP bI 0) (Lz (.slice V aj.cz.ls.length bg) a 15 U3 (Kz (vJ aj.cz.ls.length) (Kz (.bool (decide (((aj.cz.ls.length:Nat):Int)=2))) (Mz rfl ?_)))))
 by_cases b:((aj.cz.ls.length:Nat):Int)=2
 refine Gz (vP bI 0) (dT b) (Gl (.slice V aj.cz.ls.length bg) (dT b) a 15 U3 ?_)
 obtain⟨u,aF⟩:=dh (ls:=gJ) (i:=1) bz.len f2 (a.rds (i:=16) rfl) e9
 have B:=eY bF aF
 have ku:u.aB.ls.length≤u.aB.c∧u.aB.ls.length≤9223372036854775807:=bq a (i:=17) rfl (φ:=fun _=>_) (az (Q6.2 ⟨u,D1 aF,b1⟩) bn)
 have kv:u.ah.ls.length≤u.ah.c∧u.ah.ls.length≤9223372036854775807:=bq a (i:=17) rfl (φ:=fun _=>_) (az (Q6.2 ⟨u,D1 aF, .tail _ b1⟩) bn)
 have kw:u.ag.ls.length≤u.ag.c∧u.ag.ls.length≤9223372036854775807:=bq a (i:=17) rfl (φ:=fun _=>_) (az (Q6.2 ⟨u,D1 aF, .tail _ b2⟩) bn)
 refine gw (.pointer (some ⟨ab V,ao V+1 *21,none⟩)) (dT b) (Iz (rY) rfl rfl ((a.rds (i:=16) rfl).addr (i:=1) e6) e6) (Gz (.pointer (some ⟨ab V,ao V+1 *21,none⟩)) (dT b) (gw (vI u.av) (dT b) (IB rfl (bJ.one C2 (((a.rds (i:=16) rfl).elem bz.len aF f2).at_ (k:=0) rfl))) (Gz (.bool (decide (u.av=3))) (dT b) (fw (.bool (decide (u.av=3))) (Iw rfl (dT b) rfl) (Mz rfl ?_)))))
 by_cases d:u.av=3
 refine Gz (vP bI 0) (dT d) (Gl (.slice V aj.cz.ls.length bg) (dT d) a 15 U3 (gw (.pointer (some ⟨ab V,ao V+1 *21,none⟩)) (dT d) (Iz (rY) rfl rfl ((a.rds (i:=16) rfl).addr (i:=1) e6) e6) (Gz (.pointer (some ⟨ab V,ao V+1 *21+8,none⟩)) (dT d) (gw (vU u.aX) (dT d) (IB rfl (bJ.one D2 (((a.rds (i:=16) rfl).elem bz.len aF f2).at_ (k:=8) rfl))) (Gz (.bool (decide (((u.aX:Nat):Int)=4294967297))) (dT d) (fw (.bool (decide (((u.aX:Nat):Int)=4294967297))) (Iw rfl (dT d) rfl) (Mz rfl ?_)))))))
 by_cases h:((u.aX:Nat):Int)=4294967297
 refine Gz (vP dH 0) (dT h) (Gl (.slice bM T.cz.ls.length bN) (dT h) a 12 U3 (Gz (vJ T.cz.ls.length) (dT h) (Gz (.bool (decide (((T.cz.ls.length:Nat):Int)=0))) (dT h) (fw (.bool (decide (((T.cz.ls.length:Nat):Int)=0))) (Iw rfl (dT h) rfl) (Mz rfl ?_)))))
 by_cases x:((T.cz.ls.length:Nat):Int)=0
 refine Gz (vP dH 1) (dT x) (Gl (.bool T.jo) (dT x) a 12 N6 (Gz (.bool (!T.jo)) (dT x) (fw (.bool (!T.jo)) (Iw rfl (dT x) rfl) (Mz rfl ?_))))
 rcases Ls (T.jo) with j | j
 refine Sz (cn j) (Sz (cn j) (Sz (cn j) (Sz (cn j) (fw (.bool false) (Io rfl (cn j) rfl) (Mz rfl (Sz rfl (Sz rfl (Sz rfl (Sz rfl (Sz rfl (Sz rfl (fw (.bool false) (Io rfl rfl rfl) (Mz rfl (Sz rfl (Sz rfl (Sz rfl (Sz rfl (Sz rfl (fw (.bool false) (Io rfl rfl rfl) (Mz rfl (Sz rfl (Sz rfl (fw (.bool false) (Io rfl rfl rfl) (Mz rfl (Sz rfl (Sz rfl (Sz rfl (Sz rfl (fw (.bool false) (Io rfl rfl rfl) (Mz rfl (Sz rfl (Sz rfl (Sz rfl (Sz rfl (Sz rfl (Sz rfl (fw (.bool false) (Io rfl rfl rfl) (Mz rfl (Sz rfl ?_)))))))))))))))))))))))))))))))))))))))
 refine Sz rfl (Sz rfl (Sz rfl (fw (.bool false) (Io rfl rfl rfl) (Mz rfl (Sz rfl (Sz rfl (Sz rfl (Sz rfl (Sz rfl (Sz rfl (fw (.bool false) (Io rfl rfl rfl) (Mz rfl (Sz rfl (Sz rfl (Sz rfl (Sz rfl (fw (.bool false) (Io rfl rfl rfl) (Mz rfl (Sz rfl (Sz rfl (Sz rfl (Sz rfl (Sz rfl (Sz rfl (fw (.bool false) (Io rfl rfl rfl) (An rfl (rt (rs ?_))))))))))))))))))))))))))))
 have iI:=a.pk []
 obtain rfl:_=false:=hr.symm.trans (et (ae F) (et (ip O) (et (ae G) (et (ae I) (et (ae l) (et (ae n) (et (ae o) (et (ae p) (et (ae r) (et (ae s) (et (ip b) (et (ae (aT B)) (et (ip d) (et (ip h) (et (ip x) (ip j))))))))))))))))
 exact⟨rfl,iI⟩
 refine Gz (vP bA 0) (cn j) (Gl (.slice W P.cz.ls.length bi) (cn j) a 9 U3 (Gz (vJ P.cz.ls.length) (cn j) (Gz (.bool (decide (((P.cz.ls.length:Nat):Int)=3))) (cn j) (fw (.bool (decide (((P.cz.ls.length:Nat):Int)=3))) (Iw rfl (cn j) rfl) (Mz rfl ?_)))))
 by_cases g:((P.cz.ls.length:Nat):Int)=3
 refine Gz (vP bA 0) (dT g) (Gl (.slice W P.cz.ls.length bi) (dT g) a 9 U3 ?_)
 obtain⟨J,aO⟩:=dh (ls:=dL) (i:=0) bz.len f2 (a.rds (i:=10) rfl) e9
 have Y:=eY bu aO
 have ky:J.aB.ls.length≤J.aB.c∧J.aB.ls.length≤9223372036854775807:=bq a (i:=11) rfl (φ:=fun _=>_) (az (Q6.2 ⟨J,D1 aO,b1⟩) bn)
 have kz:J.ah.ls.length≤J.ah.c∧J.ah.ls.length≤9223372036854775807:=bq a (i:=11) rfl (φ:=fun _=>_) (az (Q6.2 ⟨J,D1 aO, .tail _ b1⟩) bn)
 have kC:J.ag.ls.length≤J.ag.c∧J.ag.ls.length≤9223372036854775807:=bq a (i:=11) rfl (φ:=fun _=>_) (az (Q6.2 ⟨J,D1 aO, .tail _ b2⟩) bn)
 refine gw (.pointer (some ⟨ab W,ao W+0 *21,none⟩)) (dT g) (Iz (rY) rfl rfl ((a.rds (i:=10) rfl).addr (i:=0) e6) e6) (Gz (.pointer (some ⟨ab W,ao W+0 *21+4,none⟩)) (dT g) (gw (vI J.dK) (dT g) (IB rfl (bJ.one C2 (((a.rds (i:=10) rfl).elem bz.len aO f2).at_ (k:=4) rfl))) (Gz (.bool (decide (J.dK=1))) (dT g) (fw (.bool (decide (J.dK=1))) (Iw rfl (dT g) rfl) (Mz rfl ?_)))))
 by_cases t:J.dK=1
 refine Gz (vP bA 0) (dT t) (Gl (.slice W P.cz.ls.length bi) (dT t) a 9 U3 ?_)
 obtain⟨Q,aP⟩:=dh (ls:=dL) (i:=2) bz.len f2 (a.rds (i:=10) rfl) e9
 have ax:=eY bu aP
 have kD:Q.aB.ls.length≤Q.aB.c∧Q.aB.ls.length≤9223372036854775807:=bq a (i:=11) rfl (φ:=fun _=>_) (az (Q6.2 ⟨Q,D1 aP,b1⟩) bn)
 have kE:Q.ah.ls.length≤Q.ah.c∧Q.ah.ls.length≤9223372036854775807:=bq a (i:=11) rfl (φ:=fun _=>_) (az (Q6.2 ⟨Q,D1 aP, .tail _ b1⟩) bn)
 have kF:Q.ag.ls.length≤Q.ag.c∧Q.ag.ls.length≤9223372036854775807:=bq a (i:=11) rfl (φ:=fun _=>_) (az (Q6.2 ⟨Q,D1 aP, .tail _ b2⟩) bn)
 refine gw (.pointer (some ⟨ab W,ao W+2 *21,none⟩)) (dT t) (Iz (rY) rfl rfl ((a.rds (i:=10) rfl).addr (i:=2) e6) e6) (Gz (.pointer (some ⟨ab W,ao W+2 *21+15,none⟩)) (dT t) (gw (.bool Q.fe) (dT t) (IB rfl (bJ.one N6 (((a.rds (i:=10) rfl).elem bz.len aP f2).at_ (k:=15) rfl))) (fw (.bool Q.fe) (Iw rfl (dT t) rfl) (Mz rfl ?_))))
 rcases Ls (Q.fe) with R | R
 refine Gz (vP bA 1) R (Gl (.bool P.jo) R a 9 N6 (fw (.bool P.jo) (Iw rfl R rfl) (Mz rfl ?_)))
 rcases Ls (P.jo) with C | C
 refine Gz (vP dQ 0) C (Gl (.slice aG ak.cz.ls.length bB) C a 6 U3 (Gz (vJ ak.cz.ls.length) C (Gz (.bool (decide (((ak.cz.ls.length:Nat):Int)=1))) C (fw (.bool (decide (((ak.cz.ls.length:Nat):Int)=1))) (Iw rfl C rfl) (Mz rfl ?_)))))
 by_cases A:((ak.cz.ls.length:Nat):Int)=1
 refine Gz (vP dQ 0) (dT A) (Gl (.slice aG ak.cz.ls.length bB) (dT A) a 6 U3 ?_)
 obtain⟨K,aR⟩:=dh (ls:=ic) (i:=0) bz.len f2 (a.rds (i:=7) rfl) e9
 have aS:=eY bT aR
 have kH:K.aB.ls.length≤K.aB.c∧K.aB.ls.length≤9223372036854775807:=bq a (i:=8) rfl (φ:=fun _=>_) (az (Q6.2 ⟨K,D1 aR,b1⟩) bn)
 have kI:K.ah.ls.length≤K.ah.c∧K.ah.ls.length≤9223372036854775807:=bq a (i:=8) rfl (φ:=fun _=>_) (az (Q6.2 ⟨K,D1 aR, .tail _ b1⟩) bn)
 have kJ:K.ag.ls.length≤K.ag.c∧K.ag.ls.length≤9223372036854775807:=bq a (i:=8) rfl (φ:=fun _=>_) (az (Q6.2 ⟨K,D1 aR, .tail _ b2⟩) bn)
 refine gw (.pointer (some ⟨ab aG,ao aG+0 *21,none⟩)) (dT A) (Iz (rY) rfl rfl ((a.rds (i:=7) rfl).addr (i:=0) e6) e6) (Gz (.pointer (some ⟨ab aG,ao aG+0 *21+4,none⟩)) (dT A) (gw (vI K.dK) (dT A) (IB rfl (bJ.one C2 (((a.rds (i:=7) rfl).elem bz.len aR f2).at_ (k:=4) rfl))) (Gz (.bool (decide (K.dK=1))) (dT A) (fw (.bool (decide (K.dK=1))) (Iw rfl (dT A) rfl) (Mz rfl ?_)))))
 by_cases S:K.dK=1
 refine Gz (vP dW 0) (dT S) (Gl (.slice aH au.cz.ls.length bC) (dT S) a 3 U3 (Gz (vJ au.cz.ls.length) (dT S) (Gz (.bool (decide (((au.cz.ls.length:Nat):Int)=1))) (dT S) (fw (.bool (decide (((au.cz.ls.length:Nat):Int)=1))) (Iw rfl (dT S) rfl) (Mz rfl ?_)))))
 by_cases E:((au.cz.ls.length:Nat):Int)=1
 refine Gz (vP dW 0) (dT E) (Gl (.slice aH au.cz.ls.length bC) (dT E) a 3 U3 ?_)
 obtain⟨L,aU⟩:=dh (ls:=iy) (i:=0) bz.len f2 (a.rds (i:=4) rfl) e9
 have bv:=eY bX aU
 have kK:L.aB.ls.length≤L.aB.c∧L.aB.ls.length≤9223372036854775807:=bq a (i:=5) rfl (φ:=fun _=>_) (az (Q6.2 ⟨L,D1 aU,b1⟩) bn)
 have kL:L.ah.ls.length≤L.ah.c∧L.ah.ls.length≤9223372036854775807:=bq a (i:=5) rfl (φ:=fun _=>_) (az (Q6.2 ⟨L,D1 aU, .tail _ b1⟩) bn)
 have kM:L.ag.ls.length≤L.ag.c∧L.ag.ls.length≤9223372036854775807:=bq a (i:=5) rfl (φ:=fun _=>_) (az (Q6.2 ⟨L,D1 aU, .tail _ b2⟩) bn)
 refine gw (.pointer (some ⟨ab aH,ao aH+0 *21,none⟩)) (dT E) (Iz (rY) rfl rfl ((a.rds (i:=4) rfl).addr (i:=0) e6) e6) (Gz (.pointer (some ⟨ab aH,ao aH+0 *21+4,none⟩)) (dT E) (gw (vI L.dK) (dT E) (IB rfl (bJ.one C2 (((a.rds (i:=4) rfl).elem bz.len aU f2).at_ (k:=4) rfl))) (Gz (.bool (decide (L.dK=2))) (dT E) (fw (.bool (decide (L.dK=2))) (Iw rfl (dT E) rfl) (Mz rfl ?_)))))
 by_cases X:L.dK=2
 refine Gz (vP d9 0) (dT X) (Gl (.slice aI av.cz.ls.length bD) (dT X) a 0 U3 (Gz (vJ av.cz.ls.length) (dT X) (Gz (.bool (decide (((av.cz.ls.length:Nat):Int)=1))) (dT X) (fw (.bool (decide (((av.cz.ls.length:Nat):Int)=1))) (Iw rfl (dT X) rfl) (Mz rfl ?_)))))
 by_cases M:((av.cz.ls.length:Nat):Int)=1
 refine Gz (vP d9 0) (dT M) (Gl (.slice aI av.cz.ls.length bD) (dT M) a 0 U3 ?_)
 obtain⟨N,aV⟩:=dh (ls:=iF) (i:=0) bz.len f2 (a.rds (i:=1) rfl) e9
 have fG:=eY cz aV
 have kN:N.aB.ls.length≤N.aB.c∧N.aB.ls.length≤9223372036854775807:=bq a (i:=2) rfl (φ:=fun _=>_) (az (Q6.2 ⟨N,D1 aV,b1⟩) bn)
 have kP:N.ah.ls.length≤N.ah.c∧N.ah.ls.length≤9223372036854775807:=bq a (i:=2) rfl (φ:=fun _=>_) (az (Q6.2 ⟨N,D1 aV, .tail _ b1⟩) bn)
 have kQ:N.ag.ls.length≤N.ag.c∧N.ag.ls.length≤9223372036854775807:=bq a (i:=2) rfl (φ:=fun _=>_) (az (Q6.2 ⟨N,D1 aV, .tail _ b2⟩) bn)
 refine gw (.pointer (some ⟨ab aI,ao aI+0 *21,none⟩)) (dT M) (Iz (rY) rfl rfl ((a.rds (i:=1) rfl).addr (i:=0) e6) e6) (Gz (.pointer (some ⟨ab aI,ao aI+0 *21+15,none⟩)) (dT M) (gw (.bool N.fe) (dT M) (IB rfl (bJ.one N6 (((a.rds (i:=1) rfl).elem bz.len aV f2).at_ (k:=15) rfl))) (Gz (.bool (!N.fe)) (dT M) (fw (.bool (!N.fe)) (Iw rfl (dT M) rfl) (An rfl (rt (rs ?_)))))))
 have iJ:=a.pk []
 obtain rfl:_= !N.fe:=hr.symm.trans (et (ae F) (et (ip O) (et (ae G) (et (ae I) (et (ae l) (et (ae n) (et (ae o) (et (ae p) (et (ae r) (et (ae s) (et (ip b) (et (ae (aT B)) (et (ip d) (et (ip h) (et (ip x) (et (fP j) (et (ip g) (et (ae (aT Y)) (et (ip t) (et (ae (aT ax)) (et (ip R) (et (ip C) (et (ip A) (et (ae (aT aS)) (et (ip S) (et (ip E) (et (ae (aT bv)) (et (ip X) (et (ip M) (ae (aT fG)))))))))))))))))))))))))))))))
 exact⟨rfl,iJ⟩
 refine Sz (dF M) (Sz (dF M) (Sz (dF M) (Sz (dF M) (Sz (dF M) (Sz (dF M) (fw (.bool false) (Io rfl (dF M) rfl) (An rfl (rt (rs ?_)))))))))
 have iL:=a.pk []
 obtain rfl:_=false:=hr.symm.trans (et (ae F) (et (ip O) (et (ae G) (et (ae I) (et (ae l) (et (ae n) (et (ae o) (et (ae p) (et (ae r) (et (ae s) (et (ip b) (et (ae (aT B)) (et (ip d) (et (ip h) (et (ip x) (et (fP j) (et (ip g) (et (ae (aT Y)) (et (ip t) (et (ae (aT ax)) (et (ip R) (et (ip C) (et (ip A) (et (ae (aT aS)) (et (ip S) (et (ip E) (et (ae (aT bv)) (et (ip X) (iN M)))))))))))))))))))))))))))))
 exact⟨rfl,iL⟩
 refine Sz (dF X) (Sz (dF X) (Sz (dF X) (Sz (dF X) (fw (.bool false) (Io rfl (dF X) rfl) (Mz rfl (Sz rfl (Sz rfl (Sz rfl (Sz rfl (Sz rfl (Sz rfl (fw (.bool false) (Io rfl rfl rfl) (An rfl (rt (rs ?_)))))))))))))))
 have iM:=a.pk []
 obtain rfl:_=false:=hr.symm.trans (et (ae F) (et (ip O) (et (ae G) (et (ae I) (et (ae l) (et (ae n) (et (ae o) (et (ae p) (et (ae r) (et (ae s) (et (ip b) (et (ae (aT B)) (et (ip d) (et (ip h) (et (ip x) (et (fP j) (et (ip g) (et (ae (aT Y)) (et (ip t) (et (ae (aT ax)) (et (ip R) (et (ip C) (et (ip A) (et (ae (aT aS)) (et (ip S) (et (ip E) (et (ae (aT bv)) (iN X))))))))))))))))))))))))))))
 exact⟨rfl,iM⟩
 refine Sz (dF E) (Sz (dF E) (Sz (dF E) (Sz (dF E) (Sz (dF E) (Sz (dF E) (fw (.bool false) (Io rfl (dF E) rfl) (Mz rfl (Sz rfl (Sz rfl (Sz rfl (Sz rfl (fw (.bool false) (Io rfl rfl rfl) (Mz rfl (Sz rfl (Sz rfl (Sz rfl (Sz rfl (Sz rfl (Sz rfl (fw (.bool false) (Io rfl rfl rfl) (An rfl (rt (rs ?_)))))))))))))))))))))))
 have iO:=a.pk []
 obtain rfl:_=false:=hr.symm.trans (et (ae F) (et (ip O) (et (ae G) (et (ae I) (et (ae l) (et (ae n) (et (ae o) (et (ae p) (et (ae r) (et (ae s) (et (ip b) (et (ae (aT B)) (et (ip d) (et (ip h) (et (ip x) (et (fP j) (et (ip g) (et (ae (aT Y)) (et (ip t) (et (ae (aT ax)) (et (ip R) (et (ip C) (et (ip A) (et (ae (aT aS)) (et (ip S) (iN E))))))))))))))))))))))))))
 exact⟨rfl,iO⟩
 refine Sz (dF S) (Sz (dF S) (Sz (dF S) (Sz (dF S) (fw (.bool false) (Io rfl (dF S) rfl) (Mz rfl (Sz rfl (Sz rfl (Sz rfl (Sz rfl (Sz rfl (Sz rfl (fw (.bool false) (Io rfl rfl rfl) (Mz rfl (Sz rfl (Sz rfl (Sz rfl (Sz rfl (fw (.bool false) (Io rfl rfl rfl) (Mz rfl (Sz rfl (Sz rfl (Sz rfl (Sz rfl (Sz rfl (Sz rfl (fw (.bool false) (Io rfl rfl rfl) (An rfl (rt (rs ?_)))))))))))))))))))))))))))))
 have iP:=a.pk []
 obtain rfl:_=false:=hr.symm.trans (et (ae F) (et (ip O) (et (ae G) (et (ae I) (et (ae l) (et (ae n) (et (ae o) (et (ae p) (et (ae r) (et (ae s) (et (ip b) (et (ae (aT B)) (et (ip d) (et (ip h) (et (ip x) (et (fP j) (et (ip g) (et (ae (aT Y)) (et (ip t) (et (ae (aT ax)) (et (ip R) (et (ip C) (et (ip A) (et (ae (aT aS)) (iN S)))))))))))))))))))))))))
 exact⟨rfl,iP⟩
 refine Sz (dF A) (Sz (dF A) (Sz (dF A) (Sz (dF A) (Sz (dF A) (Sz (dF A) (fw (.bool false) (Io rfl (dF A) rfl) (Mz rfl (Sz rfl (Sz rfl (Sz rfl (Sz rfl (fw (.bool false) (Io rfl rfl rfl) (Mz rfl (Sz rfl (Sz rfl (Sz rfl (Sz rfl (Sz rfl (Sz rfl (fw (.bool false) (Io rfl rfl rfl) (Mz rfl (Sz rfl (Sz rfl (Sz rfl (Sz rfl (fw (.bool false) (Io rfl rfl rfl) (Mz rfl (Sz rfl (Sz rfl (Sz rfl (Sz rfl (Sz rfl (Sz rfl (fw (.bool false) (Io rfl rfl rfl) (An rfl (rt (rs ?_)))))))))))))))))))))))))))))))))))))
 have iQ:=a.pk []
 obtain rfl:_=false:=hr.symm.trans (et (ae F) (et (ip O) (et (ae G) (et (ae I) (et (ae l) (et (ae n) (et (ae o) (et (ae p) (et (ae r) (et (ae s) (et (ip b) (et (ae (aT B)) (et (ip d) (et (ip h) (et (ip x) (et (fP j) (et (ip g) (et (ae (aT Y)) (et (ip t) (et (ae (aT ax)) (et (ip R) (et (ip C) (iN A)))))))))))))))))))))))
 exact⟨rfl,iQ⟩
 refine Sz C (Sz C (Sz C (Sz C (fw (.bool false) (Io rfl C rfl) (Mz rfl (Sz rfl (Sz rfl (Sz rfl (Sz rfl (Sz rfl (Sz rfl (fw (.bool false) (Io rfl rfl rfl) (Mz rfl (Sz rfl (Sz rfl (Sz rfl (Sz rfl (fw (.bool false) (Io rfl rfl rfl) (Mz rfl (Sz rfl (Sz rfl (Sz rfl (Sz rfl (Sz rfl (Sz rfl (fw (.bool false) (Io rfl rfl rfl) (Mz rfl (Sz rfl (Sz rfl (Sz rfl (Sz rfl (fw (.bool false) (Io rfl rfl rfl) (Mz rfl (Sz rfl (Sz rfl (Sz rfl (Sz rfl (Sz rfl (Sz rfl ?_)))))))))))))))))))))))))))))))))))))))
 refine fw (.bool false) (Io rfl rfl rfl) (An rfl (rt (rs ?_)))
 have iR:=a.pk []
 obtain rfl:_=false:=hr.symm.trans (et (ae F) (et (ip O) (et (ae G) (et (ae I) (et (ae l) (et (ae n) (et (ae o) (et (ae p) (et (ae r) (et (ae s) (et (ip b) (et (ae (aT B)) (et (ip d) (et (ip h) (et (ip x) (et (fP j) (et (ip g) (et (ae (aT Y)) (et (ip t) (et (ae (aT ax)) (et (ip R) (fP C))))))))))))))))))))))
 exact⟨rfl,iR⟩
 refine Sz R (Sz R (fw (.bool false) (Io rfl R rfl) (Mz rfl (Sz rfl (Sz rfl (Sz rfl (Sz rfl (fw (.bool false) (Io rfl rfl rfl) (Mz rfl (Sz rfl (Sz rfl (Sz rfl (Sz rfl (Sz rfl (Sz rfl (fw (.bool false) (Io rfl rfl rfl) (Mz rfl (Sz rfl (Sz rfl (Sz rfl (Sz rfl (fw (.bool false) (Io rfl rfl rfl) (Mz rfl (Sz rfl (Sz rfl (Sz rfl (Sz rfl (Sz rfl (Sz rfl (fw (.bool false) (Io rfl rfl rfl) (Mz rfl (Sz rfl (Sz rfl (Sz rfl (Sz rfl (fw (.bool false) (Io rfl rfl rfl) (Mz rfl (Sz rfl (Sz rfl ?_)))))))))))))))))))))))))))))))))))))))
 refine Sz rfl (Sz rfl (Sz rfl (Sz rfl (fw (.bool false) (Io rfl rfl rfl) (An rfl (rt (rs ?_)))))))
 have iT:=a.pk []
 obtain rfl:_=false:=hr.symm.trans (et (ae F) (et (ip O) (et (ae G) (et (ae I) (et (ae l) (et (ae n) (et (ae o) (et (ae p) (et (ae r) (et (ae s) (et (ip b) (et (ae (aT B)) (et (ip d) (et (ip h) (et (ip x) (et (fP j) (et (ip g) (et (ae (aT Y)) (et (ip t) (et (ae (aT ax)) (fP R)))))))))))))))))))))
 exact⟨rfl,iT⟩
 refine Sz (dF t) (Sz (dF t) (Sz (dF t) (Sz (dF t) (Sz (dF t) (fw (.bool false) (Io rfl (dF t) rfl) (Mz rfl (Sz rfl (Sz rfl (fw (.bool false) (Io rfl rfl rfl) (Mz rfl (Sz rfl (Sz rfl (Sz rfl (Sz rfl (fw (.bool false) (Io rfl rfl rfl) (Mz rfl (Sz rfl (Sz rfl (Sz rfl (Sz rfl (Sz rfl (Sz rfl (fw (.bool false) (Io rfl rfl rfl) (Mz rfl (Sz rfl (Sz rfl (Sz rfl (Sz rfl (fw (.bool false) (Io rfl rfl rfl) (Mz rfl (Sz rfl (Sz rfl (Sz rfl (Sz rfl (Sz rfl (Sz rfl (fw (.bool false) (Io rfl rfl rfl) (Mz rfl (Sz rfl ?_)))))))))))))))))))))))))))))))))))))))
 refine Sz rfl (Sz rfl (Sz rfl (fw (.bool false) (Io rfl rfl rfl) (Mz rfl (Sz rfl (Sz rfl (Sz rfl (Sz rfl (Sz rfl (Sz rfl (fw (.bool false) (Io rfl rfl rfl) (An rfl (rt (rs ?_))))))))))))))
 have iU:=a.pk []
 obtain rfl:_=false:=hr.symm.trans (et (ae F) (et (ip O) (et (ae G) (et (ae I) (et (ae l) (et (ae n) (et (ae o) (et (ae p) (et (ae r) (et (ae s) (et (ip b) (et (ae (aT B)) (et (ip d) (et (ip h) (et (ip x) (et (fP j) (et (ip g) (et (ae (aT Y)) (iN t)))))))))))))))))))
 exact⟨rfl,iU⟩
 refine Sz (dF g) (Sz (dF g) (Sz (dF g) (Sz (dF g) (Sz (dF g) (Sz (dF g) (fw (.bool false) (Io rfl (dF g) rfl) (Mz rfl (Sz rfl (Sz rfl (Sz rfl (Sz rfl (Sz rfl (fw (.bool false) (Io rfl rfl rfl) (Mz rfl (Sz rfl (Sz rfl (fw (.bool false) (Io rfl rfl rfl) (Mz rfl (Sz rfl (Sz rfl (Sz rfl (Sz rfl (fw (.bool false) (Io rfl rfl rfl) (Mz rfl (Sz rfl (Sz rfl (Sz rfl (Sz rfl (Sz rfl (Sz rfl (fw (.bool false) (Io rfl rfl rfl) (Mz rfl (Sz rfl (Sz rfl (Sz rfl (Sz rfl (fw (.bool false) (Io rfl rfl rfl) (Mz rfl (Sz rfl ?_)))))))))))))))))))))))))))))))))))))))
 refine Sz rfl (Sz rfl (Sz rfl (Sz rfl (Sz rfl (fw (.bool false) (Io rfl rfl rfl) (Mz rfl (Sz rfl (Sz rfl (Sz rfl (Sz rfl (fw (.bool false) (Io rfl rfl rfl) (Mz rfl (Sz rfl (Sz rfl (Sz rfl (Sz rfl (Sz rfl (Sz rfl (fw (.bool false) (Io rfl rfl rfl) (An rfl (rt (rs ?_))))))))))))))))))))))
 have iV:=a.pk []
 obtain rfl:_=false:=hr.symm.trans (et (ae F) (et (ip O) (et (ae G) (et (ae I) (et (ae l) (et (ae n) (et (ae o) (et (ae p) (et (ae r) (et (ae s) (et (ip b) (et (ae (aT B)) (et (ip d) (et (ip h) (et (ip x) (et (fP j) (iN g)))))))))))))))))
 exact⟨rfl,iV⟩
 refine Sz (dF x) (Sz (dF x) (Sz (dF x) (fw (.bool false) (Io rfl (dF x) rfl) (Mz rfl (Sz rfl (Sz rfl (Sz rfl (Sz rfl (fw (.bool false) (Io rfl rfl rfl) (Mz rfl (Sz rfl (Sz rfl (Sz rfl (Sz rfl (Sz rfl (Sz rfl (fw (.bool false) (Io rfl rfl rfl) (Mz rfl (Sz rfl (Sz rfl (Sz rfl (Sz rfl (Sz rfl (fw (.bool false) (Io rfl rfl rfl) (Mz rfl (Sz rfl (Sz rfl (fw (.bool false) (Io rfl rfl rfl) (Mz rfl (Sz rfl (Sz rfl (Sz rfl (Sz rfl (fw (.bool false) (Io rfl rfl rfl) (Mz rfl (Sz rfl (Sz rfl (Sz rfl (Sz rfl ?_)))))))))))))))))))))))))))))))))))))))
 refine Sz rfl (Sz rfl (fw (.bool false) (Io rfl rfl rfl) (Mz rfl (Sz rfl (Sz rfl (Sz rfl (Sz rfl (fw (.bool false) (Io rfl rfl rfl) (Mz rfl (Sz rfl (Sz rfl (Sz rfl (Sz rfl (Sz rfl (Sz rfl (fw (.bool false) (Io rfl rfl rfl) (Mz rfl (Sz rfl (Sz rfl (Sz rfl (Sz rfl (fw (.bool false) (Io rfl rfl rfl) (Mz rfl (Sz rfl (Sz rfl (Sz rfl (Sz rfl (Sz rfl (Sz rfl (fw (.bool false) (Io rfl rfl rfl) (An rfl (rt (rs ?_)))))))))))))))))))))))))))))))))
 have iW:=a.pk []
 obtain rfl:_=false:=hr.symm.trans (et (ae F) (et (ip O) (et (ae G) (et (ae I) (et (ae l) (et (ae n) (et (ae o) (et (ae p) (et (ae r) (et (ae s) (et (ip b) (et (ae (aT B)) (et (ip d) (et (ip h) (iN x)))))))))))))))
 exact⟨rfl,iW⟩
 refine Sz (dF h) (Sz (dF h) (Sz (dF h) (Sz (dF h) (fw (.bool false) (Io rfl (dF h) rfl) (Mz rfl (Sz rfl (Sz rfl (Sz rfl (fw (.bool false) (Io rfl rfl rfl) (Mz rfl (Sz rfl (Sz rfl (Sz rfl (Sz rfl (fw (.bool false) (Io rfl rfl rfl) (Mz rfl (Sz rfl (Sz rfl (Sz rfl (Sz rfl (Sz rfl (Sz rfl (fw (.bool false) (Io rfl rfl rfl) (Mz rfl (Sz rfl (Sz rfl (Sz rfl (Sz rfl (Sz rfl (fw (.bool false) (Io rfl rfl rfl) (Mz rfl (Sz rfl (Sz rfl (fw (.bool false) (Io rfl rfl rfl) (Mz rfl (Sz rfl (Sz rfl (Sz rfl (Sz rfl ?_)))))))))))))))))))))))))))))))))))))))
 refine fw (.bool false) (Io rfl rfl rfl) (Mz rfl (Sz rfl (Sz rfl (Sz rfl (Sz rfl (Sz rfl (Sz rfl (fw (.bool false) (Io rfl rfl rfl) (Mz rfl (Sz rfl (Sz rfl (Sz rfl (Sz rfl (fw (.bool false) (Io rfl rfl rfl) (Mz rfl (Sz rfl (Sz rfl (Sz rfl (Sz rfl (Sz rfl (Sz rfl (fw (.bool false) (Io rfl rfl rfl) (Mz rfl (Sz rfl (Sz rfl (Sz rfl (Sz rfl (fw (.bool false) (Io rfl rfl rfl) (Mz rfl (Sz rfl (Sz rfl (Sz rfl (Sz rfl (Sz rfl (Sz rfl (fw (.bool false) (Io rfl rfl rfl) (An rfl ?_)))))))))))))))))))))))))))))))))))))
 refine rt (rs ?_)
 have iX:=a.pk []
 obtain rfl:_=false:=hr.symm.trans (et (ae F) (et (ip O) (et (ae G) (et (ae I) (et (ae l) (et (ae n) (et (ae o) (et (ae p) (et (ae r) (et (ae s) (et (ip b) (et (ae (aT B)) (et (ip d) (iN h))))))))))))))
 exact⟨rfl,iX⟩
 refine Sz (dF d) (Sz (dF d) (Sz (dF d) (Sz (dF d) (Sz (dF d) (Sz (dF d) (fw (.bool false) (Io rfl (dF d) rfl) (Mz rfl (Sz rfl (Sz rfl (Sz rfl (Sz rfl (fw (.bool false) (Io rfl rfl rfl) (Mz rfl (Sz rfl (Sz rfl (Sz rfl (fw (.bool false) (Io rfl rfl rfl) (Mz rfl (Sz rfl (Sz rfl (Sz rfl (Sz rfl (fw (.bool false) (Io rfl rfl rfl) (Mz rfl (Sz rfl (Sz rfl (Sz rfl (Sz rfl (Sz rfl (Sz rfl (fw (.bool false) (Io rfl rfl rfl) (Mz rfl (Sz rfl (Sz rfl (Sz rfl (Sz rfl (Sz rfl (fw (.bool false) (Io rfl rfl rfl) (Mz rfl ?_)))))))))))))))))))))))))))))))))))))))
 refine Sz rfl (Sz rfl (fw (.bool false) (Io rfl rfl rfl) (Mz rfl (Sz rfl (Sz rfl (Sz rfl (Sz rfl (fw (.bool false) (Io rfl rfl rfl) (Mz rfl (Sz rfl (Sz rfl (Sz rfl (Sz rfl (Sz rfl (Sz rfl (fw (.bool false) (Io rfl rfl rfl) (Mz rfl (Sz rfl (Sz rfl (Sz rfl (Sz rfl (fw (.bool false) (Io rfl rfl rfl) (Mz rfl (Sz rfl (Sz rfl (Sz rfl (Sz rfl (Sz rfl (Sz rfl (fw (.bool false) (Io rfl rfl rfl) (Mz rfl (Sz rfl (Sz rfl (Sz rfl (Sz rfl (fw (.bool false) (Io rfl rfl rfl) (Mz rfl (Sz rfl (Sz rfl ?_)))))))))))))))))))))))))))))))))))))))
 refine Sz rfl (Sz rfl (Sz rfl (Sz rfl (fw (.bool false) (Io rfl rfl rfl) (An rfl (rt (rs ?_)))))))
 have iY:=a.pk []
 obtain rfl:_=false:=hr.symm.trans (et (ae F) (et (ip O) (et (ae G) (et (ae I) (et (ae l) (et (ae n) (et (ae o) (et (ae p) (et (ae r) (et (ae s) (et (ip b) (et (ae (aT B)) (iN d)))))))))))))
 exact⟨rfl,iY⟩
 refine Sz (dF b) (Sz (dF b) (Sz (dF b) (Sz (dF b) (Sz (dF b) (Sz (dF b) (fw (.bool false) (Io rfl (dF b) rfl) (Mz rfl (Sz rfl (Sz rfl (Sz rfl (Sz rfl (Sz rfl (Sz rfl (fw (.bool false) (Io rfl rfl rfl) (Mz rfl (Sz rfl (Sz rfl (Sz rfl (Sz rfl (fw (.bool false) (Io rfl rfl rfl) (Mz rfl (Sz rfl (Sz rfl (Sz rfl (fw (.bool false) (Io rfl rfl rfl) (Mz rfl (Sz rfl (Sz rfl (Sz rfl (Sz rfl (fw (.bool false) (Io rfl rfl rfl) (Mz rfl (Sz rfl (Sz rfl (Sz rfl (Sz rfl (Sz rfl (Sz rfl (fw (.bool false) (Io rfl rfl rfl) ?_)))))))))))))))))))))))))))))))))))))))
 refine Mz rfl (Sz rfl (Sz rfl (Sz rfl (Sz rfl (Sz rfl (fw (.bool false) (Io rfl rfl rfl) (Mz rfl (Sz rfl (Sz rfl (fw (.bool false) (Io rfl rfl rfl) (Mz rfl (Sz rfl (Sz rfl (Sz rfl (Sz rfl (fw (.bool false) (Io rfl rfl rfl) (Mz rfl (Sz rfl (Sz rfl (Sz rfl (Sz rfl (Sz rfl (Sz rfl (fw (.bool false) (Io rfl rfl rfl) (Mz rfl (Sz rfl (Sz rfl (Sz rfl (Sz rfl (fw (.bool false) (Io rfl rfl rfl) (Mz rfl (Sz rfl (Sz rfl (Sz rfl (Sz rfl (Sz rfl (Sz rfl (fw (.bool false) (Io rfl rfl rfl) (Mz rfl ?_)))))))))))))))))))))))))))))))))))))))
 refine Sz rfl (Sz rfl (Sz rfl (Sz rfl (fw (.bool false) (Io rfl rfl rfl) (Mz rfl (Sz rfl (Sz rfl (Sz rfl (Sz rfl (Sz rfl (Sz rfl (fw (.bool false) (Io rfl rfl rfl) (An rfl (rt (rs ?_)))))))))))))))
 have iZ:=a.pk []
 obtain rfl:_=false:=hr.symm.trans (et (ae F) (et (ip O) (et (ae G) (et (ae I) (et (ae l) (et (ae n) (et (ae o) (et (ae p) (et (ae r) (et (ae s) (iN b)))))))))))
 exact⟨rfl,iZ⟩
 refine Sz (dT O) (Sz (dT O) (Sz (dT O) (fw (.bool true) (Iw rfl (dT O) rfl) (nt (jt (sr (Az rfl (An rfl (rt (tR (Fin.res (lH rfl rfl rfl) (Mz rfl (Kz (.pointer none) (Kz (vI 1) (Az rfl (An rfl (Ik (Ik ?_))))))))))))))))))
 have ja:=cZ.pk []
 refine Il (Mz rfl (Kz (.bool true) (Mz rfl (Sz rfl (Sz rfl (fw (.bool true) (Iw rfl rfl rfl) (nt (jt (sr (An rfl (rt (tR (rs ?_)))))))))))))
 have jb:=ja.pk []
 obtain rfl:_=false:=hr.symm.trans (et (ae F) (iN O))
 exact⟨rfl,jb⟩
end Go.Proofs.YtbkagebjhbphaaaGreat
