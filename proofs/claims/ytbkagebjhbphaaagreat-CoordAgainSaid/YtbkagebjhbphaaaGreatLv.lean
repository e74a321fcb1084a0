/-
 coord: the chapter's examples.
-/
import Derived.Test.YtbkagebjhbphaaaGreatCoX
namespace Go.Proofs.YtbkagebjhbphaaaGreat
open Int renaming toNat→D2
open IntKind renaming u64→D3
open List renaming flatMap→q6,getD→C2,length→s2,length_replicate→H7,mem_flatMap→P3,mem_of_getElem?→E0,not_mem_nil→B3,replicate→s0,toArray→y6
open Ll renaming mk→E4
open Sv renaming mk→H5
open _root_.Go.Proofs.Tryz renaming call13→U1,isAgg28→E1,isAgg3→C6,isAgg33→S8,isAgg4→M3,isAgg42→M5,isAgg45→T0,sizeOf28→M7,sizeOf33→I0,sizeOf42→M6,sizeOf47→S4
set_option maxRecDepth 100000
open Go.RowKit
set_option linter.unusedVariables false
set_option linter.unusedSectionVars false
set_option linter.unusedSimpArgs false
def uM:Bool:=
 bnd (jc (dC.mk 2 0 0 1 (E4 ([(bv.mk ([]) 1),(bv.mk ([109]) 2)])) (E4 ([])) (E4 ([])))) fun n=>if n=0 then bnd (jm (dC.mk 2 0 0 1 (E4 ([(bv.mk ([]) 1),(bv.mk ([109]) 2)])) (E4 ([])) (E4 ([])))) fun a=>bnd ((aB.mk (dC.mk a.av (D2 (D3.wrap (((a.ax:Nat):Int)+1))) (fD (D2 (D3.wrap (((a.ax:Nat):Int)+1))) 32) a.aK (E4 a.ag.ls) (E4 a.aj.ls) (E4 a.aI.ls)) 0 (E4 ([])) (dX.mk false 0 0 (E4 ([]))) (dX.mk false 0 0 (E4 ([]))) (dX.mk false 0 0 (E4 ([]))) (dX.mk false 0 0 (E4 ([]))) (dX.mk false 0 0 (E4 ([]))) 0 0 0 0 0)) fun o=>bnd (eF o (bQ.mk 1 11 0 0 0 0 1 1 0 0 0 0 0 0 0 false (bL.mk ([]) ([])) (E4 ([(bC.mk 2 ([97]) ([49]) ([]) ([]) 0),(bC.mk 2 ([122]) ([50]) ([]) ([]) 0)])) (E4 ([])) (E4 ([])))) fun c=>bnd (eF c.2.2 (bQ.mk 4 1 0 0 3 0 0 0 4294967297 0 0 0 0 0 0 false (bL.mk ([]) ([])) (E4 ([])) (E4 (s0 1 (aY.mk false ([]) (E4 ([]))))) (E4 ([])))) fun d=>bnd (eF d.2.2 (bQ.mk 4 2 0 0 3 0 0 0 4294967297 0 0 0 0 0 0 false (bL.mk ([]) ([])) (E4 ([])) (E4 (s0 1 (aY.mk false ([]) (E4 ([]))))) (E4 ([])))) fun b=>bnd (eF b.2.2 (bQ.mk 1 11 0 0 0 0 1 1 0 0 0 0 0 0 0 false (bL.mk ([]) ([])) (E4 ([(bC.mk 2 ([97]) ([49]) ([]) ([]) 0),(bC.mk 2 ([122]) ([50]) ([]) ([]) 0)])) (E4 ([])) (E4 ([])))) fun e=>bnd (eF e.2.2 (bQ.mk 1 11 0 0 0 0 1 0 0 0 0 0 0 0 0 false (bL.mk ([]) ([])) (E4 ([(bC.mk 2 ([97]) ([49]) ([]) ([]) 0),(bC.mk 2 ([122]) ([50]) ([]) ([]) 0)])) (E4 ([])) (E4 ([])))) fun f=>bnd (eF f.2.2 (bQ.mk 7 1 0 0 0 0 0 0 99 0 0 0 0 0 0 false (bL.mk ([]) ([])) (E4 ([])) (E4 ([])) (E4 ([])))) fun g=>if((c.1.eP.ls.length:Nat):Int)=2 then bnd (C2 c.1.eP.ls 1 default) fun h=>if h.aH=3 then if((h.bi:Nat):Int)=4294967297 then if((d.1.eP.ls.length:Nat):Int)=0 then if d.1.iQ=true then false else if((b.1.eP.ls.length:Nat):Int)=3 then bnd (C2 b.1.eP.ls 0 default) fun i=>if i.dz=1 then bnd (C2 b.1.eP.ls 2 default) fun j=>if j.d9=true then if b.1.iQ=true then if((e.1.eP.ls.length:Nat):Int)=1 then bnd (C2 e.1.eP.ls 0 default) fun k=>if k.dz=1 then if((f.1.eP.ls.length:Nat):Int)=1 then bnd (C2 f.1.eP.ls 0 default) fun l=>if l.dz=2 then if((g.1.eP.ls.length:Nat):Int)=1 then bnd (C2 g.1.eP.ls 0 default) fun m=> !m.d9 else false else false else false else false else false else false else false else false else false else false else false else false else false else false
set_option maxHeartbeats 4000000 in
theorem AA (w:World) (D:Nat→Prop) (r0:Bool) (H:Own w D w []) (hr:uM=r0):
    Calls Tryz.prog 7 #[] w (dR fun v w'=>v= .bool r0∧Own w D w' []):=by
 refine cb Tryz.func7 ?_
 refine sr (Ar rfl ?_)
 refine WL.do rfl (Gd Tryz.call9 rfl ?_ (fun _ _ k=>k))
 refine cb Tryz.func9 ?_
 refine sr ?_
 refine dM [vI 0, .int .u64 0, .int .u64 0, .int .u64 0, .slice none 0 0, .slice none 0 0, .slice none 0 0] 33 H ?_
 intro mh mi jb
 refine ns (Kz (.agg #[.string ⟨y6 ([])⟩,vI 1]) (Kz (.agg #[.string ⟨y6 ([109])⟩,vI 2]) ?_))
 refine kL [.string ⟨y6 ([])⟩,vI 1, .string ⟨y6 ([109])⟩,vI 2] 89 2 2 jb ?_
 intro aR mo d9
 replace d9:=Gq (y:=row aR 2 2 (q6 bv.cells ([(bv.mk ([]) 1),(bv.mk ([109]) 2)])) 89 2) rfl d9
 refine Kz (.agg #[vI 2, .int .u64 0, .int .u64 0, .int .u64 1, .slice aR 2 2, .slice none 0 0, .slice none 0 0]) ?_
 have jd:=d9.pb [0]
 refine dN [vI 2, .int .u64 0, .int .u64 0, .int .u64 1, .slice aR 2 2, .slice none 0 0, .slice none 0 0] 0 jd I0 ?_
 intro mq fJ
 refine nt (rt (Fin.res (mZ rfl rfl (Gc (cs:= [vI 2, .int .u64 0, .int .u64 0, .int .u64 1, .slice aR 2 2, .slice none 0 0, .slice none 0 0]) S8 I0 ((fJ.cls (i:=0) rfl).lit (k:=0) (m:=7) rfl))) ?_))
 refine WL.do rfl (Gd Tryz.call8 rfl ?_ (fun _ _ k=>k))
 refine cb Tryz.func8 ?_
 refine FU ?_
 have je:=fJ.pk [1]
 refine FT ?_
 refine dM [vI 2, .int .u64 0, .int .u64 0, .int .u64 1, .slice aR 2 2, .slice none 0 0, .slice none 0 0] 33 je ?_
 intro jg mr fK
 refine Az rfl (An rfl (FU (sr (La ([vI 2, .int .u64 0, .int .u64 0, .int .u64 1, .slice aR 2 2, .slice none 0 0, .slice none 0 0]) fK 0 S8 I0 ?_))))
 obtain⟨cK,F⟩:∃ q,jc (dC.mk 2 0 0 1 (E4 ([(bv.mk ([]) 1),(bv.mk ([109]) 2)])) (E4 ([])) (E4 ([])))=q:=⟨_,rfl⟩
 obtain⟨mD,fM,kT,fO,fP⟩:=FY fK
 refine cl Tryz.call19 (nW _ _ (dC.mk 2 0 0 1 (E4 ([(bv.mk ([]) 1),(bv.mk ([109]) 2)])) (E4 ([])) (E4 ([]))) aR 2 2 none 0 0 [] none 0 0 [] cK fM rfl (fP _ 1 _ rfl aV) f2 rfl rfl (fun _ _=>bD.nil _ _ _) f2 (fun _ h9=>absurd h9 B3) rfl rfl (fun _ _=>bD.nil _ _ _) f2 (fun _ h9=>absurd h9 B3) e8 F) ?_
 rintro _ mE ⟨rfl,fQ⟩
 have cO:=fO _ _ fQ
 refine fw (.bool (decide (¬ (cK=0)))) (Gi (e:= !(decide (cK=0))) yk decide_not.symm) (Mz rfl ?_)
 by_cases O:cK=0
 refine gw (vP jg 1) (dF (JP O)) yk (gw (.int .u64 0) (dF (JP O)) (F5 rfl (bZ.one E1 (jL.of (cO.cls (i:=0) rfl) rfl))) (gw (.bool false) (dF (JP O)) yk (fw (.bool false) (FX rfl (dF (JP O)) rfl) (nt (jf (sk (sr (La ([vI 2, .int .u64 0, .int .u64 0, .int .u64 1, .slice aR 2 2, .slice none 0 0, .slice none 0 0]) cO 0 S8 I0 ?_))))))))
 obtain⟨f,G⟩:∃ q,jm (dC.mk 2 0 0 1 (E4 ([(bv.mk ([]) 1),(bv.mk ([109]) 2)])) (E4 ([])) (E4 ([])))=q:=⟨_,rfl⟩
 obtain⟨mF,fT,kU,fU,fV⟩:=FY cO
 refine cl Tryz.call20 (oH _ _ (dC.mk 2 0 0 1 (E4 ([(bv.mk ([]) 1),(bv.mk ([109]) 2)])) (E4 ([])) (E4 ([]))) aR 2 2 none 0 0 [] none 0 0 [] f fT rfl (fV _ 1 _ rfl aV) f2 rfl rfl (fun _ _=>bD.nil _ _ _) f2 (fun _ h9=>absurd h9 B3) rfl rfl (fun _ _=>bD.nil _ _ _) f2 (fun _ h9=>absurd h9 B3) e8 (by first | assumption | exact Aj f4 | exact fun _ h9=>absurd h9 B3) (by first | assumption | exact Al f4 | exact fun _ h9=>absurd h9 B3) G) ?_
 rintro _ mG ⟨fZ,gm,gp,gq,gu,gy,mH,mI,rfl,gz,df,dh⟩
 have cZ:=fU _ _ gz
 have kV:=az df
 have kW:=az dh
 have kX:=cZ.rowC (i:=0) rfl
 have kY:=cZ.rowC (i:=1) rfl
 have kZ:=cZ.rowC (i:=3) rfl
 have lc:f.ag.ls.length=2∧f.av=2∧f.aj.ls.length=0∧f.aI.ls.length=0:=Bo G
 refine Kz (.agg #[vI f.av,vU f.ax,vU f.bf,vU f.aK, .slice fZ f.ag.ls.length gm, .slice gp f.aj.ls.length gq, .slice gu f.aI.ls.length gy, .int .u64 0, .slice none 0 0, .bool false, .int .u64 0,vI 0, .slice none 0 0, .bool false, .int .u64 0,vI 0, .slice none 0 0, .bool false, .int .u64 0,vI 0, .slice none 0 0, .bool false, .int .u64 0,vI 0, .slice none 0 0, .bool false, .int .u64 0,vI 0, .slice none 0 0, .int .u64 0, .int .u64 0, .int .u64 0, .int .u64 0, .int .u64 0, .pointer none]) ?_
 refine dM [vI f.av,vU f.ax,vU f.bf,vU f.aK, .slice fZ f.ag.ls.length gm, .slice gp f.aj.ls.length gq, .slice gu f.aI.ls.length gy, .int .u64 0, .slice none 0 0, .bool false, .int .u64 0,vI 0, .slice none 0 0, .bool false, .int .u64 0,vI 0, .slice none 0 0, .bool false, .int .u64 0,vI 0, .slice none 0 0, .bool false, .int .u64 0,vI 0, .slice none 0 0, .bool false, .int .u64 0,vI 0, .slice none 0 0, .int .u64 0, .int .u64 0, .int .u64 0, .int .u64 0, .int .u64 0, .pointer none] 86 cZ ?_
 intro U mJ jh
 refine An rfl (FU ?_)
 have gF:=jh.px [] [6] []
 refine FT (Mz rfl (Kz (vP U 0) (Kz (vP U 0) (Kz (vP U 1) (Lz (vU f.ax) gF 0 E1 (fw (.int .u64 ((D2 (D3.wrap (((f.ax:Nat):Int)+1)):Nat):Int)) (FV (e:=D3.wrap (((f.ax:Nat):Int)+1)) yk (fC _)) (Kz (vP U 0) (Kz (vP U 0) (Kz (vP U 1) ?_)))))))))
 refine dN [.int .u64 ((D2 (D3.wrap (((f.ax:Nat):Int)+1)):Nat):Int)] 1 gF M7 ?_
 intro mK gG
 refine ns (Mz rfl (Mz rfl (Kz (vP U 0) (Kz (vP U 0) (Kz (vP U 1) (Lz (.int .u64 ((D2 (D3.wrap (((f.ax:Nat):Int)+1)):Nat):Int)) gG 0 E1 ?_))))))
 have lg:fD (D2 (D3.wrap (((f.ax:Nat):Int)+1))) 32≤18446744073709551615:=oO _ _
 refine fw (.int .u64 ((fD (D2 (D3.wrap (((f.ax:Nat):Int)+1))) 32:Nat):Int)) (FV (Hw (m:=32) rfl rfl) (fC _)) (Kz (vP U 0) (Kz (vP U 0) (Kz (vP U 2) ?_)))
 refine dN [.int .u64 ((fD (D2 (D3.wrap (((f.ax:Nat):Int)+1))) 32:Nat):Int)] 2 gG M7 ?_
 intro aC ji
 refine ns (Mz rfl (Az rfl (An rfl (rt (Fin.res (lY rfl rfl rfl) ?_)))))
 have jk:Own w D aC (sepL (q6 bA.own ([]))::_):=ji.sepNil
 have jl:Own w D aC (row none 0 0 (q6 bA.cells ([])) 107 9::_):=jk.free (fB 107 9)
 have jo:Own w D aC (sepL (q6 af.own ([]))::_):=jl.sepNil
 have jq:Own w D aC (row none 0 0 (q6 af.cells ([])) 149 3::_):=jo.free (fB 149 3)
 have jr:Own w D aC (sepL (q6 af.own ([]))::_):=jq.sepNil
 have jv:Own w D aC (row none 0 0 (q6 af.cells ([])) 149 3::_):=jr.free (fB 149 3)
 have jw:Own w D aC (sepL (q6 af.own ([]))::_):=jv.sepNil
 have jy:Own w D aC (row none 0 0 (q6 af.cells ([])) 149 3::_):=jw.free (fB 149 3)
 have jA:Own w D aC (sepL (q6 af.own ([]))::_):=jy.sepNil
 have jB:Own w D aC (row none 0 0 (q6 af.cells ([])) 149 3::_):=jA.free (fB 149 3)
 have jC:Own w D aC (sepL (q6 af.own ([]))::_):=jB.sepNil
 have jD:Own w D aC (row none 0 0 (q6 af.cells ([])) 149 3::_):=jC.free (fB 149 3)
 have jE:=jD.pf [12,13,14,15,16,17,10,11]
 have jF:Own w D aC (iE U (aB.mk (dC.mk f.av (D2 (D3.wrap (((f.ax:Nat):Int)+1))) (fD (D2 (D3.wrap (((f.ax:Nat):Int)+1))) 32) f.aK (E4 f.ag.ls) (E4 f.aj.ls) (E4 f.aI.ls)) 0 (E4 ([])) (dX.mk false 0 0 (E4 ([]))) (dX.mk false 0 0 (E4 ([]))) (dX.mk false 0 0 (E4 ([]))) (dX.mk false 0 0 (E4 ([]))) (dX.mk false 0 0 (E4 ([]))) 0 0 0 0 0)::_):=fA df dh rfl rfl rfl rfl rfl rfl jE
 obtain⟨aJ,I⟩:∃ q,(aB.mk (dC.mk f.av (D2 (D3.wrap (((f.ax:Nat):Int)+1))) (fD (D2 (D3.wrap (((f.ax:Nat):Int)+1))) 32) f.aK (E4 f.ag.ls) (E4 f.aj.ls) (E4 f.aI.ls)) 0 (E4 ([])) (dX.mk false 0 0 (E4 ([]))) (dX.mk false 0 0 (E4 ([]))) (dX.mk false 0 0 (E4 ([]))) (dX.mk false 0 0 (E4 ([]))) (dX.mk false 0 0 (E4 ([]))) 0 0 0 0 0)=q:=⟨_,rfl⟩
 have jG:Own w D aC [iE U aJ,row aR 2 2 (q6 bv.cells ([(bv.mk ([]) 1),(bv.mk ([109]) 2)])) 89 2]:=by rw [← I]; exact jF
 have lh:Mk aJ:=xV f4 f4
 have ll:aJ.aa.ag.ls.length≤1000∧aJ.aa.av≤4∧aJ.ak.ls.length+aJ.aa.aj.ls.length≤8∧aJ.aa.aI.ls.length≤0:=uL f4 f4
 refine Mz rfl (Kz (vP U 0) (Kz (vI 0) (Az rfl (An rfl (FU (FU ?_))))))
 have jH:=jG.pk [0]
 refine FT (Mz rfl (Kz (.bool false) (Mz rfl (gw (vI 0) rfl (F7 rfl) (Gz (.bool false) rfl (fw (.bool false) (FX rfl rfl rfl) (nt (jf (sk (sr (Kz (.agg #[vI 2, .string ⟨y6 ([97])⟩, .string ⟨y6 ([49])⟩, .string ⟨y6 ([])⟩, .string ⟨y6 ([])⟩,vI 0]) (Kz (.agg #[vI 2, .string ⟨y6 ([122])⟩, .string ⟨y6 ([50])⟩, .string ⟨y6 ([])⟩, .string ⟨y6 ([])⟩,vI 0]) ?_))))))))))))
 refine kL [vI 2, .string ⟨y6 ([97])⟩, .string ⟨y6 ([49])⟩, .string ⟨y6 ([])⟩, .string ⟨y6 ([])⟩,vI 0,vI 2, .string ⟨y6 ([122])⟩, .string ⟨y6 ([50])⟩, .string ⟨y6 ([])⟩, .string ⟨y6 ([])⟩,vI 0] 72 6 2 jH ?_
 intro aD lm bu
 replace bu:=Gq (y:=row aD 2 2 (q6 bC.cells ([(bC.mk 2 ([97]) ([49]) ([]) ([]) 0),(bC.mk 2 ([122]) ([50]) ([]) ([]) 0)])) 72 6) rfl bu
 refine Kz (.agg (gD 1 11 0 0 0 0 1 1 0 0 0 0 0 0 0 false ([]) ([]) aD 2 2 none 0 0 none 0 0).toArray) ?_
 refine dM (gD 0 0 0 0 0 0 0 0 0 0 0 0 0 0 0 false ([]) ([]) none 0 0 none 0 0 none 0 0) 42 bu ?_
 intro gH lq gI
 refine dN (gD 1 11 0 0 0 0 1 1 0 0 0 0 0 0 0 false ([]) ([]) aD 2 2 none 0 0 none 0 0) 0 gI M6 ?_
 intro lu di
 refine ns (Mz rfl (La (gD 1 11 0 0 0 0 1 1 0 0 0 0 0 0 0 false ([]) ([]) aD 2 2 none 0 0 none 0 0) di 0 M5 M6 ?_))
 have gJ:=di.pf [2]
 obtain⟨⟨aj,dm,Z⟩,l⟩:∃ q:jW × Int × aB,eF aJ (bQ.mk 1 11 0 0 0 0 1 1 0 0 0 0 0 0 0 false (bL.mk ([]) ([])) (E4 ([(bC.mk 2 ([97]) ([49]) ([]) ([]) 0),(bC.mk 2 ([122]) ([50]) ([]) ([]) 0)])) (E4 ([])) (E4 ([])))=q:=⟨_,rfl⟩
 obtain⟨lv,ed,jI,ek,eu⟩:=Gn gJ
 refine cl U1 (jK _ _ U aJ (bQ.mk 1 11 0 0 0 0 1 1 0 0 0 0 0 0 0 false (bL.mk ([]) ([])) (E4 ([(bC.mk 2 ([97]) ([49]) ([]) ([]) 0),(bC.mk 2 ([122]) ([50]) ([]) ([]) 0)])) (E4 ([])) (E4 ([]))) aD 2 2 none 0 0 [] none 0 0 aj dm Z ed rfl (eu _ 1 _ rfl aV) f2 rfl rfl (fun _ _=>bD.nil _ _ _) f2 (fun _ h9=>absurd h9 B3) rfl (fun _ _=>bD.nil _ _ _) f2 f9 f4 l) ?_
 rintro _ lw ⟨V,aU,gK,rfl,eB,bB,bE,bG⟩
 have dn:=ek _ _ eB
 have jJ:=az bB
 have jM:=dn.rowC (i:=0) rfl
 replace bE:Z.aa.ag.ls.length=aJ.aa.ag.ls.length∧Z.aa.av=aJ.aa.av∧Z.ak.ls.length+Z.aa.aj.ls.length≤8∧Z.aa.aI.ls.length≤aJ.aa.aI.ls.length+1:=bE
 replace bG:Mk Z:=bG
 refine Mz rfl (Kz (.agg #[.slice V aj.eP.ls.length aU, .bool aj.iQ]) (Kz (vI dm) ?_))
 refine dM [.slice none 0 0, .bool false] 47 dn ?_
 intro bH lC gL
 refine dN [.slice V aj.eP.ls.length aU, .bool aj.iQ] 0 gL S4 ?_
 intro lD gM
 refine Ar rfl ?_
 refine WL.do rfl (G8 (x0:=(af.mk false ([]) (H5 none 0 ([])))) (z:= .agg #[.bool false, .string ⟨y6 ([])⟩, .slice none 0 0]) (k:=1) (size:=3) (bytes:=48) af.len f3 rfl Tryz.underlying40 e7 gM rfl rfl e6 (by unfold maxLen; omega) ?_)
 intro aS gN gP
 have aT:List.map af.abs (s0 1 (af.mk false ([]) (H5 none 0 ([]))))=(s0 1 (aY.mk false ([]) (E4 ([])))):=List.map_replicate
 have gQ:Own w D gN (sepL (q6 af.own (s0 1 (af.mk false ([]) (H5 none 0 ([])))))::_):=gP.free (uA (wO (fB 153 2)))
 have jN:s2 (s0 1 (af.mk false ([]) (H5 none 0 ([]))))=1:=H7
 have jO:s2 (s0 1 (aY.mk false ([]) (E4 ([]))))=1:=H7
 refine Kz (.agg (gD 4 1 0 0 3 0 0 0 4294967297 0 0 0 0 0 0 false ([]) ([]) none 0 0 aS 1 1 none 0 0).toArray) ?_
 refine dM (gD 0 0 0 0 0 0 0 0 0 0 0 0 0 0 0 false ([]) ([]) none 0 0 none 0 0 none 0 0) 42 gQ ?_
 intro gT lF gU
 refine dN (gD 4 1 0 0 3 0 0 0 4294967297 0 0 0 0 0 0 false ([]) ([]) none 0 0 aS 1 1 none 0 0) 0 gU M6 ?_
 intro lG dw
 refine ns (Mz rfl (La (gD 4 1 0 0 3 0 0 0 4294967297 0 0 0 0 0 0 false ([]) ([]) none 0 0 aS 1 1 none 0 0) dw 0 M5 M6 ?_))
 have dx:=dw.pf [6]
 obtain⟨⟨T,dz,aa⟩,n⟩:∃ q:jW × Int × aB,eF Z (bQ.mk 4 1 0 0 3 0 0 0 4294967297 0 0 0 0 0 0 false (bL.mk ([]) ([])) (E4 ([])) (E4 (s0 1 (aY.mk false ([]) (E4 ([]))))) (E4 ([])))=q:=⟨_,rfl⟩
 obtain⟨lH,eD,jP,eG,bI⟩:=Gn dx
 refine cl U1 (jK _ _ U Z (bQ.mk 4 1 0 0 3 0 0 0 4294967297 0 0 0 0 0 0 false (bL.mk ([]) ([])) (E4 ([])) (E4 (s0 1 (aY.mk false ([]) (E4 ([]))))) (E4 ([]))) none 0 0 aS 1 1 (s0 1 (af.mk false ([]) (H5 none 0 ([])))) none 0 0 T dz aa eD rfl (fun _ _=>bD.nil _ _ _) f2 aT f0 (fun w9 h9=>o8 (az aT) ((bI _ 2 _ rfl aV) w9 h9)) (show s2 (s0 1 (aY.mk false ([]) (E4 ([]))))≤1∧s2 (s0 1 (aY.mk false ([]) (E4 ([]))))≤9223372036854775807 from by omega) (fun x9 h9=>⟨bI _ 1 _ rfl (ay (P3.2 ⟨x9,h9,b1⟩) aV),bz (φ:=fun _=>_) dx (i:=2) rfl (ay (P3.2 ⟨x9,h9,b1⟩) bq)⟩) rfl (fun _ _=>bD.nil _ _ _) f2 f9 f4 n) ?_
 rintro _ lI ⟨bK,bM,lJ,rfl,eH,eO,bN,bO⟩
 have dA:=eG _ _ eH
 have jR:=az eO
 have jS:=dA.rowC (i:=0) rfl
 replace bN:aa.aa.ag.ls.length=Z.aa.ag.ls.length∧aa.aa.av=Z.aa.av∧aa.ak.ls.length+aa.aa.aj.ls.length≤8∧aa.aa.aI.ls.length≤Z.aa.aI.ls.length+1:=bN
 replace bO:Mk aa:=bO
 refine Mz rfl (Kz (.agg #[.slice bK T.eP.ls.length bM, .bool T.iQ]) (Kz (vI dz) ?_))
 refine dM [.slice none 0 0, .bool false] 47 dA ?_
 intro dB lK gW
 refine dN [.slice bK T.eP.ls.length bM, .bool T.iQ] 0 gW S4 ?_
 intro lL gX
 refine Ar rfl (Kz (vP gT 1) ?_)
 have gY:=gX.pf [4]
 refine dN [vI 2] 1 gY Tryz.sizeOf3 ?_
 intro lM dD
 refine ns (Mz rfl (La (gD 4 2 0 0 3 0 0 0 4294967297 0 0 0 0 0 0 false ([]) ([]) none 0 0 aS 1 1 none 0 0) dD 0 M5 M6 ?_))
 have dE:=dD.pf [4]
 obtain⟨⟨P,dG,ae⟩,o⟩:∃ q:jW × Int × aB,eF aa (bQ.mk 4 2 0 0 3 0 0 0 4294967297 0 0 0 0 0 0 false (bL.mk ([]) ([])) (E4 ([])) (E4 (s0 1 (aY.mk false ([]) (E4 ([]))))) (E4 ([])))=q:=⟨_,rfl⟩
 obtain⟨lN,eP,jT,eQ,bP⟩:=Gn dE
 refine cl U1 (jK _ _ U aa (bQ.mk 4 2 0 0 3 0 0 0 4294967297 0 0 0 0 0 0 false (bL.mk ([]) ([])) (E4 ([])) (E4 (s0 1 (aY.mk false ([]) (E4 ([]))))) (E4 ([]))) none 0 0 aS 1 1 (s0 1 (af.mk false ([]) (H5 none 0 ([])))) none 0 0 P dG ae eP rfl (fun _ _=>bD.nil _ _ _) f2 aT f0 (fun w9 h9=>o8 (az aT) ((bP _ 5 _ rfl aV) w9 h9)) (show s2 (s0 1 (aY.mk false ([]) (E4 ([]))))≤1∧s2 (s0 1 (aY.mk false ([]) (E4 ([]))))≤9223372036854775807 from by omega) (fun x9 h9=>⟨bP _ 4 _ rfl (ay (P3.2 ⟨x9,h9,b1⟩) aV),bz (φ:=fun _=>_) dE (i:=5) rfl (ay (P3.2 ⟨x9,h9,b1⟩) bq)⟩) rfl (fun _ _=>bD.nil _ _ _) f2 f9 f4 o) ?_
 rintro _ lQ ⟨W,aW,dH,rfl,eT,aX,bR,bS⟩
 have dI:=eQ _ _ eT
 have jU:=az aX
 have jV:=dI.rowC (i:=0) rfl
 replace bR:ae.aa.ag.ls.length=aa.aa.ag.ls.length∧ae.aa.av=aa.aa.av∧ae.ak.ls.length+ae.aa.aj.ls.length≤8∧ae.aa.aI.ls.length≤aa.aa.aI.ls.length+1:=bR
 replace bS:Mk ae:=bS
 refine Mz rfl (Kz (.agg #[.slice W P.eP.ls.length aW, .bool P.iQ]) (Kz (vI dG) ?_))
 refine dM [.slice none 0 0, .bool false] 47 dI ?_
 intro bf lS gZ
 refine dN [.slice W P.eP.ls.length aW, .bool P.iQ] 0 gZ S4 ?_
 intro lT ib
 refine An rfl (FU ?_)
 have dJ:=ib.px [] [4,8,9] []
 refine FT (Mz rfl (La (gD 1 11 0 0 0 0 1 1 0 0 0 0 0 0 0 false ([]) ([]) aD 2 2 none 0 0 none 0 0) dJ 10 M5 M6 ?_))
 have ic:=dJ.pf [3]
 obtain⟨⟨ak,dL,ag⟩,p⟩:∃ q:jW × Int × aB,eF ae (bQ.mk 1 11 0 0 0 0 1 1 0 0 0 0 0 0 0 false (bL.mk ([]) ([])) (E4 ([(bC.mk 2 ([97]) ([49]) ([]) ([]) 0),(bC.mk 2 ([122]) ([50]) ([]) ([]) 0)])) (E4 ([])) (E4 ([])))=q:=⟨_,rfl⟩
 obtain⟨lU,eU,jX,eX,eY⟩:=Gn ic
 refine cl U1 (jK _ _ U ae (bQ.mk 1 11 0 0 0 0 1 1 0 0 0 0 0 0 0 false (bL.mk ([]) ([])) (E4 ([(bC.mk 2 ([97]) ([49]) ([]) ([]) 0),(bC.mk 2 ([122]) ([50]) ([]) ([]) 0)])) (E4 ([])) (E4 ([]))) aD 2 2 none 0 0 [] none 0 0 ak dL ag eU rfl (eY _ 10 _ rfl aV) f2 rfl rfl (fun _ _=>bD.nil _ _ _) f2 (fun _ h9=>absurd h9 B3) rfl (fun _ _=>bD.nil _ _ _) f2 f9 f4 p) ?_
 rintro _ lV ⟨aG,bg,ig,rfl,eZ,bT,bU,bV⟩
 have dO:=eX _ _ eZ
 have jY:=az bT
 have j3:=dO.rowC (i:=0) rfl
 replace bU:ag.aa.ag.ls.length=ae.aa.ag.ls.length∧ag.aa.av=ae.aa.av∧ag.ak.ls.length+ag.aa.aj.ls.length≤8∧ag.aa.aI.ls.length≤ae.aa.aI.ls.length+1:=bU
 replace bV:Mk ag:=bV
 refine Mz rfl (Kz (.agg #[.slice aG ak.eP.ls.length bg, .bool ak.iQ]) (Kz (vI dL) ?_))
 refine dM [.slice none 0 0, .bool false] 47 dO ?_
 intro dP lW ik
 refine dN [.slice aG ak.eP.ls.length bg, .bool ak.iQ] 0 ik S4 ?_
 intro lX il
 refine Ar rfl (Kz (vP gH 7) ?_)
 have iq:=il.pf [13]
 refine dN [.int .u64 0] 7 iq M7 ?_
 intro lZ dQ
 refine ns (Mz rfl (La (gD 1 11 0 0 0 0 1 0 0 0 0 0 0 0 0 false ([]) ([]) aD 2 2 none 0 0 none 0 0) dQ 0 M5 M6 ?_))
 have iw:=dQ.pf [4]
 obtain⟨⟨au,dS,ah⟩,r⟩:∃ q:jW × Int × aB,eF ag (bQ.mk 1 11 0 0 0 0 1 0 0 0 0 0 0 0 0 false (bL.mk ([]) ([])) (E4 ([(bC.mk 2 ([97]) ([49]) ([]) ([]) 0),(bC.mk 2 ([122]) ([50]) ([]) ([]) 0)])) (E4 ([])) (E4 ([])))=q:=⟨_,rfl⟩
 obtain⟨l5,fe,j4,fq,fu⟩:=Gn iw
 refine cl U1 (jK _ _ U ag (bQ.mk 1 11 0 0 0 0 1 0 0 0 0 0 0 0 0 false (bL.mk ([]) ([])) (E4 ([(bC.mk 2 ([97]) ([49]) ([]) ([]) 0),(bC.mk 2 ([122]) ([50]) ([]) ([]) 0)])) (E4 ([])) (E4 ([]))) aD 2 2 none 0 0 [] none 0 0 au dS ah fe rfl (fu _ 13 _ rfl aV) f2 rfl rfl (fun _ _=>bD.nil _ _ _) f2 (fun _ h9=>absurd h9 B3) rfl (fun _ _=>bD.nil _ _ _) f2 f9 f4 r) ?_
 rintro _ l6 ⟨aH,bi,iy,rfl,fE,bW,bX,bY⟩
 have dU:=fq _ _ fE
 have j5:=az bW
 have j6:=dU.rowC (i:=0) rfl
 replace bX:ah.aa.ag.ls.length=ag.aa.ag.ls.length∧ah.aa.av=ag.aa.av∧ah.ak.ls.length+ah.aa.aj.ls.length≤8∧ah.aa.aI.ls.length≤ag.aa.aI.ls.length+1:=bX
 replace bY:Mk ah:=bY
 refine Mz rfl (Kz (.agg #[.slice aH au.eP.ls.length bi, .bool au.iQ]) (Kz (vI dS) ?_))
 refine dM [.slice none 0 0, .bool false] 47 dU ?_
 intro dV l7 iA
 refine dN [.slice aH au.eP.ls.length bi, .bool au.iQ] 0 iA S4 ?_
 intro l8 iB
 refine An rfl (FU ?_)
 have iC:=iB.px [] [4,17] []
 refine FT (Mz rfl (Kz (.agg (gD 7 1 0 0 0 0 0 0 99 0 0 0 0 0 0 false ([]) ([]) none 0 0 none 0 0 none 0 0).toArray) ?_))
 have iD:=iC.pf [3]
 obtain⟨⟨av,dW,aK⟩,s⟩:∃ q:jW × Int × aB,eF ah (bQ.mk 7 1 0 0 0 0 0 0 99 0 0 0 0 0 0 false (bL.mk ([]) ([])) (E4 ([])) (E4 ([])) (E4 ([])))=q:=⟨_,rfl⟩
 obtain⟨l9,fF,kg,fG,ko⟩:=Gn iD
 refine cl U1 (jK _ _ U ah (bQ.mk 7 1 0 0 0 0 0 0 99 0 0 0 0 0 0 false (bL.mk ([]) ([])) (E4 ([])) (E4 ([])) (E4 ([]))) none 0 0 none 0 0 [] none 0 0 av dW aK fF rfl (fun _ _=>bD.nil _ _ _) f2 rfl rfl (fun _ _=>bD.nil _ _ _) f2 (fun _ h9=>absurd h9 B3) rfl (fun _ _=>bD.nil _ _ _) f2 f9 f4 s) ?_
 rintro _ ma ⟨aI,bn,iF,rfl,fH,cu,cz,cB⟩
 have dY:=fG _ _ fH
 have kr:=az cu
 have ku:=dY.rowC (i:=0) rfl
 replace cz:aK.aa.ag.ls.length=ah.aa.ag.ls.length∧aK.aa.av=ah.aa.av∧aK.ak.ls.length+aK.aa.aj.ls.length≤8∧aK.aa.aI.ls.length≤ah.aa.aI.ls.length+1:=cz
 replace cB:Mk aK:=cB
 refine Mz rfl (Kz (.agg #[.slice aI av.eP.ls.length bn, .bool av.iQ]) (Kz (vI dW) ?_))
 refine dM [.slice none 0 0, .bool false] 47 dY ?_
 intro dZ mf iG
 refine dN [.slice aI av.eP.ls.length bn, .bool av.iQ] 0 iG S4 ?_
 intro mg iH
 refine An rfl (FU ?_)
 have a:=iH.px [] [3] []
 refine FT (Kz (vP bH 0) (Lz (.slice V aj.eP.ls.length aU) a 15 T0 (Kz (vJ aj.eP.ls.length) (Kz (.bool (decide (((aj.eP.ls.length:Nat):Int)=2))) (Mz rfl ?_)))))
 by_cases b:((aj.eP.ls.length:Nat):Int)=2
 refine Gz (vP bH 0) (dT b) (Gl (.slice V aj.eP.ls.length aU) (dT b) a 15 T0 ?_)
 obtain⟨u,aF⟩:=dK (ls:=gK) (i:=1) bF.len f3 (a.rds (i:=16) rfl) e9
 have B:=fo bB aF
 have kv:u.aG.ls.length≤u.aG.c∧u.aG.ls.length≤9223372036854775807:=bz a (i:=17) rfl (φ:=fun _=>_) (ay (P3.2 ⟨u,E0 aF,b1⟩) bq)
 have kw:u.ah.ls.length≤u.ah.c∧u.ah.ls.length≤9223372036854775807:=bz a (i:=17) rfl (φ:=fun _=>_) (ay (P3.2 ⟨u,E0 aF, .tail _ b1⟩) bq)
 have ky:u.ag.ls.length≤u.ag.c∧u.ag.ls.length≤9223372036854775807:=bz a (i:=17) rfl (φ:=fun _=>_) (ay (P3.2 ⟨u,E0 aF, .tail _ b2⟩) bq)
 refine gw (.pointer (some ⟨ab V,ao V+1 *21,none⟩)) (dT b) (FZ (uB) rfl rfl ((a.rds (i:=16) rfl).addr (i:=1) e6) e6) (Gz (.pointer (some ⟨ab V,ao V+1 *21,none⟩)) (dT b) (gw (vI u.aH) (dT b) (F5 rfl (bZ.one C6 (((a.rds (i:=16) rfl).elem bF.len aF f3).at_ (k:=0) rfl))) (Gz (.bool (decide (u.aH=3))) (dT b) (fw (.bool (decide (u.aH=3))) (Gb rfl (dT b) rfl) (Mz rfl ?_)))))
 by_cases d:u.aH=3
 refine Gz (vP bH 0) (dT d) (Gl (.slice V aj.eP.ls.length aU) (dT d) a 15 T0 (gw (.pointer (some ⟨ab V,ao V+1 *21,none⟩)) (dT d) (FZ (uB) rfl rfl ((a.rds (i:=16) rfl).addr (i:=1) e6) e6) (Gz (.pointer (some ⟨ab V,ao V+1 *21+8,none⟩)) (dT d) (gw (vU u.bi) (dT d) (F5 rfl (bZ.one E1 (((a.rds (i:=16) rfl).elem bF.len aF f3).at_ (k:=8) rfl))) (Gz (.bool (decide (((u.bi:Nat):Int)=4294967297))) (dT d) (fw (.bool (decide (((u.bi:Nat):Int)=4294967297))) (Gb rfl (dT d) rfl) (Mz rfl ?_)))))))
 by_cases h:((u.bi:Nat):Int)=4294967297
 refine Gz (vP dB 0) (dT h) (Gl (.slice bK T.eP.ls.length bM) (dT h) a 12 T0 (Gz (vJ T.eP.ls.length) (dT h) (Gz (.bool (decide (((T.eP.ls.length:Nat):Int)=0))) (dT h) (fw (.bool (decide (((T.eP.ls.length:Nat):Int)=0))) (Gb rfl (dT h) rfl) (Mz rfl ?_)))))
 by_cases x:((T.eP.ls.length:Nat):Int)=0
 refine Gz (vP dB 1) (dT x) (Gl (.bool T.iQ) (dT x) a 12 M3 (Gz (.bool (!T.iQ)) (dT x) (fw (.bool (!T.iQ)) (Gb rfl (dT x) rfl) (Mz rfl ?_))))
 rcases JQ (T.iQ) with j | j
 refine Sz (cn j) (Sz (cn j) (Sz (cn j) (Sz (cn j) (fw (.bool false) (FX rfl (cn j) rfl) (Mz rfl (Sz rfl (Sz rfl (Sz rfl (Sz rfl (Sz rfl (Sz rfl (fw (.bool false) (FX rfl rfl rfl) (Mz rfl (Sz rfl (Sz rfl (Sz rfl (Sz rfl (Sz rfl (fw (.bool false) (FX rfl rfl rfl) (Mz rfl (Sz rfl (Sz rfl (fw (.bool false) (FX rfl rfl rfl) (Mz rfl (Sz rfl (Sz rfl (Sz rfl (Sz rfl (fw (.bool false) (FX rfl rfl rfl) (Mz rfl (Sz rfl (Sz rfl (Sz rfl (Sz rfl (Sz rfl (Sz rfl (fw (.bool false) (FX rfl rfl rfl) (Mz rfl (Sz rfl ?_)))))))))))))))))))))))))))))))))))))))
 refine Sz rfl (Sz rfl (Sz rfl (fw (.bool false) (FX rfl rfl rfl) (Mz rfl (Sz rfl (Sz rfl (Sz rfl (Sz rfl (Sz rfl (Sz rfl (fw (.bool false) (FX rfl rfl rfl) (Mz rfl (Sz rfl (Sz rfl (Sz rfl (Sz rfl (fw (.bool false) (FX rfl rfl rfl) (Mz rfl (Sz rfl (Sz rfl (Sz rfl (Sz rfl (Sz rfl (Sz rfl (fw (.bool false) (FX rfl rfl rfl) (An rfl (rt (rs ?_))))))))))))))))))))))))))))
 have iI:=a.pk []
 obtain rfl:_=false:=hr.symm.trans (et (ai F) (et (ip O) (et (ai G) (et (ai I) (et (ai l) (et (ai n) (et (ai o) (et (ai p) (et (ai r) (et (ai s) (et (ip b) (et (ai (bJ B)) (et (ip d) (et (ip h) (et (ip x) (ip j))))))))))))))))
 exact⟨rfl,iI⟩
 refine Gz (vP bf 0) (cn j) (Gl (.slice W P.eP.ls.length aW) (cn j) a 9 T0 (Gz (vJ P.eP.ls.length) (cn j) (Gz (.bool (decide (((P.eP.ls.length:Nat):Int)=3))) (cn j) (fw (.bool (decide (((P.eP.ls.length:Nat):Int)=3))) (Gb rfl (cn j) rfl) (Mz rfl ?_)))))
 by_cases g:((P.eP.ls.length:Nat):Int)=3
 refine Gz (vP bf 0) (dT g) (Gl (.slice W P.eP.ls.length aW) (dT g) a 9 T0 ?_)
 obtain⟨J,aL⟩:=dK (ls:=dH) (i:=0) bF.len f3 (a.rds (i:=10) rfl) e9
 have Y:=fo aX aL
 have kz:J.aG.ls.length≤J.aG.c∧J.aG.ls.length≤9223372036854775807:=bz a (i:=11) rfl (φ:=fun _=>_) (ay (P3.2 ⟨J,E0 aL,b1⟩) bq)
 have kC:J.ah.ls.length≤J.ah.c∧J.ah.ls.length≤9223372036854775807:=bz a (i:=11) rfl (φ:=fun _=>_) (ay (P3.2 ⟨J,E0 aL, .tail _ b1⟩) bq)
 have kD:J.ag.ls.length≤J.ag.c∧J.ag.ls.length≤9223372036854775807:=bz a (i:=11) rfl (φ:=fun _=>_) (ay (P3.2 ⟨J,E0 aL, .tail _ b2⟩) bq)
 refine gw (.pointer (some ⟨ab W,ao W+0 *21,none⟩)) (dT g) (FZ (uB) rfl rfl ((a.rds (i:=10) rfl).addr (i:=0) e6) e6) (Gz (.pointer (some ⟨ab W,ao W+0 *21+4,none⟩)) (dT g) (gw (vI J.dz) (dT g) (F5 rfl (bZ.one C6 (((a.rds (i:=10) rfl).elem bF.len aL f3).at_ (k:=4) rfl))) (Gz (.bool (decide (J.dz=1))) (dT g) (fw (.bool (decide (J.dz=1))) (Gb rfl (dT g) rfl) (Mz rfl ?_)))))
 by_cases t:J.dz=1
 refine Gz (vP bf 0) (dT t) (Gl (.slice W P.eP.ls.length aW) (dT t) a 9 T0 ?_)
 obtain⟨Q,aM⟩:=dK (ls:=dH) (i:=2) bF.len f3 (a.rds (i:=10) rfl) e9
 have ax:=fo aX aM
 have kE:Q.aG.ls.length≤Q.aG.c∧Q.aG.ls.length≤9223372036854775807:=bz a (i:=11) rfl (φ:=fun _=>_) (ay (P3.2 ⟨Q,E0 aM,b1⟩) bq)
 have kF:Q.ah.ls.length≤Q.ah.c∧Q.ah.ls.length≤9223372036854775807:=bz a (i:=11) rfl (φ:=fun _=>_) (ay (P3.2 ⟨Q,E0 aM, .tail _ b1⟩) bq)
 have kG:Q.ag.ls.length≤Q.ag.c∧Q.ag.ls.length≤9223372036854775807:=bz a (i:=11) rfl (φ:=fun _=>_) (ay (P3.2 ⟨Q,E0 aM, .tail _ b2⟩) bq)
 refine gw (.pointer (some ⟨ab W,ao W+2 *21,none⟩)) (dT t) (FZ (uB) rfl rfl ((a.rds (i:=10) rfl).addr (i:=2) e6) e6) (Gz (.pointer (some ⟨ab W,ao W+2 *21+15,none⟩)) (dT t) (gw (.bool Q.d9) (dT t) (F5 rfl (bZ.one M3 (((a.rds (i:=10) rfl).elem bF.len aM f3).at_ (k:=15) rfl))) (fw (.bool Q.d9) (Gb rfl (dT t) rfl) (Mz rfl ?_))))
 rcases JQ (Q.d9) with R | R
 refine Gz (vP bf 1) R (Gl (.bool P.iQ) R a 9 M3 (fw (.bool P.iQ) (Gb rfl R rfl) (Mz rfl ?_)))
 rcases JQ (P.iQ) with C | C
 refine Gz (vP dP 0) C (Gl (.slice aG ak.eP.ls.length bg) C a 6 T0 (Gz (vJ ak.eP.ls.length) C (Gz (.bool (decide (((ak.eP.ls.length:Nat):Int)=1))) C (fw (.bool (decide (((ak.eP.ls.length:Nat):Int)=1))) (Gb rfl C rfl) (Mz rfl ?_)))))
 by_cases A:((ak.eP.ls.length:Nat):Int)=1
 refine Gz (vP dP 0) (dT A) (Gl (.slice aG ak.eP.ls.length bg) (dT A) a 6 T0 ?_)
 obtain⟨K,aN⟩:=dK (ls:=ig) (i:=0) bF.len f3 (a.rds (i:=7) rfl) e9
 have aO:=fo bT aN
 have kH:K.aG.ls.length≤K.aG.c∧K.aG.ls.length≤9223372036854775807:=bz a (i:=8) rfl (φ:=fun _=>_) (ay (P3.2 ⟨K,E0 aN,b1⟩) bq)
 have kI:K.ah.ls.length≤K.ah.c∧K.ah.ls.length≤9223372036854775807:=bz a (i:=8) rfl (φ:=fun _=>_) (ay (P3.2 ⟨K,E0 aN, .tail _ b1⟩) bq)
 have kJ:K.ag.ls.length≤K.ag.c∧K.ag.ls.length≤9223372036854775807:=bz a (i:=8) rfl (φ:=fun _=>_) (ay (P3.2 ⟨K,E0 aN, .tail _ b2⟩) bq)
 refine gw (.pointer (some ⟨ab aG,ao aG+0 *21,none⟩)) (dT A) (FZ (uB) rfl rfl ((a.rds (i:=7) rfl).addr (i:=0) e6) e6) (Gz (.pointer (some ⟨ab aG,ao aG+0 *21+4,none⟩)) (dT A) (gw (vI K.dz) (dT A) (F5 rfl (bZ.one C6 (((a.rds (i:=7) rfl).elem bF.len aN f3).at_ (k:=4) rfl))) (Gz (.bool (decide (K.dz=1))) (dT A) (fw (.bool (decide (K.dz=1))) (Gb rfl (dT A) rfl) (Mz rfl ?_)))))
 by_cases S:K.dz=1
 refine Gz (vP dV 0) (dT S) (Gl (.slice aH au.eP.ls.length bi) (dT S) a 3 T0 (Gz (vJ au.eP.ls.length) (dT S) (Gz (.bool (decide (((au.eP.ls.length:Nat):Int)=1))) (dT S) (fw (.bool (decide (((au.eP.ls.length:Nat):Int)=1))) (Gb rfl (dT S) rfl) (Mz rfl ?_)))))
 by_cases E:((au.eP.ls.length:Nat):Int)=1
 refine Gz (vP dV 0) (dT E) (Gl (.slice aH au.eP.ls.length bi) (dT E) a 3 T0 ?_)
 obtain⟨L,aP⟩:=dK (ls:=iy) (i:=0) bF.len f3 (a.rds (i:=4) rfl) e9
 have aZ:=fo bW aP
 have kK:L.aG.ls.length≤L.aG.c∧L.aG.ls.length≤9223372036854775807:=bz a (i:=5) rfl (φ:=fun _=>_) (ay (P3.2 ⟨L,E0 aP,b1⟩) bq)
 have kM:L.ah.ls.length≤L.ah.c∧L.ah.ls.length≤9223372036854775807:=bz a (i:=5) rfl (φ:=fun _=>_) (ay (P3.2 ⟨L,E0 aP, .tail _ b1⟩) bq)
 have kN:L.ag.ls.length≤L.ag.c∧L.ag.ls.length≤9223372036854775807:=bz a (i:=5) rfl (φ:=fun _=>_) (ay (P3.2 ⟨L,E0 aP, .tail _ b2⟩) bq)
 refine gw (.pointer (some ⟨ab aH,ao aH+0 *21,none⟩)) (dT E) (FZ (uB) rfl rfl ((a.rds (i:=4) rfl).addr (i:=0) e6) e6) (Gz (.pointer (some ⟨ab aH,ao aH+0 *21+4,none⟩)) (dT E) (gw (vI L.dz) (dT E) (F5 rfl (bZ.one C6 (((a.rds (i:=4) rfl).elem bF.len aP f3).at_ (k:=4) rfl))) (Gz (.bool (decide (L.dz=2))) (dT E) (fw (.bool (decide (L.dz=2))) (Gb rfl (dT E) rfl) (Mz rfl ?_)))))
 by_cases X:L.dz=2
 refine Gz (vP dZ 0) (dT X) (Gl (.slice aI av.eP.ls.length bn) (dT X) a 0 T0 (Gz (vJ av.eP.ls.length) (dT X) (Gz (.bool (decide (((av.eP.ls.length:Nat):Int)=1))) (dT X) (fw (.bool (decide (((av.eP.ls.length:Nat):Int)=1))) (Gb rfl (dT X) rfl) (Mz rfl ?_)))))
 by_cases M:((av.eP.ls.length:Nat):Int)=1
 refine Gz (vP dZ 0) (dT M) (Gl (.slice aI av.eP.ls.length bn) (dT M) a 0 T0 ?_)
 obtain⟨N,aQ⟩:=dK (ls:=iF) (i:=0) bF.len f3 (a.rds (i:=1) rfl) e9
 have fI:=fo cu aQ
 have kP:N.aG.ls.length≤N.aG.c∧N.aG.ls.length≤9223372036854775807:=bz a (i:=2) rfl (φ:=fun _=>_) (ay (P3.2 ⟨N,E0 aQ,b1⟩) bq)
 have kQ:N.ah.ls.length≤N.ah.c∧N.ah.ls.length≤9223372036854775807:=bz a (i:=2) rfl (φ:=fun _=>_) (ay (P3.2 ⟨N,E0 aQ, .tail _ b1⟩) bq)
 have kR:N.ag.ls.length≤N.ag.c∧N.ag.ls.length≤9223372036854775807:=bz a (i:=2) rfl (φ:=fun _=>_) (ay (P3.2 ⟨N,E0 aQ, .tail _ b2⟩) bq)
 refine gw (.pointer (some ⟨ab aI,ao aI+0 *21,none⟩)) (dT M) (FZ (uB) rfl rfl ((a.rds (i:=1) rfl).addr (i:=0) e6) e6) (Gz (.pointer (some ⟨ab aI,ao aI+0 *21+15,none⟩)) (dT M) (gw (.bool N.d9) (dT M) (F5 rfl (bZ.one M3 (((a.rds (i:=1) rfl).elem bF.len aQ f3).at_ (k:=15) rfl))) (Gz (.bool (!N.d9)) (dT M) (fw (.bool (!N.d9)) (Gb rfl (dT M) rfl) (An rfl (rt (rs ?_)))))))
 have iJ:=a.pk []
 obtain rfl:_= !N.d9:=hr.symm.trans (et (ai F) (et (ip O) (et (ai G) (et (ai I) (et (ai l) (et (ai n) (et (ai o) (et (ai p) (et (ai r) (et (ai s) (et (ip b) (et (ai (bJ B)) (et (ip d) (et (ip h) (et (ip x) (et (gB j) (et (ip g) (et (ai (bJ Y)) (et (ip t) (et (ai (bJ ax)) (et (ip R) (et (ip C) (et (ip A) (et (ai (bJ aO)) (et (ip S) (et (ip E) (et (ai (bJ aZ)) (et (ip X) (et (ip M) (ai (bJ fI)))))))))))))))))))))))))))))))
 exact⟨rfl,iJ⟩
 refine Sz (dF M) (Sz (dF M) (Sz (dF M) (Sz (dF M) (Sz (dF M) (Sz (dF M) (fw (.bool false) (FX rfl (dF M) rfl) (An rfl (rt (rs ?_)))))))))
 have iK:=a.pk []
 obtain rfl:_=false:=hr.symm.trans (et (ai F) (et (ip O) (et (ai G) (et (ai I) (et (ai l) (et (ai n) (et (ai o) (et (ai p) (et (ai r) (et (ai s) (et (ip b) (et (ai (bJ B)) (et (ip d) (et (ip h) (et (ip x) (et (gB j) (et (ip g) (et (ai (bJ Y)) (et (ip t) (et (ai (bJ ax)) (et (ip R) (et (ip C) (et (ip A) (et (ai (bJ aO)) (et (ip S) (et (ip E) (et (ai (bJ aZ)) (et (ip X) (iN M)))))))))))))))))))))))))))))
 exact⟨rfl,iK⟩
 refine Sz (dF X) (Sz (dF X) (Sz (dF X) (Sz (dF X) (fw (.bool false) (FX rfl (dF X) rfl) (Mz rfl (Sz rfl (Sz rfl (Sz rfl (Sz rfl (Sz rfl (Sz rfl (fw (.bool false) (FX rfl rfl rfl) (An rfl (rt (rs ?_)))))))))))))))
 have iL:=a.pk []
 obtain rfl:_=false:=hr.symm.trans (et (ai F) (et (ip O) (et (ai G) (et (ai I) (et (ai l) (et (ai n) (et (ai o) (et (ai p) (et (ai r) (et (ai s) (et (ip b) (et (ai (bJ B)) (et (ip d) (et (ip h) (et (ip x) (et (gB j) (et (ip g) (et (ai (bJ Y)) (et (ip t) (et (ai (bJ ax)) (et (ip R) (et (ip C) (et (ip A) (et (ai (bJ aO)) (et (ip S) (et (ip E) (et (ai (bJ aZ)) (iN X))))))))))))))))))))))))))))
 exact⟨rfl,iL⟩
 refine Sz (dF E) (Sz (dF E) (Sz (dF E) (Sz (dF E) (Sz (dF E) (Sz (dF E) (fw (.bool false) (FX rfl (dF E) rfl) (Mz rfl (Sz rfl (Sz rfl (Sz rfl (Sz rfl (fw (.bool false) (FX rfl rfl rfl) (Mz rfl (Sz rfl (Sz rfl (Sz rfl (Sz rfl (Sz rfl (Sz rfl (fw (.bool false) (FX rfl rfl rfl) (An rfl (rt (rs ?_)))))))))))))))))))))))
 have iM:=a.pk []
 obtain rfl:_=false:=hr.symm.trans (et (ai F) (et (ip O) (et (ai G) (et (ai I) (et (ai l) (et (ai n) (et (ai o) (et (ai p) (et (ai r) (et (ai s) (et (ip b) (et (ai (bJ B)) (et (ip d) (et (ip h) (et (ip x) (et (gB j) (et (ip g) (et (ai (bJ Y)) (et (ip t) (et (ai (bJ ax)) (et (ip R) (et (ip C) (et (ip A) (et (ai (bJ aO)) (et (ip S) (iN E))))))))))))))))))))))))))
 exact⟨rfl,iM⟩
 refine Sz (dF S) (Sz (dF S) (Sz (dF S) (Sz (dF S) (fw (.bool false) (FX rfl (dF S) rfl) (Mz rfl (Sz rfl (Sz rfl (Sz rfl (Sz rfl (Sz rfl (Sz rfl (fw (.bool false) (FX rfl rfl rfl) (Mz rfl (Sz rfl (Sz rfl (Sz rfl (Sz rfl (fw (.bool false) (FX rfl rfl rfl) (Mz rfl (Sz rfl (Sz rfl (Sz rfl (Sz rfl (Sz rfl (Sz rfl (fw (.bool false) (FX rfl rfl rfl) (An rfl (rt (rs ?_)))))))))))))))))))))))))))))
 have iO:=a.pk []
 obtain rfl:_=false:=hr.symm.trans (et (ai F) (et (ip O) (et (ai G) (et (ai I) (et (ai l) (et (ai n) (et (ai o) (et (ai p) (et (ai r) (et (ai s) (et (ip b) (et (ai (bJ B)) (et (ip d) (et (ip h) (et (ip x) (et (gB j) (et (ip g) (et (ai (bJ Y)) (et (ip t) (et (ai (bJ ax)) (et (ip R) (et (ip C) (et (ip A) (et (ai (bJ aO)) (iN S)))))))))))))))))))))))))
 exact⟨rfl,iO⟩
 refine Sz (dF A) (Sz (dF A) (Sz (dF A) (Sz (dF A) (Sz (dF A) (Sz (dF A) (fw (.bool false) (FX rfl (dF A) rfl) (Mz rfl (Sz rfl (Sz rfl (Sz rfl (Sz rfl (fw (.bool false) (FX rfl rfl rfl) (Mz rfl (Sz rfl (Sz rfl (Sz rfl (Sz rfl (Sz rfl (Sz rfl (fw (.bool false) (FX rfl rfl rfl) (Mz rfl (Sz rfl (Sz rfl (Sz rfl (Sz rfl (fw (.bool false) (FX rfl rfl rfl) (Mz rfl (Sz rfl (Sz rfl (Sz rfl (Sz rfl (Sz rfl (Sz rfl (fw (.bool false) (FX rfl rfl rfl) (An rfl (rt (rs ?_)))))))))))))))))))))))))))))))))))))
 have iP:=a.pk []
 obtain rfl:_=false:=hr.symm.trans (et (ai F) (et (ip O) (et (ai G) (et (ai I) (et (ai l) (et (ai n) (et (ai o) (et (ai p) (et (ai r) (et (ai s) (et (ip b) (et (ai (bJ B)) (et (ip d) (et (ip h) (et (ip x) (et (gB j) (et (ip g) (et (ai (bJ Y)) (et (ip t) (et (ai (bJ ax)) (et (ip R) (et (ip C) (iN A)))))))))))))))))))))))
 exact⟨rfl,iP⟩
 refine Sz C (Sz C (Sz C (Sz C (fw (.bool false) (FX rfl C rfl) (Mz rfl (Sz rfl (Sz rfl (Sz rfl (Sz rfl (Sz rfl (Sz rfl (fw (.bool false) (FX rfl rfl rfl) (Mz rfl (Sz rfl (Sz rfl (Sz rfl (Sz rfl (fw (.bool false) (FX rfl rfl rfl) (Mz rfl (Sz rfl (Sz rfl (Sz rfl (Sz rfl (Sz rfl (Sz rfl (fw (.bool false) (FX rfl rfl rfl) (Mz rfl (Sz rfl (Sz rfl (Sz rfl (Sz rfl (fw (.bool false) (FX rfl rfl rfl) (Mz rfl (Sz rfl (Sz rfl (Sz rfl (Sz rfl (Sz rfl (Sz rfl ?_)))))))))))))))))))))))))))))))))))))))
 refine fw (.bool false) (FX rfl rfl rfl) (An rfl (rt (rs ?_)))
 have iQ:=a.pk []
 obtain rfl:_=false:=hr.symm.trans (et (ai F) (et (ip O) (et (ai G) (et (ai I) (et (ai l) (et (ai n) (et (ai o) (et (ai p) (et (ai r) (et (ai s) (et (ip b) (et (ai (bJ B)) (et (ip d) (et (ip h) (et (ip x) (et (gB j) (et (ip g) (et (ai (bJ Y)) (et (ip t) (et (ai (bJ ax)) (et (ip R) (gB C))))))))))))))))))))))
 exact⟨rfl,iQ⟩
 refine Sz R (Sz R (fw (.bool false) (FX rfl R rfl) (Mz rfl (Sz rfl (Sz rfl (Sz rfl (Sz rfl (fw (.bool false) (FX rfl rfl rfl) (Mz rfl (Sz rfl (Sz rfl (Sz rfl (Sz rfl (Sz rfl (Sz rfl (fw (.bool false) (FX rfl rfl rfl) (Mz rfl (Sz rfl (Sz rfl (Sz rfl (Sz rfl (fw (.bool false) (FX rfl rfl rfl) (Mz rfl (Sz rfl (Sz rfl (Sz rfl (Sz rfl (Sz rfl (Sz rfl (fw (.bool false) (FX rfl rfl rfl) (Mz rfl (Sz rfl (Sz rfl (Sz rfl (Sz rfl (fw (.bool false) (FX rfl rfl rfl) (Mz rfl (Sz rfl (Sz rfl ?_)))))))))))))))))))))))))))))))))))))))
 refine Sz rfl (Sz rfl (Sz rfl (Sz rfl (fw (.bool false) (FX rfl rfl rfl) (An rfl (rt (rs ?_)))))))
 have iR:=a.pk []
 obtain rfl:_=false:=hr.symm.trans (et (ai F) (et (ip O) (et (ai G) (et (ai I) (et (ai l) (et (ai n) (et (ai o) (et (ai p) (et (ai r) (et (ai s) (et (ip b) (et (ai (bJ B)) (et (ip d) (et (ip h) (et (ip x) (et (gB j) (et (ip g) (et (ai (bJ Y)) (et (ip t) (et (ai (bJ ax)) (gB R)))))))))))))))))))))
 exact⟨rfl,iR⟩
 refine Sz (dF t) (Sz (dF t) (Sz (dF t) (Sz (dF t) (Sz (dF t) (fw (.bool false) (FX rfl (dF t) rfl) (Mz rfl (Sz rfl (Sz rfl (fw (.bool false) (FX rfl rfl rfl) (Mz rfl (Sz rfl (Sz rfl (Sz rfl (Sz rfl (fw (.bool false) (FX rfl rfl rfl) (Mz rfl (Sz rfl (Sz rfl (Sz rfl (Sz rfl (Sz rfl (Sz rfl (fw (.bool false) (FX rfl rfl rfl) (Mz rfl (Sz rfl (Sz rfl (Sz rfl (Sz rfl (fw (.bool false) (FX rfl rfl rfl) (Mz rfl (Sz rfl (Sz rfl (Sz rfl (Sz rfl (Sz rfl (Sz rfl (fw (.bool false) (FX rfl rfl rfl) (Mz rfl (Sz rfl ?_)))))))))))))))))))))))))))))))))))))))
 refine Sz rfl (Sz rfl (Sz rfl (fw (.bool false) (FX rfl rfl rfl) (Mz rfl (Sz rfl (Sz rfl (Sz rfl (Sz rfl (Sz rfl (Sz rfl (fw (.bool false) (FX rfl rfl rfl) (An rfl (rt (rs ?_))))))))))))))
 have iT:=a.pk []
 obtain rfl:_=false:=hr.symm.trans (et (ai F) (et (ip O) (et (ai G) (et (ai I) (et (ai l) (et (ai n) (et (ai o) (et (ai p) (et (ai r) (et (ai s) (et (ip b) (et (ai (bJ B)) (et (ip d) (et (ip h) (et (ip x) (et (gB j) (et (ip g) (et (ai (bJ Y)) (iN t)))))))))))))))))))
 exact⟨rfl,iT⟩
 refine Sz (dF g) (Sz (dF g) (Sz (dF g) (Sz (dF g) (Sz (dF g) (Sz (dF g) (fw (.bool false) (FX rfl (dF g) rfl) (Mz rfl (Sz rfl (Sz rfl (Sz rfl (Sz rfl (Sz rfl (fw (.bool false) (FX rfl rfl rfl) (Mz rfl (Sz rfl (Sz rfl (fw (.bool false) (FX rfl rfl rfl) (Mz rfl (Sz rfl (Sz rfl (Sz rfl (Sz rfl (fw (.bool false) (FX rfl rfl rfl) (Mz rfl (Sz rfl (Sz rfl (Sz rfl (Sz rfl (Sz rfl (Sz rfl (fw (.bool false) (FX rfl rfl rfl) (Mz rfl (Sz rfl (Sz rfl (Sz rfl (Sz rfl (fw (.bool false) (FX rfl rfl rfl) (Mz rfl (Sz rfl ?_)))))))))))))))))))))))))))))))))))))))
 refine Sz rfl (Sz rfl (Sz rfl (Sz rfl (Sz rfl (fw (.bool false) (FX rfl rfl rfl) (Mz rfl (Sz rfl (Sz rfl (Sz rfl (Sz rfl (fw (.bool false) (FX rfl rfl rfl) (Mz rfl (Sz rfl (Sz rfl (Sz rfl (Sz rfl (Sz rfl (Sz rfl (fw (.bool false) (FX rfl rfl rfl) (An rfl (rt (rs ?_))))))))))))))))))))))
 have iU:=a.pk []
 obtain rfl:_=false:=hr.symm.trans (et (ai F) (et (ip O) (et (ai G) (et (ai I) (et (ai l) (et (ai n) (et (ai o) (et (ai p) (et (ai r) (et (ai s) (et (ip b) (et (ai (bJ B)) (et (ip d) (et (ip h) (et (ip x) (et (gB j) (iN g)))))))))))))))))
 exact⟨rfl,iU⟩
 refine Sz (dF x) (Sz (dF x) (Sz (dF x) (fw (.bool false) (FX rfl (dF x) rfl) (Mz rfl (Sz rfl (Sz rfl (Sz rfl (Sz rfl (fw (.bool false) (FX rfl rfl rfl) (Mz rfl (Sz rfl (Sz rfl (Sz rfl (Sz rfl (Sz rfl (Sz rfl (fw (.bool false) (FX rfl rfl rfl) (Mz rfl (Sz rfl (Sz rfl (Sz rfl (Sz rfl (Sz rfl (fw (.bool false) (FX rfl rfl rfl) (Mz rfl (Sz rfl (Sz rfl (fw (.bool false) (FX rfl rfl rfl) (Mz rfl (Sz rfl (Sz rfl (Sz rfl (Sz rfl (fw (.bool false) (FX rfl rfl rfl) (Mz rfl (Sz rfl (Sz rfl (Sz rfl (Sz rfl ?_)))))))))))))))))))))))))))))))))))))))
 refine Sz rfl (Sz rfl (fw (.bool false) (FX rfl rfl rfl) (Mz rfl (Sz rfl (Sz rfl (Sz rfl (Sz rfl (fw (.bool false) (FX rfl rfl rfl) (Mz rfl (Sz rfl (Sz rfl (Sz rfl (Sz rfl (Sz rfl (Sz rfl (fw (.bool false) (FX rfl rfl rfl) (Mz rfl (Sz rfl (Sz rfl (Sz rfl (Sz rfl (fw (.bool false) (FX rfl rfl rfl) (Mz rfl (Sz rfl (Sz rfl (Sz rfl (Sz rfl (Sz rfl (Sz rfl (fw (.bool false) (FX rfl rfl rfl) (An rfl (rt (rs ?_)))))))))))))))))))))))))))))))))
 have iV:=a.pk []
 obtain rfl:_=false:=hr.symm.trans (et (ai F) (et (ip O) (et (ai G) (et (ai I) (et (ai l) (et (ai n) (et (ai o) (et (ai p) (et (ai r) (et (ai s) (et (ip b) (et (ai (bJ B)) (et (ip d) (et (ip h) (iN x)))))))))))))))
 exact⟨rfl,iV⟩
 refine Sz (dF h) (Sz (dF h) (Sz (dF h) (Sz (dF h) (fw (.bool false) (FX rfl (dF h) rfl) (Mz rfl (Sz rfl (Sz rfl (Sz rfl (fw (.bool false) (FX rfl rfl rfl) (Mz rfl (Sz rfl (Sz rfl (Sz rfl (Sz rfl (fw (.bool false) (FX rfl rfl rfl) (Mz rfl (Sz rfl (Sz rfl (Sz rfl (Sz rfl (Sz rfl (Sz rfl (fw (.bool false) (FX rfl rfl rfl) (Mz rfl (Sz rfl (Sz rfl (Sz rfl (Sz rfl (Sz rfl (fw (.bool false) (FX rfl rfl rfl) (Mz rfl (Sz rfl (Sz rfl (fw (.bool false) (FX rfl rfl rfl) (Mz rfl (Sz rfl (Sz rfl (Sz rfl (Sz rfl ?_)))))))))))))))))))))))))))))))))))))))
 refine fw (.bool false) (FX rfl rfl rfl) (Mz rfl (Sz rfl (Sz rfl (Sz rfl (Sz rfl (Sz rfl (Sz rfl (fw (.bool false) (FX rfl rfl rfl) (Mz rfl (Sz rfl (Sz rfl (Sz rfl (Sz rfl (fw (.bool false) (FX rfl rfl rfl) (Mz rfl (Sz rfl (Sz rfl (Sz rfl (Sz rfl (Sz rfl (Sz rfl (fw (.bool false) (FX rfl rfl rfl) (Mz rfl (Sz rfl (Sz rfl (Sz rfl (Sz rfl (fw (.bool false) (FX rfl rfl rfl) (Mz rfl (Sz rfl (Sz rfl (Sz rfl (Sz rfl (Sz rfl (Sz rfl (fw (.bool false) (FX rfl rfl rfl) (An rfl ?_)))))))))))))))))))))))))))))))))))))
 refine rt (rs ?_)
 have iW:=a.pk []
 obtain rfl:_=false:=hr.symm.trans (et (ai F) (et (ip O) (et (ai G) (et (ai I) (et (ai l) (et (ai n) (et (ai o) (et (ai p) (et (ai r) (et (ai s) (et (ip b) (et (ai (bJ B)) (et (ip d) (iN h))))))))))))))
 exact⟨rfl,iW⟩
 refine Sz (dF d) (Sz (dF d) (Sz (dF d) (Sz (dF d) (Sz (dF d) (Sz (dF d) (fw (.bool false) (FX rfl (dF d) rfl) (Mz rfl (Sz rfl (Sz rfl (Sz rfl (Sz rfl (fw (.bool false) (FX rfl rfl rfl) (Mz rfl (Sz rfl (Sz rfl (Sz rfl (fw (.bool false) (FX rfl rfl rfl) (Mz rfl (Sz rfl (Sz rfl (Sz rfl (Sz rfl (fw (.bool false) (FX rfl rfl rfl) (Mz rfl (Sz rfl (Sz rfl (Sz rfl (Sz rfl (Sz rfl (Sz rfl (fw (.bool false) (FX rfl rfl rfl) (Mz rfl (Sz rfl (Sz rfl (Sz rfl (Sz rfl (Sz rfl (fw (.bool false) (FX rfl rfl rfl) (Mz rfl ?_)))))))))))))))))))))))))))))))))))))))
 refine Sz rfl (Sz rfl (fw (.bool false) (FX rfl rfl rfl) (Mz rfl (Sz rfl (Sz rfl (Sz rfl (Sz rfl (fw (.bool false) (FX rfl rfl rfl) (Mz rfl (Sz rfl (Sz rfl (Sz rfl (Sz rfl (Sz rfl (Sz rfl (fw (.bool false) (FX rfl rfl rfl) (Mz rfl (Sz rfl (Sz rfl (Sz rfl (Sz rfl (fw (.bool false) (FX rfl rfl rfl) (Mz rfl (Sz rfl (Sz rfl (Sz rfl (Sz rfl (Sz rfl (Sz rfl (fw (.bool false) (FX rfl rfl rfl) (Mz rfl (Sz rfl (Sz rfl (Sz rfl (Sz rfl (fw (.bool false) (FX rfl rfl rfl) (Mz rfl (Sz rfl (Sz rfl ?_)))))))))))))))))))))))))))))))))))))))
 refine Sz rfl (Sz rfl (Sz rfl (Sz rfl (fw (.bool false) (FX rfl rfl rfl) (An rfl (rt (rs ?_)))))))
 have iX:=a.pk []
 obtain rfl:_=false:=hr.symm.trans (et (ai F) (et (ip O) (et (ai G) (et (ai I) (et (ai l) (et (ai n) (et (ai o) (et (ai p) (et (ai r) (et (ai s) (et (ip b) (et (ai (bJ B)) (iN d)))))))))))))
 exact⟨rfl,iX⟩
 refine Sz (dF b) (Sz (dF b) (Sz (dF b) (Sz (dF b) (Sz (dF b) (Sz (dF b) (fw (.bool false) (FX rfl (dF b) rfl) (Mz rfl (Sz rfl (Sz rfl (Sz rfl (Sz rfl (Sz rfl (Sz rfl (fw (.bool false) (FX rfl rfl rfl) (Mz rfl (Sz rfl (Sz rfl (Sz rfl (Sz rfl (fw (.bool false) (FX rfl rfl rfl) (Mz rfl (Sz rfl (Sz rfl (Sz rfl (fw (.bool false) (FX rfl rfl rfl) (Mz rfl (Sz rfl (Sz rfl (Sz rfl (Sz rfl (fw (.bool false) (FX rfl rfl rfl) (Mz rfl (Sz rfl (Sz rfl (Sz rfl (Sz rfl (Sz rfl (Sz rfl (fw (.bool false) (FX rfl rfl rfl) ?_)))))))))))))))))))))))))))))))))))))))
 refine Mz rfl (Sz rfl (Sz rfl (Sz rfl (Sz rfl (Sz rfl (fw (.bool false) (FX rfl rfl rfl) (Mz rfl (Sz rfl (Sz rfl (fw (.bool false) (FX rfl rfl rfl) (Mz rfl (Sz rfl (Sz rfl (Sz rfl (Sz rfl (fw (.bool false) (FX rfl rfl rfl) (Mz rfl (Sz rfl (Sz rfl (Sz rfl (Sz rfl (Sz rfl (Sz rfl (fw (.bool false) (FX rfl rfl rfl) (Mz rfl (Sz rfl (Sz rfl (Sz rfl (Sz rfl (fw (.bool false) (FX rfl rfl rfl) (Mz rfl (Sz rfl (Sz rfl (Sz rfl (Sz rfl (Sz rfl (Sz rfl (fw (.bool false) (FX rfl rfl rfl) (Mz rfl ?_)))))))))))))))))))))))))))))))))))))))
 refine Sz rfl (Sz rfl (Sz rfl (Sz rfl (fw (.bool false) (FX rfl rfl rfl) (Mz rfl (Sz rfl (Sz rfl (Sz rfl (Sz rfl (Sz rfl (Sz rfl (fw (.bool false) (FX rfl rfl rfl) (An rfl (rt (rs ?_)))))))))))))))
 have iY:=a.pk []
 obtain rfl:_=false:=hr.symm.trans (et (ai F) (et (ip O) (et (ai G) (et (ai I) (et (ai l) (et (ai n) (et (ai o) (et (ai p) (et (ai r) (et (ai s) (iN b)))))))))))
 exact⟨rfl,iY⟩
 refine Sz (dT O) (Sz (dT O) (Sz (dT O) (fw (.bool true) (Gb rfl (dT O) rfl) (nt (jt (sr (Az rfl (An rfl (rt (tR (Fin.res (lY rfl rfl rfl) (Mz rfl (Kz (.pointer none) (Kz (vI 1) (Az rfl (An rfl (FU (FU ?_))))))))))))))))))
 have iZ:=cO.pk []
 refine FT (Mz rfl (Kz (.bool true) (Mz rfl (Sz rfl (Sz rfl (fw (.bool true) (Gb rfl rfl rfl) (nt (jt (sr (An rfl (rt (tR (rs ?_)))))))))))))
 have ja:=iZ.pk []
 obtain rfl:_=false:=hr.symm.trans (et (ai F) (iN O))
 exact⟨rfl,ja⟩
end Go.Proofs.YtbkagebjhbphaaaGreat
