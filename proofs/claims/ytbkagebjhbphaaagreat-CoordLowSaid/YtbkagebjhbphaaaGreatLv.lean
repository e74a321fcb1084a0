/-
 coord: the chapter's examples.
-/
import Derived.Test.YtbkagebjhbphaaaGreatCoX
namespace Go.Proofs.YtbkagebjhbphaaaGreat
open Int renaming toNat→D2
open IntKind renaming u64→D3
open List renaming flatMap→q6,getD→C2,length→s2,length_replicate→H4,mem_flatMap→O7,mem_of_getElem?→E0,not_mem_nil→B3,replicate→s0,toArray→y6
open Ll renaming mk→E4
open Sv renaming mk→H2
open _root_.Go.Proofs.Tryz renaming call13→T2,isAgg28→E1,isAgg3→C6,isAgg33→S2,isAgg4→L7,isAgg42→L9,isAgg45→S4,sizeOf28→M1,sizeOf33→I1,sizeOf42→M0,sizeOf47→R8
set_option maxRecDepth 100000
open Go.RowKit
set_option linter.unusedVariables false
set_option linter.unusedSectionVars false
set_option linter.unusedSimpArgs false
def uy:Bool:=
 bnd (iX (dA.mk 2 0 0 1 (E4 ([(bv.mk ([]) 1),(bv.mk ([109]) 2)])) (E4 ([])) (E4 ([])))) fun n=>if n=0 then bnd (jh (dA.mk 2 0 0 1 (E4 ([(bv.mk ([]) 1),(bv.mk ([109]) 2)])) (E4 ([])) (E4 ([])))) fun a=>bnd ((aB.mk (dA.mk a.ak (D2 (D3.wrap (((a.ax:Nat):Int)+1))) (eQ (D2 (D3.wrap (((a.ax:Nat):Int)+1))) 32) a.aI (E4 a.ag.ls) (E4 a.aj.ls) (E4 a.aF.ls)) 0 (E4 ([])) (dV.mk false 0 0 (E4 ([]))) (dV.mk false 0 0 (E4 ([]))) (dV.mk false 0 0 (E4 ([]))) (dV.mk false 0 0 (E4 ([]))) (dV.mk false 0 0 (E4 ([]))) 0 0 0 0 0)) fun o=>bnd (dO o (bQ.mk 1 11 0 0 0 0 1 1 0 0 0 0 0 0 0 false (bK.mk ([]) ([])) (E4 ([(bC.mk 2 ([97]) ([49]) ([]) ([]) 0),(bC.mk 2 ([122]) ([50]) ([]) ([]) 0)])) (E4 ([])) (E4 ([])))) fun c=>bnd (dO c.2.2 (bQ.mk 4 1 0 0 3 0 0 0 4294967297 0 0 0 0 0 0 false (bK.mk ([]) ([])) (E4 ([])) (E4 (s0 1 (aX.mk false ([]) (E4 ([]))))) (E4 ([])))) fun d=>bnd (dO d.2.2 (bQ.mk 4 2 0 0 3 0 0 0 4294967297 0 0 0 0 0 0 false (bK.mk ([]) ([])) (E4 ([])) (E4 (s0 1 (aX.mk false ([]) (E4 ([]))))) (E4 ([])))) fun b=>bnd (dO b.2.2 (bQ.mk 1 11 0 0 0 0 1 1 0 0 0 0 0 0 0 false (bK.mk ([]) ([])) (E4 ([(bC.mk 2 ([97]) ([49]) ([]) ([]) 0),(bC.mk 2 ([122]) ([50]) ([]) ([]) 0)])) (E4 ([])) (E4 ([])))) fun e=>bnd (dO e.2.2 (bQ.mk 1 11 0 0 0 0 1 0 0 0 0 0 0 0 0 false (bK.mk ([]) ([])) (E4 ([(bC.mk 2 ([97]) ([49]) ([]) ([]) 0),(bC.mk 2 ([122]) ([50]) ([]) ([]) 0)])) (E4 ([])) (E4 ([])))) fun f=>bnd (dO f.2.2 (bQ.mk 7 1 0 0 0 0 0 0 99 0 0 0 0 0 0 false (bK.mk ([]) ([])) (E4 ([])) (E4 ([])) (E4 ([])))) fun g=>if((c.1.ed.ls.length:Nat):Int)=2 then bnd (C2 c.1.ed.ls 1 default) fun h=>if h.aM=3 then if((h.bf:Nat):Int)=4294967297 then if((d.1.ed.ls.length:Nat):Int)=0 then if d.1.iD=true then false else if((b.1.ed.ls.length:Nat):Int)=3 then bnd (C2 b.1.ed.ls 0 default) fun i=>if i.dJ=1 then bnd (C2 b.1.ed.ls 2 default) fun j=>if j.dY=true then if b.1.iD=true then if((e.1.ed.ls.length:Nat):Int)=1 then bnd (C2 e.1.ed.ls 0 default) fun k=>if k.dJ=1 then if((f.1.ed.ls.length:Nat):Int)=1 then bnd (C2 f.1.ed.ls 0 default) fun l=>if l.dJ=2 then if((g.1.ed.ls.length:Nat):Int)=1 then bnd (C2 g.1.ed.ls 0 default) fun m=> !m.dY else false else false else false else false else false else false else false else false else false else false else false else false else false else false
set_option maxHeartbeats 4000000 in
theorem zR (w:World) (D:Nat→Prop) (r0:Bool) (H:Own w D w []) (hr:uy=r0):
    Calls Tryz.prog 7 #[] w (dS fun v w'=>v= .bool r0∧Own w D w' []):=by
 refine cb Tryz.func7 ?_
 refine sr (Ar rfl ?_)
 refine WL.do rfl (Fe Tryz.call9 rfl ?_ (fun _ _ k=>k))
 refine cb Tryz.func9 ?_
 refine sr ?_
 refine dK [vI 0, .int .u64 0, .int .u64 0, .int .u64 0, .slice none 0 0, .slice none 0 0, .slice none 0 0] 33 H ?_
 intro mg mh jd
 refine ns (Kz (.agg #[.string ⟨y6 ([])⟩,vI 1]) (Kz (.agg #[.string ⟨y6 ([109])⟩,vI 2]) ?_))
 refine kG [.string ⟨y6 ([])⟩,vI 1, .string ⟨y6 ([109])⟩,vI 2] 89 2 2 jd ?_
 intro aR mi ed
 replace ed:=Fx (y:=row aR 2 2 (q6 bv.cells ([(bv.mk ([]) 1),(bv.mk ([109]) 2)])) 89 2) rfl ed
 refine Kz (.agg #[vI 2, .int .u64 0, .int .u64 0, .int .u64 1, .slice aR 2 2, .slice none 0 0, .slice none 0 0]) ?_
 have je:=ed.pb [0]
 refine dN [vI 2, .int .u64 0, .int .u64 0, .int .u64 1, .slice aR 2 2, .slice none 0 0, .slice none 0 0] 0 je I1 ?_
 intro mo fJ
 refine nt (rt (Fin.res (mP rfl rfl (Fb (cs:= [vI 2, .int .u64 0, .int .u64 0, .int .u64 1, .slice aR 2 2, .slice none 0 0, .slice none 0 0]) S2 I1 ((fJ.cls (i:=0) rfl).lit (k:=0) (m:=7) rfl))) ?_))
 refine WL.do rfl (Fe Tryz.call8 rfl ?_ (fun _ _ k=>k))
 refine cb Tryz.func8 ?_
 refine EP ?_
 have jg:=fJ.pk [1]
 refine EO ?_
 refine dK [vI 2, .int .u64 0, .int .u64 0, .int .u64 1, .slice aR 2 2, .slice none 0 0, .slice none 0 0] 33 jg ?_
 intro ji mq fK
 refine Az rfl (An rfl (EP (sr (La ([vI 2, .int .u64 0, .int .u64 0, .int .u64 1, .slice aR 2 2, .slice none 0 0, .slice none 0 0]) fK 0 S2 I1 ?_))))
 obtain⟨cK,F⟩:∃ q,iX (dA.mk 2 0 0 1 (E4 ([(bv.mk ([]) 1),(bv.mk ([109]) 2)])) (E4 ([])) (E4 ([])))=q:=⟨_,rfl⟩
 obtain⟨mr,fM,kS,fO,fP⟩:=EU fK
 refine cl Tryz.call19 (nM _ _ (dA.mk 2 0 0 1 (E4 ([(bv.mk ([]) 1),(bv.mk ([109]) 2)])) (E4 ([])) (E4 ([]))) aR 2 2 none 0 0 [] none 0 0 [] cK fM rfl (fP _ 1 _ rfl aT) f2 rfl rfl (fun _ _=>bD.nil _ _ _) f2 (fun _ h9=>absurd h9 B3) rfl rfl (fun _ _=>bD.nil _ _ _) f2 (fun _ h9=>absurd h9 B3) e8 F) ?_
 rintro _ mD ⟨rfl,fQ⟩
 have cO:=fO _ _ fQ
 refine fw (.bool (decide (¬ (cK=0)))) (Fs (e:= !(decide (cK=0))) yk decide_not.symm) (Mz rfl ?_)
 by_cases O:cK=0
 refine gw (vP ji 1) (dF (IV O)) yk (gw (.int .u64 0) (dF (IV O)) (EY rfl (bZ.one E1 (FE (cO.cls (i:=0) rfl) rfl))) (gw (.bool false) (dF (IV O)) yk (fw (.bool false) (ES rfl (dF (IV O)) rfl) (nt (jf (sk (sr (La ([vI 2, .int .u64 0, .int .u64 0, .int .u64 1, .slice aR 2 2, .slice none 0 0, .slice none 0 0]) cO 0 S2 I1 ?_))))))))
 obtain⟨f,G⟩:∃ q,jh (dA.mk 2 0 0 1 (E4 ([(bv.mk ([]) 1),(bv.mk ([109]) 2)])) (E4 ([])) (E4 ([])))=q:=⟨_,rfl⟩
 obtain⟨mE,fT,kT,fV,fZ⟩:=EU cO
 refine cl Tryz.call20 (oh _ _ (dA.mk 2 0 0 1 (E4 ([(bv.mk ([]) 1),(bv.mk ([109]) 2)])) (E4 ([])) (E4 ([]))) aR 2 2 none 0 0 [] none 0 0 [] f fT rfl (fZ _ 1 _ rfl aT) f2 rfl rfl (fun _ _=>bD.nil _ _ _) f2 (fun _ h9=>absurd h9 B3) rfl rfl (fun _ _=>bD.nil _ _ _) f2 (fun _ h9=>absurd h9 B3) e8 (by first | assumption | exact zH f5 | exact fun _ h9=>absurd h9 B3) (by first | assumption | exact zI f5 | exact fun _ h9=>absurd h9 B3) G) ?_
 rintro _ mF ⟨gm,gp,gq,gu,gy,gz,mG,mH,rfl,gB,df,dh⟩
 have cZ:=fV _ _ gB
 have kU:=az df
 have kV:=az dh
 have kW:=cZ.rowC (i:=0) rfl
 have kX:=cZ.rowC (i:=1) rfl
 have kY:=cZ.rowC (i:=3) rfl
 have kZ:f.ag.ls.length=2∧f.ak=2∧f.aj.ls.length=0∧f.aF.ls.length=0:=AA G
 refine Kz (.agg #[vI f.ak,vU f.ax,vU f.bi,vU f.aI, .slice gm f.ag.ls.length gp, .slice gq f.aj.ls.length gu, .slice gy f.aF.ls.length gz, .int .u64 0, .slice none 0 0, .bool false, .int .u64 0,vI 0, .slice none 0 0, .bool false, .int .u64 0,vI 0, .slice none 0 0, .bool false, .int .u64 0,vI 0, .slice none 0 0, .bool false, .int .u64 0,vI 0, .slice none 0 0, .bool false, .int .u64 0,vI 0, .slice none 0 0, .int .u64 0, .int .u64 0, .int .u64 0, .int .u64 0, .int .u64 0, .pointer none]) ?_
 refine dK [vI f.ak,vU f.ax,vU f.bi,vU f.aI, .slice gm f.ag.ls.length gp, .slice gq f.aj.ls.length gu, .slice gy f.aF.ls.length gz, .int .u64 0, .slice none 0 0, .bool false, .int .u64 0,vI 0, .slice none 0 0, .bool false, .int .u64 0,vI 0, .slice none 0 0, .bool false, .int .u64 0,vI 0, .slice none 0 0, .bool false, .int .u64 0,vI 0, .slice none 0 0, .bool false, .int .u64 0,vI 0, .slice none 0 0, .int .u64 0, .int .u64 0, .int .u64 0, .int .u64 0, .int .u64 0, .pointer none] 86 cZ ?_
 intro U mI jk
 refine An rfl (EP ?_)
 have gD:=jk.px [] [6] []
 refine EO (Mz rfl (Kz (vP U 0) (Kz (vP U 0) (Kz (vP U 1) (Lz (vU f.ax) gD 0 E1 (fw (.int .u64 ((D2 (D3.wrap (((f.ax:Nat):Int)+1)):Nat):Int)) (EQ (e:=D3.wrap (((f.ax:Nat):Int)+1)) yk (fe _)) (Kz (vP U 0) (Kz (vP U 0) (Kz (vP U 1) ?_)))))))))
 refine dN [.int .u64 ((D2 (D3.wrap (((f.ax:Nat):Int)+1)):Nat):Int)] 1 gD M1 ?_
 intro mJ gF
 refine ns (Mz rfl (Mz rfl (Kz (vP U 0) (Kz (vP U 0) (Kz (vP U 1) (Lz (.int .u64 ((D2 (D3.wrap (((f.ax:Nat):Int)+1)):Nat):Int)) gF 0 E1 ?_))))))
 have lc:eQ (D2 (D3.wrap (((f.ax:Nat):Int)+1))) 32≤18446744073709551615:=oC _ _
 refine fw (.int .u64 ((eQ (D2 (D3.wrap (((f.ax:Nat):Int)+1))) 32:Nat):Int)) (EQ (Gm (m:=32) rfl rfl) (fe _)) (Kz (vP U 0) (Kz (vP U 0) (Kz (vP U 2) ?_)))
 refine dN [.int .u64 ((eQ (D2 (D3.wrap (((f.ax:Nat):Int)+1))) 32:Nat):Int)] 2 gF M1 ?_
 intro aC jl
 refine ns (Mz rfl (Az rfl (An rfl (rt (Fin.res (lT rfl rfl rfl) ?_)))))
 have jm:Own w D aC (sepL (q6 bB.own ([]))::_):=jl.sepNil
 have jo:Own w D aC (row none 0 0 (q6 bB.cells ([])) 107 9::_):=jm.free (eZ 107 9)
 have jq:Own w D aC (sepL (q6 af.own ([]))::_):=jo.sepNil
 have jr:Own w D aC (row none 0 0 (q6 af.cells ([])) 149 3::_):=jq.free (eZ 149 3)
 have jv:Own w D aC (sepL (q6 af.own ([]))::_):=jr.sepNil
 have jw:Own w D aC (row none 0 0 (q6 af.cells ([])) 149 3::_):=jv.free (eZ 149 3)
 have jA:Own w D aC (sepL (q6 af.own ([]))::_):=jw.sepNil
 have jB:Own w D aC (row none 0 0 (q6 af.cells ([])) 149 3::_):=jA.free (eZ 149 3)
 have jC:Own w D aC (sepL (q6 af.own ([]))::_):=jB.sepNil
 have jD:Own w D aC (row none 0 0 (q6 af.cells ([])) 149 3::_):=jC.free (eZ 149 3)
 have jE:Own w D aC (sepL (q6 af.own ([]))::_):=jD.sepNil
 have jF:Own w D aC (row none 0 0 (q6 af.cells ([])) 149 3::_):=jE.free (eZ 149 3)
 have jG:=jF.pf [12,13,14,15,16,17,10,11]
 have jH:Own w D aC (iE U (aB.mk (dA.mk f.ak (D2 (D3.wrap (((f.ax:Nat):Int)+1))) (eQ (D2 (D3.wrap (((f.ax:Nat):Int)+1))) 32) f.aI (E4 f.ag.ls) (E4 f.aj.ls) (E4 f.aF.ls)) 0 (E4 ([])) (dV.mk false 0 0 (E4 ([]))) (dV.mk false 0 0 (E4 ([]))) (dV.mk false 0 0 (E4 ([]))) (dV.mk false 0 0 (E4 ([]))) (dV.mk false 0 0 (E4 ([]))) 0 0 0 0 0)::_):=fo df dh rfl rfl rfl rfl rfl rfl jG
 obtain⟨aJ,I⟩:∃ q,(aB.mk (dA.mk f.ak (D2 (D3.wrap (((f.ax:Nat):Int)+1))) (eQ (D2 (D3.wrap (((f.ax:Nat):Int)+1))) 32) f.aI (E4 f.ag.ls) (E4 f.aj.ls) (E4 f.aF.ls)) 0 (E4 ([])) (dV.mk false 0 0 (E4 ([]))) (dV.mk false 0 0 (E4 ([]))) (dV.mk false 0 0 (E4 ([]))) (dV.mk false 0 0 (E4 ([]))) (dV.mk false 0 0 (E4 ([]))) 0 0 0 0 0)=q:=⟨_,rfl⟩
 have jI:Own w D aC [iE U aJ,row aR 2 2 (q6 bv.cells ([(bv.mk ([]) 1),(bv.mk ([109]) 2)])) 89 2]:=by rw [← I]; exact jH
 have lg:Mk aJ:=xy f5 f5
 have lh:aJ.aa.ag.ls.length≤1000∧aJ.aa.ak≤4∧aJ.aA.ls.length+aJ.aa.aj.ls.length≤8∧aJ.aa.aF.ls.length≤0:=uw f5 f5
 refine Mz rfl (Kz (vP U 0) (Kz (vI 0) (Az rfl (An rfl (EP (EP ?_))))))
 have jJ:=jI.pk [0]
 refine EO (Mz rfl (Kz (.bool false) (Mz rfl (gw (vI 0) rfl (E5 rfl) (Gz (.bool false) rfl (fw (.bool false) (ES rfl rfl rfl) (nt (jf (sk (sr (Kz (.agg #[vI 2, .string ⟨y6 ([97])⟩, .string ⟨y6 ([49])⟩, .string ⟨y6 ([])⟩, .string ⟨y6 ([])⟩,vI 0]) (Kz (.agg #[vI 2, .string ⟨y6 ([122])⟩, .string ⟨y6 ([50])⟩, .string ⟨y6 ([])⟩, .string ⟨y6 ([])⟩,vI 0]) ?_))))))))))))
 refine kG [vI 2, .string ⟨y6 ([97])⟩, .string ⟨y6 ([49])⟩, .string ⟨y6 ([])⟩, .string ⟨y6 ([])⟩,vI 0,vI 2, .string ⟨y6 ([122])⟩, .string ⟨y6 ([50])⟩, .string ⟨y6 ([])⟩, .string ⟨y6 ([])⟩,vI 0] 72 6 2 jJ ?_
 intro aD ll bu
 replace bu:=Fx (y:=row aD 2 2 (q6 bC.cells ([(bC.mk 2 ([97]) ([49]) ([]) ([]) 0),(bC.mk 2 ([122]) ([50]) ([]) ([]) 0)])) 72 6) rfl bu
 refine Kz (.agg (gH 1 11 0 0 0 0 1 1 0 0 0 0 0 0 0 false ([]) ([]) aD 2 2 none 0 0 none 0 0).toArray) ?_
 refine dK (gH 0 0 0 0 0 0 0 0 0 0 0 0 0 0 0 false ([]) ([]) none 0 0 none 0 0 none 0 0) 42 bu ?_
 intro gG lm gI
 refine dN (gH 1 11 0 0 0 0 1 1 0 0 0 0 0 0 0 false ([]) ([]) aD 2 2 none 0 0 none 0 0) 0 gI M0 ?_
 intro lq di
 refine ns (Mz rfl (La (gH 1 11 0 0 0 0 1 1 0 0 0 0 0 0 0 false ([]) ([]) aD 2 2 none 0 0 none 0 0) di 0 L9 M0 ?_))
 have gJ:=di.pf [2]
 obtain⟨⟨aj,dm,Z⟩,l⟩:∃ q:jL × Int × aB,dO aJ (bQ.mk 1 11 0 0 0 0 1 1 0 0 0 0 0 0 0 false (bK.mk ([]) ([])) (E4 ([(bC.mk 2 ([97]) ([49]) ([]) ([]) 0),(bC.mk 2 ([122]) ([50]) ([]) ([]) 0)])) (E4 ([])) (E4 ([])))=q:=⟨_,rfl⟩
 obtain⟨lu,ek,jK,eu,eB⟩:=Fu gJ
 refine cl T2 (iU _ _ U aJ (bQ.mk 1 11 0 0 0 0 1 1 0 0 0 0 0 0 0 false (bK.mk ([]) ([])) (E4 ([(bC.mk 2 ([97]) ([49]) ([]) ([]) 0),(bC.mk 2 ([122]) ([50]) ([]) ([]) 0)])) (E4 ([])) (E4 ([]))) aD 2 2 none 0 0 [] none 0 0 aj dm Z ek rfl (eB _ 1 _ rfl aT) f2 rfl rfl (fun _ _=>bD.nil _ _ _) f2 (fun _ h9=>absurd h9 B3) rfl (fun _ _=>bD.nil _ _ _) f2 f8 f5 l) ?_
 rintro _ lv ⟨V,aV,gK,rfl,eD,bE,bF,bG⟩
 have dn:=eu _ _ eD
 have jM:=az bE
 have jN:=dn.rowC (i:=0) rfl
 replace bF:Z.aa.ag.ls.length=aJ.aa.ag.ls.length∧Z.aa.ak=aJ.aa.ak∧Z.aA.ls.length+Z.aa.aj.ls.length≤8∧Z.aa.aF.ls.length≤aJ.aa.aF.ls.length+1:=bF
 replace bG:Mk Z:=bG
 refine Mz rfl (Kz (.agg #[.slice V aj.ed.ls.length aV, .bool aj.iD]) (Kz (vI dm) ?_))
 refine dK [.slice none 0 0, .bool false] 47 dn ?_
 intro bH lw gL
 refine dN [.slice V aj.ed.ls.length aV, .bool aj.iD] 0 gL R8 ?_
 intro lC gM
 refine Ar rfl ?_
 refine WL.do rfl (F5 (x0:=(af.mk false ([]) (H2 none 0 ([])))) (z:= .agg #[.bool false, .string ⟨y6 ([])⟩, .slice none 0 0]) (k:=1) (size:=3) (bytes:=48) af.len f3 rfl Tryz.underlying40 e7 gM rfl rfl e6 (by unfold maxLen; omega) ?_)
 intro aS gN gP
 have aU:List.map af.abs (s0 1 (af.mk false ([]) (H2 none 0 ([]))))=(s0 1 (aX.mk false ([]) (E4 ([])))):=List.map_replicate
 have gQ:Own w D gN (sepL (q6 af.own (s0 1 (af.mk false ([]) (H2 none 0 ([])))))::_):=gP.free (ug (wu (eZ 153 2)))
 have jO:s2 (s0 1 (af.mk false ([]) (H2 none 0 ([]))))=1:=H4
 have jP:s2 (s0 1 (aX.mk false ([]) (E4 ([]))))=1:=H4
 refine Kz (.agg (gH 4 1 0 0 3 0 0 0 4294967297 0 0 0 0 0 0 false ([]) ([]) none 0 0 aS 1 1 none 0 0).toArray) ?_
 refine dK (gH 0 0 0 0 0 0 0 0 0 0 0 0 0 0 0 false ([]) ([]) none 0 0 none 0 0 none 0 0) 42 gQ ?_
 intro gT lD gU
 refine dN (gH 4 1 0 0 3 0 0 0 4294967297 0 0 0 0 0 0 false ([]) ([]) none 0 0 aS 1 1 none 0 0) 0 gU M0 ?_
 intro lF dw
 refine ns (Mz rfl (La (gH 4 1 0 0 3 0 0 0 4294967297 0 0 0 0 0 0 false ([]) ([]) none 0 0 aS 1 1 none 0 0) dw 0 L9 M0 ?_))
 have dx:=dw.pf [6]
 obtain⟨⟨T,dz,aa⟩,n⟩:∃ q:jL × Int × aB,dO Z (bQ.mk 4 1 0 0 3 0 0 0 4294967297 0 0 0 0 0 0 false (bK.mk ([]) ([])) (E4 ([])) (E4 (s0 1 (aX.mk false ([]) (E4 ([]))))) (E4 ([])))=q:=⟨_,rfl⟩
 obtain⟨lG,eF,jQ,eG,bJ⟩:=Fu dx
 refine cl T2 (iU _ _ U Z (bQ.mk 4 1 0 0 3 0 0 0 4294967297 0 0 0 0 0 0 false (bK.mk ([]) ([])) (E4 ([])) (E4 (s0 1 (aX.mk false ([]) (E4 ([]))))) (E4 ([]))) none 0 0 aS 1 1 (s0 1 (af.mk false ([]) (H2 none 0 ([])))) none 0 0 T dz aa eF rfl (fun _ _=>bD.nil _ _ _) f2 aU f0 (fun w9 h9=>oD (az aU) ((bJ _ 2 _ rfl aT) w9 h9)) (show s2 (s0 1 (aX.mk false ([]) (E4 ([]))))≤1∧s2 (s0 1 (aX.mk false ([]) (E4 ([]))))≤9223372036854775807 from by omega) (fun x9 h9=>⟨bJ _ 1 _ rfl (av (O7.2 ⟨x9,h9,b1⟩) aT),bz (φ:=fun _=>_) dx (i:=2) rfl (av (O7.2 ⟨x9,h9,b1⟩) bn)⟩) rfl (fun _ _=>bD.nil _ _ _) f2 f8 f5 n) ?_
 rintro _ lH ⟨bL,bM,lI,rfl,eH,eO,bN,bO⟩
 have dB:=eG _ _ eH
 have jS:=az eO
 have jT:=dB.rowC (i:=0) rfl
 replace bN:aa.aa.ag.ls.length=Z.aa.ag.ls.length∧aa.aa.ak=Z.aa.ak∧aa.aA.ls.length+aa.aa.aj.ls.length≤8∧aa.aa.aF.ls.length≤Z.aa.aF.ls.length+1:=bN
 replace bO:Mk aa:=bO
 refine Mz rfl (Kz (.agg #[.slice bL T.ed.ls.length bM, .bool T.iD]) (Kz (vI dz) ?_))
 refine dK [.slice none 0 0, .bool false] 47 dB ?_
 intro dC lJ gW
 refine dN [.slice bL T.ed.ls.length bM, .bool T.iD] 0 gW R8 ?_
 intro lK gX
 refine Ar rfl (Kz (vP gT 1) ?_)
 have gY:=gX.pf [4]
 refine dN [vI 2] 1 gY Tryz.sizeOf3 ?_
 intro lL dD
 refine ns (Mz rfl (La (gH 4 2 0 0 3 0 0 0 4294967297 0 0 0 0 0 0 false ([]) ([]) none 0 0 aS 1 1 none 0 0) dD 0 L9 M0 ?_))
 have dE:=dD.pf [4]
 obtain⟨⟨P,dH,ae⟩,o⟩:∃ q:jL × Int × aB,dO aa (bQ.mk 4 2 0 0 3 0 0 0 4294967297 0 0 0 0 0 0 false (bK.mk ([]) ([])) (E4 ([])) (E4 (s0 1 (aX.mk false ([]) (E4 ([]))))) (E4 ([])))=q:=⟨_,rfl⟩
 obtain⟨lM,eT,jU,eU,bP⟩:=Fu dE
 refine cl T2 (iU _ _ U aa (bQ.mk 4 2 0 0 3 0 0 0 4294967297 0 0 0 0 0 0 false (bK.mk ([]) ([])) (E4 ([])) (E4 (s0 1 (aX.mk false ([]) (E4 ([]))))) (E4 ([]))) none 0 0 aS 1 1 (s0 1 (af.mk false ([]) (H2 none 0 ([])))) none 0 0 P dH ae eT rfl (fun _ _=>bD.nil _ _ _) f2 aU f0 (fun w9 h9=>oD (az aU) ((bP _ 5 _ rfl aT) w9 h9)) (show s2 (s0 1 (aX.mk false ([]) (E4 ([]))))≤1∧s2 (s0 1 (aX.mk false ([]) (E4 ([]))))≤9223372036854775807 from by omega) (fun x9 h9=>⟨bP _ 4 _ rfl (av (O7.2 ⟨x9,h9,b1⟩) aT),bz (φ:=fun _=>_) dE (i:=5) rfl (av (O7.2 ⟨x9,h9,b1⟩) bn)⟩) rfl (fun _ _=>bD.nil _ _ _) f2 f8 f5 o) ?_
 rintro _ lN ⟨W,aW,dI,rfl,eX,aY,bR,bS⟩
 have dJ:=eU _ _ eX
 have jV:=az aY
 have jW:=dJ.rowC (i:=0) rfl
 replace bR:ae.aa.ag.ls.length=aa.aa.ag.ls.length∧ae.aa.ak=aa.aa.ak∧ae.aA.ls.length+ae.aa.aj.ls.length≤8∧ae.aa.aF.ls.length≤aa.aa.aF.ls.length+1:=bR
 replace bS:Mk ae:=bS
 refine Mz rfl (Kz (.agg #[.slice W P.ed.ls.length aW, .bool P.iD]) (Kz (vI dH) ?_))
 refine dK [.slice none 0 0, .bool false] 47 dJ ?_
 intro bf lQ gZ
 refine dN [.slice W P.ed.ls.length aW, .bool P.iD] 0 gZ R8 ?_
 intro lS ib
 refine An rfl (EP ?_)
 have dL:=ib.px [] [4,8,9] []
 refine EO (Mz rfl (La (gH 1 11 0 0 0 0 1 1 0 0 0 0 0 0 0 false ([]) ([]) aD 2 2 none 0 0 none 0 0) dL 10 L9 M0 ?_))
 have ic:=dL.pf [3]
 obtain⟨⟨ak,dM,ag⟩,p⟩:∃ q:jL × Int × aB,dO ae (bQ.mk 1 11 0 0 0 0 1 1 0 0 0 0 0 0 0 false (bK.mk ([]) ([])) (E4 ([(bC.mk 2 ([97]) ([49]) ([]) ([]) 0),(bC.mk 2 ([122]) ([50]) ([]) ([]) 0)])) (E4 ([])) (E4 ([])))=q:=⟨_,rfl⟩
 obtain⟨lU,eY,jX,fq,fu⟩:=Fu ic
 refine cl T2 (iU _ _ U ae (bQ.mk 1 11 0 0 0 0 1 1 0 0 0 0 0 0 0 false (bK.mk ([]) ([])) (E4 ([(bC.mk 2 ([97]) ([49]) ([]) ([]) 0),(bC.mk 2 ([122]) ([50]) ([]) ([]) 0)])) (E4 ([])) (E4 ([]))) aD 2 2 none 0 0 [] none 0 0 ak dM ag eY rfl (fu _ 10 _ rfl aT) f2 rfl rfl (fun _ _=>bD.nil _ _ _) f2 (fun _ h9=>absurd h9 B3) rfl (fun _ _=>bD.nil _ _ _) f2 f8 f5 p) ?_
 rintro _ lV ⟨aG,bg,ig,rfl,fA,bT,bU,bV⟩
 have dP:=fq _ _ fA
 have jY:=az bT
 have jZ:=dP.rowC (i:=0) rfl
 replace bU:ag.aa.ag.ls.length=ae.aa.ag.ls.length∧ag.aa.ak=ae.aa.ak∧ag.aA.ls.length+ag.aa.aj.ls.length≤8∧ag.aa.aF.ls.length≤ae.aa.aF.ls.length+1:=bU
 replace bV:Mk ag:=bV
 refine Mz rfl (Kz (.agg #[.slice aG ak.ed.ls.length bg, .bool ak.iD]) (Kz (vI dM) ?_))
 refine dK [.slice none 0 0, .bool false] 47 dP ?_
 intro dQ lW ik
 refine dN [.slice aG ak.ed.ls.length bg, .bool ak.iD] 0 ik R8 ?_
 intro lX il
 refine Ar rfl (Kz (vP gG 7) ?_)
 have iq:=il.pf [13]
 refine dN [.int .u64 0] 7 iq M1 ?_
 intro lY dR
 refine ns (Mz rfl (La (gH 1 11 0 0 0 0 1 0 0 0 0 0 0 0 0 false ([]) ([]) aD 2 2 none 0 0 none 0 0) dR 0 L9 M0 ?_))
 have iw:=dR.pf [4]
 obtain⟨⟨au,dU,ai⟩,r⟩:∃ q:jL × Int × aB,dO ag (bQ.mk 1 11 0 0 0 0 1 0 0 0 0 0 0 0 0 false (bK.mk ([]) ([])) (E4 ([(bC.mk 2 ([97]) ([49]) ([]) ([]) 0),(bC.mk 2 ([122]) ([50]) ([]) ([]) 0)])) (E4 ([])) (E4 ([])))=q:=⟨_,rfl⟩
 obtain⟨lZ,fB,j3,fC,fD⟩:=Fu iw
 refine cl T2 (iU _ _ U ag (bQ.mk 1 11 0 0 0 0 1 0 0 0 0 0 0 0 0 false (bK.mk ([]) ([])) (E4 ([(bC.mk 2 ([97]) ([49]) ([]) ([]) 0),(bC.mk 2 ([122]) ([50]) ([]) ([]) 0)])) (E4 ([])) (E4 ([]))) aD 2 2 none 0 0 [] none 0 0 au dU ai fB rfl (fD _ 13 _ rfl aT) f2 rfl rfl (fun _ _=>bD.nil _ _ _) f2 (fun _ h9=>absurd h9 B3) rfl (fun _ _=>bD.nil _ _ _) f2 f8 f5 r) ?_
 rintro _ l5 ⟨aH,bi,iy,rfl,fE,bW,bX,bY⟩
 have dW:=fC _ _ fE
 have j4:=az bW
 have j5:=dW.rowC (i:=0) rfl
 replace bX:ai.aa.ag.ls.length=ag.aa.ag.ls.length∧ai.aa.ak=ag.aa.ak∧ai.aA.ls.length+ai.aa.aj.ls.length≤8∧ai.aa.aF.ls.length≤ag.aa.aF.ls.length+1:=bX
 replace bY:Mk ai:=bY
 refine Mz rfl (Kz (.agg #[.slice aH au.ed.ls.length bi, .bool au.iD]) (Kz (vI dU) ?_))
 refine dK [.slice none 0 0, .bool false] 47 dW ?_
 intro dX l6 iA
 refine dN [.slice aH au.ed.ls.length bi, .bool au.iD] 0 iA R8 ?_
 intro l7 iB
 refine An rfl (EP ?_)
 have iC:=iB.px [] [4,17] []
 refine EO (Mz rfl (Kz (.agg (gH 7 1 0 0 0 0 0 0 99 0 0 0 0 0 0 false ([]) ([]) none 0 0 none 0 0 none 0 0).toArray) ?_))
 have iD:=iC.pf [3]
 obtain⟨⟨ax,dY,aK⟩,s⟩:∃ q:jL × Int × aB,dO ai (bQ.mk 7 1 0 0 0 0 0 0 99 0 0 0 0 0 0 false (bK.mk ([]) ([])) (E4 ([])) (E4 ([])) (E4 ([])))=q:=⟨_,rfl⟩
 obtain⟨l8,fF,j6,fG,kg⟩:=Fu iD
 refine cl T2 (iU _ _ U ai (bQ.mk 7 1 0 0 0 0 0 0 99 0 0 0 0 0 0 false (bK.mk ([]) ([])) (E4 ([])) (E4 ([])) (E4 ([]))) none 0 0 none 0 0 [] none 0 0 ax dY aK fF rfl (fun _ _=>bD.nil _ _ _) f2 rfl rfl (fun _ _=>bD.nil _ _ _) f2 (fun _ h9=>absurd h9 B3) rfl (fun _ _=>bD.nil _ _ _) f2 f8 f5 s) ?_
 rintro _ l9 ⟨aI,bq,iF,rfl,fH,cu,cz,cB⟩
 have dZ:=fG _ _ fH
 have ko:=az cu
 have kr:=dZ.rowC (i:=0) rfl
 replace cz:aK.aa.ag.ls.length=ai.aa.ag.ls.length∧aK.aa.ak=ai.aa.ak∧aK.aA.ls.length+aK.aa.aj.ls.length≤8∧aK.aa.aF.ls.length≤ai.aa.aF.ls.length+1:=cz
 replace cB:Mk aK:=cB
 refine Mz rfl (Kz (.agg #[.slice aI ax.ed.ls.length bq, .bool ax.iD]) (Kz (vI dY) ?_))
 refine dK [.slice none 0 0, .bool false] 47 dZ ?_
 intro d9 ma iG
 refine dN [.slice aI ax.ed.ls.length bq, .bool ax.iD] 0 iG R8 ?_
 intro mf iH
 refine An rfl (EP ?_)
 have a:=iH.px [] [3] []
 refine EO (Kz (vP bH 0) (Lz (.slice V aj.ed.ls.length aV) a 15 S4 (Kz (vJ aj.ed.ls.length) (Kz (.bool (decide (((aj.ed.ls.length:Nat):Int)=2))) (Mz rfl ?_)))))
 by_cases b:((aj.ed.ls.length:Nat):Int)=2
 refine Gz (vP bH 0) (dT b) (Gl (.slice V aj.ed.ls.length aV) (dT b) a 15 S4 ?_)
 obtain⟨u,aF⟩:=dG (ls:=gK) (i:=1) bA.len f3 (a.rds (i:=16) rfl) e9
 have B:=eP bE aF
 have ku:u.aD.ls.length≤u.aD.c∧u.aD.ls.length≤9223372036854775807:=bz a (i:=17) rfl (φ:=fun _=>_) (av (O7.2 ⟨u,E0 aF,b1⟩) bn)
 have kv:u.ai.ls.length≤u.ai.c∧u.ai.ls.length≤9223372036854775807:=bz a (i:=17) rfl (φ:=fun _=>_) (av (O7.2 ⟨u,E0 aF, .tail _ b1⟩) bn)
 have kw:u.ag.ls.length≤u.ag.c∧u.ag.ls.length≤9223372036854775807:=bz a (i:=17) rfl (φ:=fun _=>_) (av (O7.2 ⟨u,E0 aF, .tail _ b2⟩) bn)
 refine gw (.pointer (some ⟨ab V,ao V+1 *21,none⟩)) (dT b) (ET (uh) rfl rfl ((a.rds (i:=16) rfl).addr (i:=1) e6) e6) (Gz (.pointer (some ⟨ab V,ao V+1 *21,none⟩)) (dT b) (gw (vI u.aM) (dT b) (EY rfl (bZ.one C6 (((a.rds (i:=16) rfl).elem bA.len aF f3).at_ (k:=0) rfl))) (Gz (.bool (decide (u.aM=3))) (dT b) (fw (.bool (decide (u.aM=3))) (Fa rfl (dT b) rfl) (Mz rfl ?_)))))
 by_cases d:u.aM=3
 refine Gz (vP bH 0) (dT d) (Gl (.slice V aj.ed.ls.length aV) (dT d) a 15 S4 (gw (.pointer (some ⟨ab V,ao V+1 *21,none⟩)) (dT d) (ET (uh) rfl rfl ((a.rds (i:=16) rfl).addr (i:=1) e6) e6) (Gz (.pointer (some ⟨ab V,ao V+1 *21+8,none⟩)) (dT d) (gw (vU u.bf) (dT d) (EY rfl (bZ.one E1 (((a.rds (i:=16) rfl).elem bA.len aF f3).at_ (k:=8) rfl))) (Gz (.bool (decide (((u.bf:Nat):Int)=4294967297))) (dT d) (fw (.bool (decide (((u.bf:Nat):Int)=4294967297))) (Fa rfl (dT d) rfl) (Mz rfl ?_)))))))
 by_cases h:((u.bf:Nat):Int)=4294967297
 refine Gz (vP dC 0) (dT h) (Gl (.slice bL T.ed.ls.length bM) (dT h) a 12 S4 (Gz (vJ T.ed.ls.length) (dT h) (Gz (.bool (decide (((T.ed.ls.length:Nat):Int)=0))) (dT h) (fw (.bool (decide (((T.ed.ls.length:Nat):Int)=0))) (Fa rfl (dT h) rfl) (Mz rfl ?_)))))
 by_cases x:((T.ed.ls.length:Nat):Int)=0
 refine Gz (vP dC 1) (dT x) (Gl (.bool T.iD) (dT x) a 12 L7 (Gz (.bool (!T.iD)) (dT x) (fw (.bool (!T.iD)) (Fa rfl (dT x) rfl) (Mz rfl ?_))))
 rcases IW (T.iD) with j | j
 refine Sz (cn j) (Sz (cn j) (Sz (cn j) (Sz (cn j) (fw (.bool false) (ES rfl (cn j) rfl) (Mz rfl (Sz rfl (Sz rfl (Sz rfl (Sz rfl (Sz rfl (Sz rfl (fw (.bool false) (ES rfl rfl rfl) (Mz rfl (Sz rfl (Sz rfl (Sz rfl (Sz rfl (Sz rfl (fw (.bool false) (ES rfl rfl rfl) (Mz rfl (Sz rfl (Sz rfl (fw (.bool false) (ES rfl rfl rfl) (Mz rfl (Sz rfl (Sz rfl (Sz rfl (Sz rfl (fw (.bool false) (ES rfl rfl rfl) (Mz rfl (Sz rfl (Sz rfl (Sz rfl (Sz rfl (Sz rfl (Sz rfl (fw (.bool false) (ES rfl rfl rfl) (Mz rfl (Sz rfl ?_)))))))))))))))))))))))))))))))))))))))
 refine Sz rfl (Sz rfl (Sz rfl (fw (.bool false) (ES rfl rfl rfl) (Mz rfl (Sz rfl (Sz rfl (Sz rfl (Sz rfl (Sz rfl (Sz rfl (fw (.bool false) (ES rfl rfl rfl) (Mz rfl (Sz rfl (Sz rfl (Sz rfl (Sz rfl (fw (.bool false) (ES rfl rfl rfl) (Mz rfl (Sz rfl (Sz rfl (Sz rfl (Sz rfl (Sz rfl (Sz rfl (fw (.bool false) (ES rfl rfl rfl) (An rfl (rt (rs ?_))))))))))))))))))))))))))))
 have iI:=a.pk []
 obtain rfl:_=false:=hr.symm.trans (et (ah F) (et (ip O) (et (ah G) (et (ah I) (et (ah l) (et (ah n) (et (ah o) (et (ah p) (et (ah r) (et (ah s) (et (ip b) (et (ah (bI B)) (et (ip d) (et (ip h) (et (ip x) (ip j))))))))))))))))
 exact⟨rfl,iI⟩
 refine Gz (vP bf 0) (cn j) (Gl (.slice W P.ed.ls.length aW) (cn j) a 9 S4 (Gz (vJ P.ed.ls.length) (cn j) (Gz (.bool (decide (((P.ed.ls.length:Nat):Int)=3))) (cn j) (fw (.bool (decide (((P.ed.ls.length:Nat):Int)=3))) (Fa rfl (cn j) rfl) (Mz rfl ?_)))))
 by_cases g:((P.ed.ls.length:Nat):Int)=3
 refine Gz (vP bf 0) (dT g) (Gl (.slice W P.ed.ls.length aW) (dT g) a 9 S4 ?_)
 obtain⟨J,aL⟩:=dG (ls:=dI) (i:=0) bA.len f3 (a.rds (i:=10) rfl) e9
 have Y:=eP aY aL
 have ky:J.aD.ls.length≤J.aD.c∧J.aD.ls.length≤9223372036854775807:=bz a (i:=11) rfl (φ:=fun _=>_) (av (O7.2 ⟨J,E0 aL,b1⟩) bn)
 have kz:J.ai.ls.length≤J.ai.c∧J.ai.ls.length≤9223372036854775807:=bz a (i:=11) rfl (φ:=fun _=>_) (av (O7.2 ⟨J,E0 aL, .tail _ b1⟩) bn)
 have kC:J.ag.ls.length≤J.ag.c∧J.ag.ls.length≤9223372036854775807:=bz a (i:=11) rfl (φ:=fun _=>_) (av (O7.2 ⟨J,E0 aL, .tail _ b2⟩) bn)
 refine gw (.pointer (some ⟨ab W,ao W+0 *21,none⟩)) (dT g) (ET (uh) rfl rfl ((a.rds (i:=10) rfl).addr (i:=0) e6) e6) (Gz (.pointer (some ⟨ab W,ao W+0 *21+4,none⟩)) (dT g) (gw (vI J.dJ) (dT g) (EY rfl (bZ.one C6 (((a.rds (i:=10) rfl).elem bA.len aL f3).at_ (k:=4) rfl))) (Gz (.bool (decide (J.dJ=1))) (dT g) (fw (.bool (decide (J.dJ=1))) (Fa rfl (dT g) rfl) (Mz rfl ?_)))))
 by_cases t:J.dJ=1
 refine Gz (vP bf 0) (dT t) (Gl (.slice W P.ed.ls.length aW) (dT t) a 9 S4 ?_)
 obtain⟨Q,aM⟩:=dG (ls:=dI) (i:=2) bA.len f3 (a.rds (i:=10) rfl) e9
 have ay:=eP aY aM
 have kD:Q.aD.ls.length≤Q.aD.c∧Q.aD.ls.length≤9223372036854775807:=bz a (i:=11) rfl (φ:=fun _=>_) (av (O7.2 ⟨Q,E0 aM,b1⟩) bn)
 have kE:Q.ai.ls.length≤Q.ai.c∧Q.ai.ls.length≤9223372036854775807:=bz a (i:=11) rfl (φ:=fun _=>_) (av (O7.2 ⟨Q,E0 aM, .tail _ b1⟩) bn)
 have kF:Q.ag.ls.length≤Q.ag.c∧Q.ag.ls.length≤9223372036854775807:=bz a (i:=11) rfl (φ:=fun _=>_) (av (O7.2 ⟨Q,E0 aM, .tail _ b2⟩) bn)
 refine gw (.pointer (some ⟨ab W,ao W+2 *21,none⟩)) (dT t) (ET (uh) rfl rfl ((a.rds (i:=10) rfl).addr (i:=2) e6) e6) (Gz (.pointer (some ⟨ab W,ao W+2 *21+15,none⟩)) (dT t) (gw (.bool Q.dY) (dT t) (EY rfl (bZ.one L7 (((a.rds (i:=10) rfl).elem bA.len aM f3).at_ (k:=15) rfl))) (fw (.bool Q.dY) (Fa rfl (dT t) rfl) (Mz rfl ?_))))
 rcases IW (Q.dY) with R | R
 refine Gz (vP bf 1) R (Gl (.bool P.iD) R a 9 L7 (fw (.bool P.iD) (Fa rfl R rfl) (Mz rfl ?_)))
 rcases IW (P.iD) with C | C
 refine Gz (vP dQ 0) C (Gl (.slice aG ak.ed.ls.length bg) C a 6 S4 (Gz (vJ ak.ed.ls.length) C (Gz (.bool (decide (((ak.ed.ls.length:Nat):Int)=1))) C (fw (.bool (decide (((ak.ed.ls.length:Nat):Int)=1))) (Fa rfl C rfl) (Mz rfl ?_)))))
 by_cases A:((ak.ed.ls.length:Nat):Int)=1
 refine Gz (vP dQ 0) (dT A) (Gl (.slice aG ak.ed.ls.length bg) (dT A) a 6 S4 ?_)
 obtain⟨K,aN⟩:=dG (ls:=ig) (i:=0) bA.len f3 (a.rds (i:=7) rfl) e9
 have aO:=eP bT aN
 have kH:K.aD.ls.length≤K.aD.c∧K.aD.ls.length≤9223372036854775807:=bz a (i:=8) rfl (φ:=fun _=>_) (av (O7.2 ⟨K,E0 aN,b1⟩) bn)
 have kI:K.ai.ls.length≤K.ai.c∧K.ai.ls.length≤9223372036854775807:=bz a (i:=8) rfl (φ:=fun _=>_) (av (O7.2 ⟨K,E0 aN, .tail _ b1⟩) bn)
 have kJ:K.ag.ls.length≤K.ag.c∧K.ag.ls.length≤9223372036854775807:=bz a (i:=8) rfl (φ:=fun _=>_) (av (O7.2 ⟨K,E0 aN, .tail _ b2⟩) bn)
 refine gw (.pointer (some ⟨ab aG,ao aG+0 *21,none⟩)) (dT A) (ET (uh) rfl rfl ((a.rds (i:=7) rfl).addr (i:=0) e6) e6) (Gz (.pointer (some ⟨ab aG,ao aG+0 *21+4,none⟩)) (dT A) (gw (vI K.dJ) (dT A) (EY rfl (bZ.one C6 (((a.rds (i:=7) rfl).elem bA.len aN f3).at_ (k:=4) rfl))) (Gz (.bool (decide (K.dJ=1))) (dT A) (fw (.bool (decide (K.dJ=1))) (Fa rfl (dT A) rfl) (Mz rfl ?_)))))
 by_cases S:K.dJ=1
 refine Gz (vP dX 0) (dT S) (Gl (.slice aH au.ed.ls.length bi) (dT S) a 3 S4 (Gz (vJ au.ed.ls.length) (dT S) (Gz (.bool (decide (((au.ed.ls.length:Nat):Int)=1))) (dT S) (fw (.bool (decide (((au.ed.ls.length:Nat):Int)=1))) (Fa rfl (dT S) rfl) (Mz rfl ?_)))))
 by_cases E:((au.ed.ls.length:Nat):Int)=1
 refine Gz (vP dX 0) (dT E) (Gl (.slice aH au.ed.ls.length bi) (dT E) a 3 S4 ?_)
 obtain⟨L,aP⟩:=dG (ls:=iy) (i:=0) bA.len f3 (a.rds (i:=4) rfl) e9
 have aZ:=eP bW aP
 have kK:L.aD.ls.length≤L.aD.c∧L.aD.ls.length≤9223372036854775807:=bz a (i:=5) rfl (φ:=fun _=>_) (av (O7.2 ⟨L,E0 aP,b1⟩) bn)
 have kL:L.ai.ls.length≤L.ai.c∧L.ai.ls.length≤9223372036854775807:=bz a (i:=5) rfl (φ:=fun _=>_) (av (O7.2 ⟨L,E0 aP, .tail _ b1⟩) bn)
 have kM:L.ag.ls.length≤L.ag.c∧L.ag.ls.length≤9223372036854775807:=bz a (i:=5) rfl (φ:=fun _=>_) (av (O7.2 ⟨L,E0 aP, .tail _ b2⟩) bn)
 refine gw (.pointer (some ⟨ab aH,ao aH+0 *21,none⟩)) (dT E) (ET (uh) rfl rfl ((a.rds (i:=4) rfl).addr (i:=0) e6) e6) (Gz (.pointer (some ⟨ab aH,ao aH+0 *21+4,none⟩)) (dT E) (gw (vI L.dJ) (dT E) (EY rfl (bZ.one C6 (((a.rds (i:=4) rfl).elem bA.len aP f3).at_ (k:=4) rfl))) (Gz (.bool (decide (L.dJ=2))) (dT E) (fw (.bool (decide (L.dJ=2))) (Fa rfl (dT E) rfl) (Mz rfl ?_)))))
 by_cases X:L.dJ=2
 refine Gz (vP d9 0) (dT X) (Gl (.slice aI ax.ed.ls.length bq) (dT X) a 0 S4 (Gz (vJ ax.ed.ls.length) (dT X) (Gz (.bool (decide (((ax.ed.ls.length:Nat):Int)=1))) (dT X) (fw (.bool (decide (((ax.ed.ls.length:Nat):Int)=1))) (Fa rfl (dT X) rfl) (Mz rfl ?_)))))
 by_cases M:((ax.ed.ls.length:Nat):Int)=1
 refine Gz (vP d9 0) (dT M) (Gl (.slice aI ax.ed.ls.length bq) (dT M) a 0 S4 ?_)
 obtain⟨N,aQ⟩:=dG (ls:=iF) (i:=0) bA.len f3 (a.rds (i:=1) rfl) e9
 have fI:=eP cu aQ
 have kN:N.aD.ls.length≤N.aD.c∧N.aD.ls.length≤9223372036854775807:=bz a (i:=2) rfl (φ:=fun _=>_) (av (O7.2 ⟨N,E0 aQ,b1⟩) bn)
 have kP:N.ai.ls.length≤N.ai.c∧N.ai.ls.length≤9223372036854775807:=bz a (i:=2) rfl (φ:=fun _=>_) (av (O7.2 ⟨N,E0 aQ, .tail _ b1⟩) bn)
 have kQ:N.ag.ls.length≤N.ag.c∧N.ag.ls.length≤9223372036854775807:=bz a (i:=2) rfl (φ:=fun _=>_) (av (O7.2 ⟨N,E0 aQ, .tail _ b2⟩) bn)
 refine gw (.pointer (some ⟨ab aI,ao aI+0 *21,none⟩)) (dT M) (ET (uh) rfl rfl ((a.rds (i:=1) rfl).addr (i:=0) e6) e6) (Gz (.pointer (some ⟨ab aI,ao aI+0 *21+15,none⟩)) (dT M) (gw (.bool N.dY) (dT M) (EY rfl (bZ.one L7 (((a.rds (i:=1) rfl).elem bA.len aQ f3).at_ (k:=15) rfl))) (Gz (.bool (!N.dY)) (dT M) (fw (.bool (!N.dY)) (Fa rfl (dT M) rfl) (An rfl (rt (rs ?_)))))))
 have iJ:=a.pk []
 obtain rfl:_= !N.dY:=hr.symm.trans (et (ah F) (et (ip O) (et (ah G) (et (ah I) (et (ah l) (et (ah n) (et (ah o) (et (ah p) (et (ah r) (et (ah s) (et (ip b) (et (ah (bI B)) (et (ip d) (et (ip h) (et (ip x) (et (fU j) (et (ip g) (et (ah (bI Y)) (et (ip t) (et (ah (bI ay)) (et (ip R) (et (ip C) (et (ip A) (et (ah (bI aO)) (et (ip S) (et (ip E) (et (ah (bI aZ)) (et (ip X) (et (ip M) (ah (bI fI)))))))))))))))))))))))))))))))
 exact⟨rfl,iJ⟩
 refine Sz (dF M) (Sz (dF M) (Sz (dF M) (Sz (dF M) (Sz (dF M) (Sz (dF M) (fw (.bool false) (ES rfl (dF M) rfl) (An rfl (rt (rs ?_)))))))))
 have iK:=a.pk []
 obtain rfl:_=false:=hr.symm.trans (et (ah F) (et (ip O) (et (ah G) (et (ah I) (et (ah l) (et (ah n) (et (ah o) (et (ah p) (et (ah r) (et (ah s) (et (ip b) (et (ah (bI B)) (et (ip d) (et (ip h) (et (ip x) (et (fU j) (et (ip g) (et (ah (bI Y)) (et (ip t) (et (ah (bI ay)) (et (ip R) (et (ip C) (et (ip A) (et (ah (bI aO)) (et (ip S) (et (ip E) (et (ah (bI aZ)) (et (ip X) (iN M)))))))))))))))))))))))))))))
 exact⟨rfl,iK⟩
 refine Sz (dF X) (Sz (dF X) (Sz (dF X) (Sz (dF X) (fw (.bool false) (ES rfl (dF X) rfl) (Mz rfl (Sz rfl (Sz rfl (Sz rfl (Sz rfl (Sz rfl (Sz rfl (fw (.bool false) (ES rfl rfl rfl) (An rfl (rt (rs ?_)))))))))))))))
 have iL:=a.pk []
 obtain rfl:_=false:=hr.symm.trans (et (ah F) (et (ip O) (et (ah G) (et (ah I) (et (ah l) (et (ah n) (et (ah o) (et (ah p) (et (ah r) (et (ah s) (et (ip b) (et (ah (bI B)) (et (ip d) (et (ip h) (et (ip x) (et (fU j) (et (ip g) (et (ah (bI Y)) (et (ip t) (et (ah (bI ay)) (et (ip R) (et (ip C) (et (ip A) (et (ah (bI aO)) (et (ip S) (et (ip E) (et (ah (bI aZ)) (iN X))))))))))))))))))))))))))))
 exact⟨rfl,iL⟩
 refine Sz (dF E) (Sz (dF E) (Sz (dF E) (Sz (dF E) (Sz (dF E) (Sz (dF E) (fw (.bool false) (ES rfl (dF E) rfl) (Mz rfl (Sz rfl (Sz rfl (Sz rfl (Sz rfl (fw (.bool false) (ES rfl rfl rfl) (Mz rfl (Sz rfl (Sz rfl (Sz rfl (Sz rfl (Sz rfl (Sz rfl (fw (.bool false) (ES rfl rfl rfl) (An rfl (rt (rs ?_)))))))))))))))))))))))
 have iM:=a.pk []
 obtain rfl:_=false:=hr.symm.trans (et (ah F) (et (ip O) (et (ah G) (et (ah I) (et (ah l) (et (ah n) (et (ah o) (et (ah p) (et (ah r) (et (ah s) (et (ip b) (et (ah (bI B)) (et (ip d) (et (ip h) (et (ip x) (et (fU j) (et (ip g) (et (ah (bI Y)) (et (ip t) (et (ah (bI ay)) (et (ip R) (et (ip C) (et (ip A) (et (ah (bI aO)) (et (ip S) (iN E))))))))))))))))))))))))))
 exact⟨rfl,iM⟩
 refine Sz (dF S) (Sz (dF S) (Sz (dF S) (Sz (dF S) (fw (.bool false) (ES rfl (dF S) rfl) (Mz rfl (Sz rfl (Sz rfl (Sz rfl (Sz rfl (Sz rfl (Sz rfl (fw (.bool false) (ES rfl rfl rfl) (Mz rfl (Sz rfl (Sz rfl (Sz rfl (Sz rfl (fw (.bool false) (ES rfl rfl rfl) (Mz rfl (Sz rfl (Sz rfl (Sz rfl (Sz rfl (Sz rfl (Sz rfl (fw (.bool false) (ES rfl rfl rfl) (An rfl (rt (rs ?_)))))))))))))))))))))))))))))
 have iO:=a.pk []
 obtain rfl:_=false:=hr.symm.trans (et (ah F) (et (ip O) (et (ah G) (et (ah I) (et (ah l) (et (ah n) (et (ah o) (et (ah p) (et (ah r) (et (ah s) (et (ip b) (et (ah (bI B)) (et (ip d) (et (ip h) (et (ip x) (et (fU j) (et (ip g) (et (ah (bI Y)) (et (ip t) (et (ah (bI ay)) (et (ip R) (et (ip C) (et (ip A) (et (ah (bI aO)) (iN S)))))))))))))))))))))))))
 exact⟨rfl,iO⟩
 refine Sz (dF A) (Sz (dF A) (Sz (dF A) (Sz (dF A) (Sz (dF A) (Sz (dF A) (fw (.bool false) (ES rfl (dF A) rfl) (Mz rfl (Sz rfl (Sz rfl (Sz rfl (Sz rfl (fw (.bool false) (ES rfl rfl rfl) (Mz rfl (Sz rfl (Sz rfl (Sz rfl (Sz rfl (Sz rfl (Sz rfl (fw (.bool false) (ES rfl rfl rfl) (Mz rfl (Sz rfl (Sz rfl (Sz rfl (Sz rfl (fw (.bool false) (ES rfl rfl rfl) (Mz rfl (Sz rfl (Sz rfl (Sz rfl (Sz rfl (Sz rfl (Sz rfl (fw (.bool false) (ES rfl rfl rfl) (An rfl (rt (rs ?_)))))))))))))))))))))))))))))))))))))
 have iP:=a.pk []
 obtain rfl:_=false:=hr.symm.trans (et (ah F) (et (ip O) (et (ah G) (et (ah I) (et (ah l) (et (ah n) (et (ah o) (et (ah p) (et (ah r) (et (ah s) (et (ip b) (et (ah (bI B)) (et (ip d) (et (ip h) (et (ip x) (et (fU j) (et (ip g) (et (ah (bI Y)) (et (ip t) (et (ah (bI ay)) (et (ip R) (et (ip C) (iN A)))))))))))))))))))))))
 exact⟨rfl,iP⟩
 refine Sz C (Sz C (Sz C (Sz C (fw (.bool false) (ES rfl C rfl) (Mz rfl (Sz rfl (Sz rfl (Sz rfl (Sz rfl (Sz rfl (Sz rfl (fw (.bool false) (ES rfl rfl rfl) (Mz rfl (Sz rfl (Sz rfl (Sz rfl (Sz rfl (fw (.bool false) (ES rfl rfl rfl) (Mz rfl (Sz rfl (Sz rfl (Sz rfl (Sz rfl (Sz rfl (Sz rfl (fw (.bool false) (ES rfl rfl rfl) (Mz rfl (Sz rfl (Sz rfl (Sz rfl (Sz rfl (fw (.bool false) (ES rfl rfl rfl) (Mz rfl (Sz rfl (Sz rfl (Sz rfl (Sz rfl (Sz rfl (Sz rfl ?_)))))))))))))))))))))))))))))))))))))))
 refine fw (.bool false) (ES rfl rfl rfl) (An rfl (rt (rs ?_)))
 have iQ:=a.pk []
 obtain rfl:_=false:=hr.symm.trans (et (ah F) (et (ip O) (et (ah G) (et (ah I) (et (ah l) (et (ah n) (et (ah o) (et (ah p) (et (ah r) (et (ah s) (et (ip b) (et (ah (bI B)) (et (ip d) (et (ip h) (et (ip x) (et (fU j) (et (ip g) (et (ah (bI Y)) (et (ip t) (et (ah (bI ay)) (et (ip R) (fU C))))))))))))))))))))))
 exact⟨rfl,iQ⟩
 refine Sz R (Sz R (fw (.bool false) (ES rfl R rfl) (Mz rfl (Sz rfl (Sz rfl (Sz rfl (Sz rfl (fw (.bool false) (ES rfl rfl rfl) (Mz rfl (Sz rfl (Sz rfl (Sz rfl (Sz rfl (Sz rfl (Sz rfl (fw (.bool false) (ES rfl rfl rfl) (Mz rfl (Sz rfl (Sz rfl (Sz rfl (Sz rfl (fw (.bool false) (ES rfl rfl rfl) (Mz rfl (Sz rfl (Sz rfl (Sz rfl (Sz rfl (Sz rfl (Sz rfl (fw (.bool false) (ES rfl rfl rfl) (Mz rfl (Sz rfl (Sz rfl (Sz rfl (Sz rfl (fw (.bool false) (ES rfl rfl rfl) (Mz rfl (Sz rfl (Sz rfl ?_)))))))))))))))))))))))))))))))))))))))
 refine Sz rfl (Sz rfl (Sz rfl (Sz rfl (fw (.bool false) (ES rfl rfl rfl) (An rfl (rt (rs ?_)))))))
 have iR:=a.pk []
 obtain rfl:_=false:=hr.symm.trans (et (ah F) (et (ip O) (et (ah G) (et (ah I) (et (ah l) (et (ah n) (et (ah o) (et (ah p) (et (ah r) (et (ah s) (et (ip b) (et (ah (bI B)) (et (ip d) (et (ip h) (et (ip x) (et (fU j) (et (ip g) (et (ah (bI Y)) (et (ip t) (et (ah (bI ay)) (fU R)))))))))))))))))))))
 exact⟨rfl,iR⟩
 refine Sz (dF t) (Sz (dF t) (Sz (dF t) (Sz (dF t) (Sz (dF t) (fw (.bool false) (ES rfl (dF t) rfl) (Mz rfl (Sz rfl (Sz rfl (fw (.bool false) (ES rfl rfl rfl) (Mz rfl (Sz rfl (Sz rfl (Sz rfl (Sz rfl (fw (.bool false) (ES rfl rfl rfl) (Mz rfl (Sz rfl (Sz rfl (Sz rfl (Sz rfl (Sz rfl (Sz rfl (fw (.bool false) (ES rfl rfl rfl) (Mz rfl (Sz rfl (Sz rfl (Sz rfl (Sz rfl (fw (.bool false) (ES rfl rfl rfl) (Mz rfl (Sz rfl (Sz rfl (Sz rfl (Sz rfl (Sz rfl (Sz rfl (fw (.bool false) (ES rfl rfl rfl) (Mz rfl (Sz rfl ?_)))))))))))))))))))))))))))))))))))))))
 refine Sz rfl (Sz rfl (Sz rfl (fw (.bool false) (ES rfl rfl rfl) (Mz rfl (Sz rfl (Sz rfl (Sz rfl (Sz rfl (Sz rfl (Sz rfl (fw (.bool false) (ES rfl rfl rfl) (An rfl (rt (rs ?_))))))))))))))
 have iT:=a.pk []
 obtain rfl:_=false:=hr.symm.trans (et (ah F) (et (ip O) (et (ah G) (et (ah I) (et (ah l) (et (ah n) (et (ah o) (et (ah p) (et (ah r) (et (ah s) (et (ip b) (et (ah (bI B)) (et (ip d) (et (ip h) (et (ip x) (et (fU j) (et (ip g) (et (ah (bI Y)) (iN t)))))))))))))))))))
 exact⟨rfl,iT⟩
 refine Sz (dF g) (Sz (dF g) (Sz (dF g) (Sz (dF g) (Sz (dF g) (Sz (dF g) (fw (.bool false) (ES rfl (dF g) rfl) (Mz rfl (Sz rfl (Sz rfl (Sz rfl (Sz rfl (Sz rfl (fw (.bool false) (ES rfl rfl rfl) (Mz rfl (Sz rfl (Sz rfl (fw (.bool false) (ES rfl rfl rfl) (Mz rfl (Sz rfl (Sz rfl (Sz rfl (Sz rfl (fw (.bool false) (ES rfl rfl rfl) (Mz rfl (Sz rfl (Sz rfl (Sz rfl (Sz rfl (Sz rfl (Sz rfl (fw (.bool false) (ES rfl rfl rfl) (Mz rfl (Sz rfl (Sz rfl (Sz rfl (Sz rfl (fw (.bool false) (ES rfl rfl rfl) (Mz rfl (Sz rfl ?_)))))))))))))))))))))))))))))))))))))))
 refine Sz rfl (Sz rfl (Sz rfl (Sz rfl (Sz rfl (fw (.bool false) (ES rfl rfl rfl) (Mz rfl (Sz rfl (Sz rfl (Sz rfl (Sz rfl (fw (.bool false) (ES rfl rfl rfl) (Mz rfl (Sz rfl (Sz rfl (Sz rfl (Sz rfl (Sz rfl (Sz rfl (fw (.bool false) (ES rfl rfl rfl) (An rfl (rt (rs ?_))))))))))))))))))))))
 have iV:=a.pk []
 obtain rfl:_=false:=hr.symm.trans (et (ah F) (et (ip O) (et (ah G) (et (ah I) (et (ah l) (et (ah n) (et (ah o) (et (ah p) (et (ah r) (et (ah s) (et (ip b) (et (ah (bI B)) (et (ip d) (et (ip h) (et (ip x) (et (fU j) (iN g)))))))))))))))))
 exact⟨rfl,iV⟩
 refine Sz (dF x) (Sz (dF x) (Sz (dF x) (fw (.bool false) (ES rfl (dF x) rfl) (Mz rfl (Sz rfl (Sz rfl (Sz rfl (Sz rfl (fw (.bool false) (ES rfl rfl rfl) (Mz rfl (Sz rfl (Sz rfl (Sz rfl (Sz rfl (Sz rfl (Sz rfl (fw (.bool false) (ES rfl rfl rfl) (Mz rfl (Sz rfl (Sz rfl (Sz rfl (Sz rfl (Sz rfl (fw (.bool false) (ES rfl rfl rfl) (Mz rfl (Sz rfl (Sz rfl (fw (.bool false) (ES rfl rfl rfl) (Mz rfl (Sz rfl (Sz rfl (Sz rfl (Sz rfl (fw (.bool false) (ES rfl rfl rfl) (Mz rfl (Sz rfl (Sz rfl (Sz rfl (Sz rfl ?_)))))))))))))))))))))))))))))))))))))))
 refine Sz rfl (Sz rfl (fw (.bool false) (ES rfl rfl rfl) (Mz rfl (Sz rfl (Sz rfl (Sz rfl (Sz rfl (fw (.bool false) (ES rfl rfl rfl) (Mz rfl (Sz rfl (Sz rfl (Sz rfl (Sz rfl (Sz rfl (Sz rfl (fw (.bool false) (ES rfl rfl rfl) (Mz rfl (Sz rfl (Sz rfl (Sz rfl (Sz rfl (fw (.bool false) (ES rfl rfl rfl) (Mz rfl (Sz rfl (Sz rfl (Sz rfl (Sz rfl (Sz rfl (Sz rfl (fw (.bool false) (ES rfl rfl rfl) (An rfl (rt (rs ?_)))))))))))))))))))))))))))))))))
 have iW:=a.pk []
 obtain rfl:_=false:=hr.symm.trans (et (ah F) (et (ip O) (et (ah G) (et (ah I) (et (ah l) (et (ah n) (et (ah o) (et (ah p) (et (ah r) (et (ah s) (et (ip b) (et (ah (bI B)) (et (ip d) (et (ip h) (iN x)))))))))))))))
 exact⟨rfl,iW⟩
 refine Sz (dF h) (Sz (dF h) (Sz (dF h) (Sz (dF h) (fw (.bool false) (ES rfl (dF h) rfl) (Mz rfl (Sz rfl (Sz rfl (Sz rfl (fw (.bool false) (ES rfl rfl rfl) (Mz rfl (Sz rfl (Sz rfl (Sz rfl (Sz rfl (fw (.bool false) (ES rfl rfl rfl) (Mz rfl (Sz rfl (Sz rfl (Sz rfl (Sz rfl (Sz rfl (Sz rfl (fw (.bool false) (ES rfl rfl rfl) (Mz rfl (Sz rfl (Sz rfl (Sz rfl (Sz rfl (Sz rfl (fw (.bool false) (ES rfl rfl rfl) (Mz rfl (Sz rfl (Sz rfl (fw (.bool false) (ES rfl rfl rfl) (Mz rfl (Sz rfl (Sz rfl (Sz rfl (Sz rfl ?_)))))))))))))))))))))))))))))))))))))))
 refine fw (.bool false) (ES rfl rfl rfl) (Mz rfl (Sz rfl (Sz rfl (Sz rfl (Sz rfl (Sz rfl (Sz rfl (fw (.bool false) (ES rfl rfl rfl) (Mz rfl (Sz rfl (Sz rfl (Sz rfl (Sz rfl (fw (.bool false) (ES rfl rfl rfl) (Mz rfl (Sz rfl (Sz rfl (Sz rfl (Sz rfl (Sz rfl (Sz rfl (fw (.bool false) (ES rfl rfl rfl) (Mz rfl (Sz rfl (Sz rfl (Sz rfl (Sz rfl (fw (.bool false) (ES rfl rfl rfl) (Mz rfl (Sz rfl (Sz rfl (Sz rfl (Sz rfl (Sz rfl (Sz rfl (fw (.bool false) (ES rfl rfl rfl) (An rfl ?_)))))))))))))))))))))))))))))))))))))
 refine rt (rs ?_)
 have iY:=a.pk []
 obtain rfl:_=false:=hr.symm.trans (et (ah F) (et (ip O) (et (ah G) (et (ah I) (et (ah l) (et (ah n) (et (ah o) (et (ah p) (et (ah r) (et (ah s) (et (ip b) (et (ah (bI B)) (et (ip d) (iN h))))))))))))))
 exact⟨rfl,iY⟩
 refine Sz (dF d) (Sz (dF d) (Sz (dF d) (Sz (dF d) (Sz (dF d) (Sz (dF d) (fw (.bool false) (ES rfl (dF d) rfl) (Mz rfl (Sz rfl (Sz rfl (Sz rfl (Sz rfl (fw (.bool false) (ES rfl rfl rfl) (Mz rfl (Sz rfl (Sz rfl (Sz rfl (fw (.bool false) (ES rfl rfl rfl) (Mz rfl (Sz rfl (Sz rfl (Sz rfl (Sz rfl (fw (.bool false) (ES rfl rfl rfl) (Mz rfl (Sz rfl (Sz rfl (Sz rfl (Sz rfl (Sz rfl (Sz rfl (fw (.bool false) (ES rfl rfl rfl) (Mz rfl (Sz rfl (Sz rfl (Sz rfl (Sz rfl (Sz rfl (fw (.bool false) (ES rfl rfl rfl) (Mz rfl ?_)))))))))))))))))))))))))))))))))))))))
 refine Sz rfl (Sz rfl (fw (.bool false) (ES rfl rfl rfl) (Mz rfl (Sz rfl (Sz rfl (Sz rfl (Sz rfl (fw (.bool false) (ES rfl rfl rfl) (Mz rfl (Sz rfl (Sz rfl (Sz rfl (Sz rfl (Sz rfl (Sz rfl (fw (.bool false) (ES rfl rfl rfl) (Mz rfl (Sz rfl (Sz rfl (Sz rfl (Sz rfl (fw (.bool false) (ES rfl rfl rfl) (Mz rfl (Sz rfl (Sz rfl (Sz rfl (Sz rfl (Sz rfl (Sz rfl (fw (.bool false) (ES rfl rfl rfl) (Mz rfl (Sz rfl (Sz rfl (Sz rfl (Sz rfl (fw (.bool false) (ES rfl rfl rfl) (Mz rfl (Sz rfl (Sz rfl ?_)))))))))))))))))))))))))))))))))))))))
 refine Sz rfl (Sz rfl (Sz rfl (Sz rfl (fw (.bool false) (ES rfl rfl rfl) (An rfl (rt (rs ?_)))))))
 have iZ:=a.pk []
 obtain rfl:_=false:=hr.symm.trans (et (ah F) (et (ip O) (et (ah G) (et (ah I) (et (ah l) (et (ah n) (et (ah o) (et (ah p) (et (ah r) (et (ah s) (et (ip b) (et (ah (bI B)) (iN d)))))))))))))
 exact⟨rfl,iZ⟩
 refine Sz (dF b) (Sz (dF b) (Sz (dF b) (Sz (dF b) (Sz (dF b) (Sz (dF b) (fw (.bool false) (ES rfl (dF b) rfl) (Mz rfl (Sz rfl (Sz rfl (Sz rfl (Sz rfl (Sz rfl (Sz rfl (fw (.bool false) (ES rfl rfl rfl) (Mz rfl (Sz rfl (Sz rfl (Sz rfl (Sz rfl (fw (.bool false) (ES rfl rfl rfl) (Mz rfl (Sz rfl (Sz rfl (Sz rfl (fw (.bool false) (ES rfl rfl rfl) (Mz rfl (Sz rfl (Sz rfl (Sz rfl (Sz rfl (fw (.bool false) (ES rfl rfl rfl) (Mz rfl (Sz rfl (Sz rfl (Sz rfl (Sz rfl (Sz rfl (Sz rfl (fw (.bool false) (ES rfl rfl rfl) ?_)))))))))))))))))))))))))))))))))))))))
 refine Mz rfl (Sz rfl (Sz rfl (Sz rfl (Sz rfl (Sz rfl (fw (.bool false) (ES rfl rfl rfl) (Mz rfl (Sz rfl (Sz rfl (fw (.bool false) (ES rfl rfl rfl) (Mz rfl (Sz rfl (Sz rfl (Sz rfl (Sz rfl (fw (.bool false) (ES rfl rfl rfl) (Mz rfl (Sz rfl (Sz rfl (Sz rfl (Sz rfl (Sz rfl (Sz rfl (fw (.bool false) (ES rfl rfl rfl) (Mz rfl (Sz rfl (Sz rfl (Sz rfl (Sz rfl (fw (.bool false) (ES rfl rfl rfl) (Mz rfl (Sz rfl (Sz rfl (Sz rfl (Sz rfl (Sz rfl (Sz rfl (fw (.bool false) (ES rfl rfl rfl) (Mz rfl ?_)))))))))))))))))))))))))))))))))))))))
 refine Sz rfl (Sz rfl (Sz rfl (Sz rfl (fw (.bool false) (ES rfl rfl rfl) (Mz rfl (Sz rfl (Sz rfl (Sz rfl (Sz rfl (Sz rfl (Sz rfl (fw (.bool false) (ES rfl rfl rfl) (An rfl (rt (rs ?_)))))))))))))))
 have ja:=a.pk []
 obtain rfl:_=false:=hr.symm.trans (et (ah F) (et (ip O) (et (ah G) (et (ah I) (et (ah l) (et (ah n) (et (ah o) (et (ah p) (et (ah r) (et (ah s) (iN b)))))))))))
 exact⟨rfl,ja⟩
 refine Sz (dT O) (Sz (dT O) (Sz (dT O) (fw (.bool true) (Fa rfl (dT O) rfl) (nt (jt (sr (Az rfl (An rfl (rt (tR (Fin.res (lT rfl rfl rfl) (Mz rfl (Kz (.pointer none) (Kz (vI 1) (Az rfl (An rfl (EP (EP ?_))))))))))))))))))
 have jb:=cO.pk []
 refine EO (Mz rfl (Kz (.bool true) (Mz rfl (Sz rfl (Sz rfl (fw (.bool true) (Fa rfl rfl rfl) (nt (jt (sr (An rfl (rt (tR (rs ?_)))))))))))))
 have jc:=jb.pk []
 obtain rfl:_=false:=hr.symm.trans (et (ah F) (iN O))
 exact⟨rfl,jc⟩
end Go.Proofs.YtbkagebjhbphaaaGreat
