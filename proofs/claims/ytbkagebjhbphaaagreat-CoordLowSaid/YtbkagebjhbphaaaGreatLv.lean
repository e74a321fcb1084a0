/-
 coord: the chapter's examples.
-/
import Derived.Test.YtbkagebjhbphaaaGreatCoX
namespace Go.Proofs.YtbkagebjhbphaaaGreat
set_option maxRecDepth 100000
open Go.RowKit
set_option linter.unusedVariables false
set_option linter.unusedSectionVars false
set_option linter.unusedSimpArgs false
def uA:Bool:=
 bnd (iY (dC.mk 2 0 0 1 (Ll.mk ([(bv.mk ([]) 1),(bv.mk ([109]) 2)])) (Ll.mk ([])) (Ll.mk ([])))) fun n=>if n=0 then bnd (jk (dC.mk 2 0 0 1 (Ll.mk ([(bv.mk ([]) 1),(bv.mk ([109]) 2)])) (Ll.mk ([])) (Ll.mk ([])))) fun a=>bnd ((aC.mk (dC.mk a.au (Int.toNat (IntKind.u64.wrap (((a.ay:Nat):Int)+1))) (eT (Int.toNat (IntKind.u64.wrap (((a.ay:Nat):Int)+1))) 32) a.aH (Ll.mk a.ag.ls) (Ll.mk a.aj.ls) (Ll.mk a.aG.ls)) 0 (Ll.mk ([])) (dY.mk false 0 0 (Ll.mk ([]))) (dY.mk false 0 0 (Ll.mk ([]))) (dY.mk false 0 0 (Ll.mk ([]))) (dY.mk false 0 0 (Ll.mk ([]))) (dY.mk false 0 0 (Ll.mk ([]))) 0 0 0 0 0)) fun o=>bnd (dh o (bP.mk 1 11 0 0 0 0 1 1 0 0 0 0 0 0 0 false (bK.mk ([]) ([])) (Ll.mk ([(bC.mk 2 ([97]) ([49]) ([]) ([]) 0),(bC.mk 2 ([122]) ([50]) ([]) ([]) 0)])) (Ll.mk ([])) (Ll.mk ([])))) fun c=>bnd (dh c.2.2 (bP.mk 4 1 0 0 3 0 0 0 4294967297 0 0 0 0 0 0 false (bK.mk ([]) ([])) (Ll.mk ([])) (Ll.mk (List.replicate 1 (aZ.mk false ([]) (Ll.mk ([]))))) (Ll.mk ([])))) fun d=>bnd (dh d.2.2 (bP.mk 4 2 0 0 3 0 0 0 4294967297 0 0 0 0 0 0 false (bK.mk ([]) ([])) (Ll.mk ([])) (Ll.mk (List.replicate 1 (aZ.mk false ([]) (Ll.mk ([]))))) (Ll.mk ([])))) fun b=>bnd (dh b.2.2 (bP.mk 1 11 0 0 0 0 1 1 0 0 0 0 0 0 0 false (bK.mk ([]) ([])) (Ll.mk ([(bC.mk 2 ([97]) ([49]) ([]) ([]) 0),(bC.mk 2 ([122]) ([50]) ([]) ([]) 0)])) (Ll.mk ([])) (Ll.mk ([])))) fun e=>bnd (dh e.2.2 (bP.mk 1 11 0 0 0 0 1 0 0 0 0 0 0 0 0 false (bK.mk ([]) ([])) (Ll.mk ([(bC.mk 2 ([97]) ([49]) ([]) ([]) 0),(bC.mk 2 ([122]) ([50]) ([]) ([]) 0)])) (Ll.mk ([])) (Ll.mk ([])))) fun f=>bnd (dh f.2.2 (bP.mk 7 1 0 0 0 0 0 0 99 0 0 0 0 0 0 false (bK.mk ([]) ([])) (Ll.mk ([])) (Ll.mk ([])) (Ll.mk ([])))) fun g=>if((c.1.dR.ls.length:Nat):Int)=2 then bnd (List.getD c.1.dR.ls 1 default) fun h=>if h.aI=3 then if((h.bf:Nat):Int)=4294967297 then if((d.1.dR.ls.length:Nat):Int)=0 then if d.1.gB=true then false else if((b.1.dR.ls.length:Nat):Int)=3 then bnd (List.getD b.1.dR.ls 0 default) fun i=>if i.dz=1 then bnd (List.getD b.1.dR.ls 2 default) fun j=>if j.dI=true then if b.1.gB=true then if((e.1.dR.ls.length:Nat):Int)=1 then bnd (List.getD e.1.dR.ls 0 default) fun k=>if k.dz=1 then if((f.1.dR.ls.length:Nat):Int)=1 then bnd (List.getD f.1.dR.ls 0 default) fun l=>if l.dz=2 then if((g.1.dR.ls.length:Nat):Int)=1 then bnd (List.getD g.1.dR.ls 0 default) fun m=> !m.dI else false else false else false else false else false else false else false else false else false else false else false else false else false else false
set_option maxHeartbeats 4000000 in
theorem zS (w:World) (D:Nat→Prop) (r0:Bool) (H:Own w D w []) (hr:uA=r0):
    Calls Tryz.prog 7 #[] w (dW fun v w'=>v= .bool r0∧Own w D w' []):=by
 refine cb Tryz.func7 ?_
 refine sr (Ar rfl ?_)
 refine WL.do rfl (Fe Tryz.call9 rfl ?_ (fun _ _ k=>k))
 refine cb Tryz.func9 ?_
 refine sr ?_
 refine dP [vI 0, .int .u64 0, .int .u64 0, .int .u64 0, .slice none 0 0, .slice none 0 0, .slice none 0 0] 33 H ?_
 intro mh mi jd
 refine ns (Kz (.agg #[.string ⟨List.toArray ([])⟩,vI 1]) (Kz (.agg #[.string ⟨List.toArray ([109])⟩,vI 2]) ?_))
 refine kG [.string ⟨List.toArray ([])⟩,vI 1, .string ⟨List.toArray ([109])⟩,vI 2] 89 2 2 jd ?_
 intro aR mo ed
 replace ed:=Fx (y:=row aR 2 2 (List.flatMap bv.cells ([(bv.mk ([]) 1),(bv.mk ([109]) 2)])) 89 2) rfl ed
 refine Kz (.agg #[vI 2, .int .u64 0, .int .u64 0, .int .u64 1, .slice aR 2 2, .slice none 0 0, .slice none 0 0]) ?_
 have je:=ed.pb [0]
 refine dO [vI 2, .int .u64 0, .int .u64 0, .int .u64 1, .slice aR 2 2, .slice none 0 0, .slice none 0 0] 0 je Tryz.sizeOf33 ?_
 intro mq fJ
 refine nt (rt (Fin.res (lX rfl rfl (Fb (cs:= [vI 2, .int .u64 0, .int .u64 0, .int .u64 1, .slice aR 2 2, .slice none 0 0, .slice none 0 0]) Tryz.isAgg33 Tryz.sizeOf33 ((fJ.cls (i:=0) rfl).lit (k:=0) (m:=7) rfl))) ?_))
 refine WL.do rfl (Fe Tryz.call8 rfl ?_ (fun _ _ k=>k))
 refine cb Tryz.func8 ?_
 refine EP ?_
 have jg:=fJ.pk [1]
 refine EO ?_
 refine dP [vI 2, .int .u64 0, .int .u64 0, .int .u64 1, .slice aR 2 2, .slice none 0 0, .slice none 0 0] 33 jg ?_
 intro ji mr fK
 refine Az rfl (An rfl (EP (sr (La ([vI 2, .int .u64 0, .int .u64 0, .int .u64 1, .slice aR 2 2, .slice none 0 0, .slice none 0 0]) fK 0 Tryz.isAgg33 Tryz.sizeOf33 ?_))))
 obtain⟨cK,F⟩:∃ q,iY (dC.mk 2 0 0 1 (Ll.mk ([(bv.mk ([]) 1),(bv.mk ([109]) 2)])) (Ll.mk ([])) (Ll.mk ([])))=q:=⟨_,rfl⟩
 obtain⟨mD,fM,kS,fO,fP⟩:=EU fK
 refine cl Tryz.call19 (nN _ _ (dC.mk 2 0 0 1 (Ll.mk ([(bv.mk ([]) 1),(bv.mk ([109]) 2)])) (Ll.mk ([])) (Ll.mk ([]))) aR 2 2 none 0 0 [] none 0 0 [] cK fM rfl (fP _ 1 _ rfl aT) (by first | exact⟨IQ rfl,IQ rfl⟩ | omega | exact⟨Nat.le_refl _,by omega⟩) rfl rfl (fun _ _=>bD.nil _ _ _) (by first | exact⟨IQ rfl,IQ rfl⟩ | omega | exact⟨Nat.le_refl _,by omega⟩) (fun _ h9=>absurd h9 List.not_mem_nil) rfl rfl (fun _ _=>bD.nil _ _ _) (by first | exact⟨IQ rfl,IQ rfl⟩ | omega | exact⟨Nat.le_refl _,by omega⟩) (fun _ h9=>absurd h9 List.not_mem_nil) (by first | omega | (dsimp only; omega) | (simp only [List.length_nil]; omega) | decide) F) ?_
 rintro _ mE ⟨rfl,fQ⟩
 have cO:=fO _ _ fQ
 refine fw (.bool (decide (¬ (cK=0)))) (Fq (e:= !(decide (cK=0))) yk decide_not.symm) (Mz rfl ?_)
 by_cases O:cK=0
 refine gw (vP ji 1) (dF (IV O)) yk (gw (.int .u64 0) (dF (IV O)) (EY rfl (bZ.one Tryz.isAgg28 (FE (cO.cls (i:=0) rfl) rfl))) (gw (.bool false) (dF (IV O)) yk (fw (.bool false) (ES rfl (dF (IV O)) rfl) (nt (jf (sk (sr (La ([vI 2, .int .u64 0, .int .u64 0, .int .u64 1, .slice aR 2 2, .slice none 0 0, .slice none 0 0]) cO 0 Tryz.isAgg33 Tryz.sizeOf33 ?_))))))))
 obtain⟨f,G⟩:∃ q,jk (dC.mk 2 0 0 1 (Ll.mk ([(bv.mk ([]) 1),(bv.mk ([109]) 2)])) (Ll.mk ([])) (Ll.mk ([])))=q:=⟨_,rfl⟩
 obtain⟨mF,fT,kT,fV,fZ⟩:=EU cO
 refine cl Tryz.call20 (ol _ _ (dC.mk 2 0 0 1 (Ll.mk ([(bv.mk ([]) 1),(bv.mk ([109]) 2)])) (Ll.mk ([])) (Ll.mk ([]))) aR 2 2 none 0 0 [] none 0 0 [] f fT rfl (fZ _ 1 _ rfl aT) (by first | exact⟨IQ rfl,IQ rfl⟩ | omega | exact⟨Nat.le_refl _,by omega⟩) rfl rfl (fun _ _=>bD.nil _ _ _) (by first | exact⟨IQ rfl,IQ rfl⟩ | omega | exact⟨Nat.le_refl _,by omega⟩) (fun _ h9=>absurd h9 List.not_mem_nil) rfl rfl (fun _ _=>bD.nil _ _ _) (by first | exact⟨IQ rfl,IQ rfl⟩ | omega | exact⟨Nat.le_refl _,by omega⟩) (fun _ h9=>absurd h9 List.not_mem_nil) (by first | omega | (dsimp only; omega) | (simp only [List.length_nil]; omega) | decide) (by first | assumption | exact zI (by assumption) | exact fun _ h9=>absurd h9 List.not_mem_nil) (by first | assumption | exact zJ (by assumption) | exact fun _ h9=>absurd h9 List.not_mem_nil) G) ?_
 rintro _ mG ⟨gm,gp,gq,gu,gy,gz,mH,mI,rfl,gB,df,di⟩
 have cZ:=fV _ _ gB
 have kU:=aA df
 have kV:=aA di
 have kW:=cZ.rowC (i:=0) rfl
 have kX:=cZ.rowC (i:=1) rfl
 have kY:=cZ.rowC (i:=3) rfl
 have kZ:f.ag.ls.length=2∧f.au=2∧f.aj.ls.length=0∧f.aG.ls.length=0:=AB G
 refine Kz (.agg #[vI f.au,vU f.ay,vU f.aY,vU f.aH, .slice gm f.ag.ls.length gp, .slice gq f.aj.ls.length gu, .slice gy f.aG.ls.length gz, .int .u64 0, .slice none 0 0, .bool false, .int .u64 0,vI 0, .slice none 0 0, .bool false, .int .u64 0,vI 0, .slice none 0 0, .bool false, .int .u64 0,vI 0, .slice none 0 0, .bool false, .int .u64 0,vI 0, .slice none 0 0, .bool false, .int .u64 0,vI 0, .slice none 0 0, .int .u64 0, .int .u64 0, .int .u64 0, .int .u64 0, .int .u64 0, .pointer none]) ?_
 refine dP [vI f.au,vU f.ay,vU f.aY,vU f.aH, .slice gm f.ag.ls.length gp, .slice gq f.aj.ls.length gu, .slice gy f.aG.ls.length gz, .int .u64 0, .slice none 0 0, .bool false, .int .u64 0,vI 0, .slice none 0 0, .bool false, .int .u64 0,vI 0, .slice none 0 0, .bool false, .int .u64 0,vI 0, .slice none 0 0, .bool false, .int .u64 0,vI 0, .slice none 0 0, .bool false, .int .u64 0,vI 0, .slice none 0 0, .int .u64 0, .int .u64 0, .int .u64 0, .int .u64 0, .int .u64 0, .pointer none] 86 cZ ?_
 intro U mJ jl
 refine An rfl (EP ?_)
 have gD:=jl.px [] [6] []
 refine EO (Mz rfl (Kz (vP U 0) (Kz (vP U 0) (Kz (vP U 1) (Lz (vU f.ay) gD 0 Tryz.isAgg28 (fw (.int .u64 ((Int.toNat (IntKind.u64.wrap (((f.ay:Nat):Int)+1)):Nat):Int)) (EQ (e:=IntKind.u64.wrap (((f.ay:Nat):Int)+1)) yk (fq _)) (Kz (vP U 0) (Kz (vP U 0) (Kz (vP U 1) ?_)))))))))
 refine dO [.int .u64 ((Int.toNat (IntKind.u64.wrap (((f.ay:Nat):Int)+1)):Nat):Int)] 1 gD Tryz.sizeOf28 ?_
 intro mK gF
 refine ns (Mz rfl (Mz rfl (Kz (vP U 0) (Kz (vP U 0) (Kz (vP U 1) (Lz (.int .u64 ((Int.toNat (IntKind.u64.wrap (((f.ay:Nat):Int)+1)):Nat):Int)) gF 0 Tryz.isAgg28 ?_))))))
 have lc:eT (Int.toNat (IntKind.u64.wrap (((f.ay:Nat):Int)+1))) 32≤18446744073709551615:=oD _ _
 refine fw (.int .u64 ((eT (Int.toNat (IntKind.u64.wrap (((f.ay:Nat):Int)+1))) 32:Nat):Int)) (EQ (Gm (m:=32) rfl rfl) (fq _)) (Kz (vP U 0) (Kz (vP U 0) (Kz (vP U 2) ?_)))
 refine dO [.int .u64 ((eT (Int.toNat (IntKind.u64.wrap (((f.ay:Nat):Int)+1))) 32:Nat):Int)] 2 gF Tryz.sizeOf28 ?_
 intro aB jo
 refine ns (Mz rfl (Az rfl (An rfl (rt (Fin.res (lS rfl rfl rfl) ?_)))))
 have jq:Own w D aB (sepL (List.flatMap bB.own ([]))::_):=jo.sepNil
 have jr:Own w D aB (row none 0 0 (List.flatMap bB.cells ([])) 107 9::_):=jq.free (fo 107 9)
 have jv:Own w D aB (sepL (List.flatMap af.own ([]))::_):=jr.sepNil
 have jw:Own w D aB (row none 0 0 (List.flatMap af.cells ([])) 149 3::_):=jv.free (fo 149 3)
 have jy:Own w D aB (sepL (List.flatMap af.own ([]))::_):=jw.sepNil
 have jA:Own w D aB (row none 0 0 (List.flatMap af.cells ([])) 149 3::_):=jy.free (fo 149 3)
 have jB:Own w D aB (sepL (List.flatMap af.own ([]))::_):=jA.sepNil
 have jC:Own w D aB (row none 0 0 (List.flatMap af.cells ([])) 149 3::_):=jB.free (fo 149 3)
 have jD:Own w D aB (sepL (List.flatMap af.own ([]))::_):=jC.sepNil
 have jE:Own w D aB (row none 0 0 (List.flatMap af.cells ([])) 149 3::_):=jD.free (fo 149 3)
 have jF:Own w D aB (sepL (List.flatMap af.own ([]))::_):=jE.sepNil
 have jG:Own w D aB (row none 0 0 (List.flatMap af.cells ([])) 149 3::_):=jF.free (fo 149 3)
 have jH:=jG.pf [12,13,14,15,16,17,10,11]
 have jI:Own w D aB (iF U (aC.mk (dC.mk f.au (Int.toNat (IntKind.u64.wrap (((f.ay:Nat):Int)+1))) (eT (Int.toNat (IntKind.u64.wrap (((f.ay:Nat):Int)+1))) 32) f.aH (Ll.mk f.ag.ls) (Ll.mk f.aj.ls) (Ll.mk f.aG.ls)) 0 (Ll.mk ([])) (dY.mk false 0 0 (Ll.mk ([]))) (dY.mk false 0 0 (Ll.mk ([]))) (dY.mk false 0 0 (Ll.mk ([]))) (dY.mk false 0 0 (Ll.mk ([]))) (dY.mk false 0 0 (Ll.mk ([]))) 0 0 0 0 0)::_):=eO df di rfl rfl rfl rfl rfl rfl jH
 obtain⟨aJ,I⟩:∃ q,(aC.mk (dC.mk f.au (Int.toNat (IntKind.u64.wrap (((f.ay:Nat):Int)+1))) (eT (Int.toNat (IntKind.u64.wrap (((f.ay:Nat):Int)+1))) 32) f.aH (Ll.mk f.ag.ls) (Ll.mk f.aj.ls) (Ll.mk f.aG.ls)) 0 (Ll.mk ([])) (dY.mk false 0 0 (Ll.mk ([]))) (dY.mk false 0 0 (Ll.mk ([]))) (dY.mk false 0 0 (Ll.mk ([]))) (dY.mk false 0 0 (Ll.mk ([]))) (dY.mk false 0 0 (Ll.mk ([]))) 0 0 0 0 0)=q:=⟨_,rfl⟩
 have jJ:Own w D aB [iF U aJ,row aR 2 2 (List.flatMap bv.cells ([(bv.mk ([]) 1),(bv.mk ([109]) 2)])) 89 2]:=by rw [← I]; exact jI
 have lg:Mk aJ:=xz (by assumption) (by assumption)
 have lh:aJ.aa.ag.ls.length≤1000∧aJ.aa.au≤4∧aJ.aB.ls.length+aJ.aa.aj.ls.length≤8∧aJ.aa.aG.ls.length≤0:=uz (by assumption) (by assumption)
 refine Mz rfl (Kz (vP U 0) (Kz (vI 0) (Az rfl (An rfl (EP (EP ?_))))))
 have jK:=jJ.pk [0]
 refine EO (Mz rfl (Kz (.bool false) (Mz rfl (gw (vI 0) rfl (E5 rfl) (Gz (.bool false) rfl (fw (.bool false) (ES rfl rfl rfl) (nt (jf (sk (sr (Kz (.agg #[vI 2, .string ⟨List.toArray ([97])⟩, .string ⟨List.toArray ([49])⟩, .string ⟨List.toArray ([])⟩, .string ⟨List.toArray ([])⟩,vI 0]) (Kz (.agg #[vI 2, .string ⟨List.toArray ([122])⟩, .string ⟨List.toArray ([50])⟩, .string ⟨List.toArray ([])⟩, .string ⟨List.toArray ([])⟩,vI 0]) ?_))))))))))))
 refine kG [vI 2, .string ⟨List.toArray ([97])⟩, .string ⟨List.toArray ([49])⟩, .string ⟨List.toArray ([])⟩, .string ⟨List.toArray ([])⟩,vI 0,vI 2, .string ⟨List.toArray ([122])⟩, .string ⟨List.toArray ([50])⟩, .string ⟨List.toArray ([])⟩, .string ⟨List.toArray ([])⟩,vI 0] 72 6 2 jK ?_
 intro aD ll bu
 replace bu:=Fx (y:=row aD 2 2 (List.flatMap bC.cells ([(bC.mk 2 ([97]) ([49]) ([]) ([]) 0),(bC.mk 2 ([122]) ([50]) ([]) ([]) 0)])) 72 6) rfl bu
 refine Kz (.agg (gN 1 11 0 0 0 0 1 1 0 0 0 0 0 0 0 false ([]) ([]) aD 2 2 none 0 0 none 0 0).toArray) ?_
 refine dP (gN 0 0 0 0 0 0 0 0 0 0 0 0 0 0 0 false ([]) ([]) none 0 0 none 0 0 none 0 0) 42 bu ?_
 intro gG lm gH
 refine dO (gN 1 11 0 0 0 0 1 1 0 0 0 0 0 0 0 false ([]) ([]) aD 2 2 none 0 0 none 0 0) 0 gH Tryz.sizeOf42 ?_
 intro lq dm
 refine ns (Mz rfl (La (gN 1 11 0 0 0 0 1 1 0 0 0 0 0 0 0 false ([]) ([]) aD 2 2 none 0 0 none 0 0) dm 0 Tryz.isAgg42 Tryz.sizeOf42 ?_))
 have gI:=dm.pf [2]
 obtain⟨⟨aj,dn,Z⟩,l⟩:∃ q:jm × Int × aC,dh aJ (bP.mk 1 11 0 0 0 0 1 1 0 0 0 0 0 0 0 false (bK.mk ([]) ([])) (Ll.mk ([(bC.mk 2 ([97]) ([49]) ([]) ([]) 0),(bC.mk 2 ([122]) ([50]) ([]) ([]) 0)])) (Ll.mk ([])) (Ll.mk ([])))=q:=⟨_,rfl⟩
 obtain⟨lu,ek,jL,eu,eB⟩:=Fu gI
 refine cl Tryz.call13 (gM _ _ U aJ (bP.mk 1 11 0 0 0 0 1 1 0 0 0 0 0 0 0 false (bK.mk ([]) ([])) (Ll.mk ([(bC.mk 2 ([97]) ([49]) ([]) ([]) 0),(bC.mk 2 ([122]) ([50]) ([]) ([]) 0)])) (Ll.mk ([])) (Ll.mk ([]))) aD 2 2 none 0 0 [] none 0 0 aj dn Z ek rfl (eB _ 1 _ rfl aT) (by first | exact⟨IQ rfl,IQ rfl⟩ | omega | exact⟨Nat.le_refl _,by omega⟩) rfl rfl (fun _ _=>bD.nil _ _ _) (by first | exact⟨IQ rfl,IQ rfl⟩ | omega | exact⟨Nat.le_refl _,by omega⟩) (fun _ h9=>absurd h9 List.not_mem_nil) rfl (fun _ _=>bD.nil _ _ _) (by first | exact⟨IQ rfl,IQ rfl⟩ | omega | exact⟨Nat.le_refl _,by omega⟩) (by first | omega | (dsimp only; omega) | (simp only [List.length_nil]; omega) | decide | (simp only [jh,List.length_cons,List.length_nil,List.length_replicate]; omega)) (by assumption) l) ?_
 rintro _ lv ⟨V,aV,gJ,rfl,eD,bE,bF,bG⟩
 have dw:=eu _ _ eD
 have jM:=aA bE
 have jN:=dw.rowC (i:=0) rfl
 replace bF:Z.aa.ag.ls.length=aJ.aa.ag.ls.length∧Z.aa.au=aJ.aa.au∧Z.aB.ls.length+Z.aa.aj.ls.length≤8∧Z.aa.aG.ls.length≤aJ.aa.aG.ls.length+1:=bF
 replace bG:Mk Z:=bG
 refine Mz rfl (Kz (.agg #[.slice V aj.dR.ls.length aV, .bool aj.gB]) (Kz (vI dn) ?_))
 refine dP [.slice none 0 0, .bool false] 47 dw ?_
 intro bH lw gK
 refine dO [.slice V aj.dR.ls.length aV, .bool aj.gB] 0 gK Tryz.sizeOf47 ?_
 intro lC gL
 refine Ar rfl ?_
 refine WL.do rfl (F5 (x0:=(af.mk false ([]) (Sv.mk none 0 ([])))) (z:= .agg #[.bool false, .string ⟨List.toArray ([])⟩, .slice none 0 0]) (k:=1) (size:=3) (bytes:=48) af.len (by decide) rfl Tryz.underlying40 (by kernel_rfl) gL rfl rfl (by omega) (by unfold maxLen; omega) ?_)
 intro aS gP gQ
 have aU:List.map af.abs (List.replicate 1 (af.mk false ([]) (Sv.mk none 0 ([]))))=(List.replicate 1 (aZ.mk false ([]) (Ll.mk ([])))):=List.map_replicate
 have gT:Own w D gP (sepL (List.flatMap af.own (List.replicate 1 (af.mk false ([]) (Sv.mk none 0 ([])))))::_):=gQ.free (ui (ww (fo 153 2)))
 have jO:List.length (List.replicate 1 (af.mk false ([]) (Sv.mk none 0 ([]))))=1:=List.length_replicate
 have jP:List.length (List.replicate 1 (aZ.mk false ([]) (Ll.mk ([]))))=1:=List.length_replicate
 refine Kz (.agg (gN 4 1 0 0 3 0 0 0 4294967297 0 0 0 0 0 0 false ([]) ([]) none 0 0 aS 1 1 none 0 0).toArray) ?_
 refine dP (gN 0 0 0 0 0 0 0 0 0 0 0 0 0 0 0 false ([]) ([]) none 0 0 none 0 0 none 0 0) 42 gT ?_
 intro gU lD gV
 refine dO (gN 4 1 0 0 3 0 0 0 4294967297 0 0 0 0 0 0 false ([]) ([]) none 0 0 aS 1 1 none 0 0) 0 gV Tryz.sizeOf42 ?_
 intro lF dx
 refine ns (Mz rfl (La (gN 4 1 0 0 3 0 0 0 4294967297 0 0 0 0 0 0 false ([]) ([]) none 0 0 aS 1 1 none 0 0) dx 0 Tryz.isAgg42 Tryz.sizeOf42 ?_))
 have dz:=dx.pf [6]
 obtain⟨⟨T,dA,aa⟩,n⟩:∃ q:jm × Int × aC,dh Z (bP.mk 4 1 0 0 3 0 0 0 4294967297 0 0 0 0 0 0 false (bK.mk ([]) ([])) (Ll.mk ([])) (Ll.mk (List.replicate 1 (aZ.mk false ([]) (Ll.mk ([]))))) (Ll.mk ([])))=q:=⟨_,rfl⟩
 obtain⟨lG,eF,jQ,eG,bJ⟩:=Fu dz
 refine cl Tryz.call13 (gM _ _ U Z (bP.mk 4 1 0 0 3 0 0 0 4294967297 0 0 0 0 0 0 false (bK.mk ([]) ([])) (Ll.mk ([])) (Ll.mk (List.replicate 1 (aZ.mk false ([]) (Ll.mk ([]))))) (Ll.mk ([]))) none 0 0 aS 1 1 (List.replicate 1 (af.mk false ([]) (Sv.mk none 0 ([])))) none 0 0 T dA aa eF rfl (fun _ _=>bD.nil _ _ _) (by first | exact⟨IQ rfl,IQ rfl⟩ | omega | exact⟨Nat.le_refl _,by omega⟩) aU (by first | rfl | omega | (simp only [List.length_append,List.length_cons,List.length_nil,List.length_take,List.length_drop,List.length_set,List.length_replicate,List.length_map] <;> omega)) (fun w9 h9=>mZ (aA aU) ((bJ _ 2 _ rfl aT) w9 h9)) (show List.length (List.replicate 1 (aZ.mk false ([]) (Ll.mk ([]))))≤1∧List.length (List.replicate 1 (aZ.mk false ([]) (Ll.mk ([]))))≤9223372036854775807 from by omega) (fun x9 h9=>⟨bJ _ 1 _ rfl (ax (List.mem_flatMap.2 ⟨x9,h9, .head _⟩) aT),bz (φ:=fun _=>_) dz (i:=2) rfl (ax (List.mem_flatMap.2 ⟨x9,h9, .head _⟩) bn)⟩) rfl (fun _ _=>bD.nil _ _ _) (by first | exact⟨IQ rfl,IQ rfl⟩ | omega | exact⟨Nat.le_refl _,by omega⟩) (by first | omega | (dsimp only; omega) | (simp only [List.length_nil]; omega) | decide | (simp only [jh,List.length_cons,List.length_nil,List.length_replicate]; omega)) (by assumption) n) ?_
 rintro _ lH ⟨bL,bM,lI,rfl,eH,eP,bN,bO⟩
 have dB:=eG _ _ eH
 have jS:=aA eP
 have jT:=dB.rowC (i:=0) rfl
 replace bN:aa.aa.ag.ls.length=Z.aa.ag.ls.length∧aa.aa.au=Z.aa.au∧aa.aB.ls.length+aa.aa.aj.ls.length≤8∧aa.aa.aG.ls.length≤Z.aa.aG.ls.length+1:=bN
 replace bO:Mk aa:=bO
 refine Mz rfl (Kz (.agg #[.slice bL T.dR.ls.length bM, .bool T.gB]) (Kz (vI dA) ?_))
 refine dP [.slice none 0 0, .bool false] 47 dB ?_
 intro dD lJ gX
 refine dO [.slice bL T.dR.ls.length bM, .bool T.gB] 0 gX Tryz.sizeOf47 ?_
 intro lK gY
 refine Ar rfl (Kz (vP gU 1) ?_)
 have gZ:=gY.pf [4]
 refine dO [vI 2] 1 gZ Tryz.sizeOf3 ?_
 intro lL dE
 refine ns (Mz rfl (La (gN 4 2 0 0 3 0 0 0 4294967297 0 0 0 0 0 0 false ([]) ([]) none 0 0 aS 1 1 none 0 0) dE 0 Tryz.isAgg42 Tryz.sizeOf42 ?_))
 have dG:=dE.pf [4]
 obtain⟨⟨P,dH,ae⟩,o⟩:∃ q:jm × Int × aC,dh aa (bP.mk 4 2 0 0 3 0 0 0 4294967297 0 0 0 0 0 0 false (bK.mk ([]) ([])) (Ll.mk ([])) (Ll.mk (List.replicate 1 (aZ.mk false ([]) (Ll.mk ([]))))) (Ll.mk ([])))=q:=⟨_,rfl⟩
 obtain⟨lM,eU,jU,eX,bQ⟩:=Fu dG
 refine cl Tryz.call13 (gM _ _ U aa (bP.mk 4 2 0 0 3 0 0 0 4294967297 0 0 0 0 0 0 false (bK.mk ([]) ([])) (Ll.mk ([])) (Ll.mk (List.replicate 1 (aZ.mk false ([]) (Ll.mk ([]))))) (Ll.mk ([]))) none 0 0 aS 1 1 (List.replicate 1 (af.mk false ([]) (Sv.mk none 0 ([])))) none 0 0 P dH ae eU rfl (fun _ _=>bD.nil _ _ _) (by first | exact⟨IQ rfl,IQ rfl⟩ | omega | exact⟨Nat.le_refl _,by omega⟩) aU (by first | rfl | omega | (simp only [List.length_append,List.length_cons,List.length_nil,List.length_take,List.length_drop,List.length_set,List.length_replicate,List.length_map] <;> omega)) (fun w9 h9=>mZ (aA aU) ((bQ _ 5 _ rfl aT) w9 h9)) (show List.length (List.replicate 1 (aZ.mk false ([]) (Ll.mk ([]))))≤1∧List.length (List.replicate 1 (aZ.mk false ([]) (Ll.mk ([]))))≤9223372036854775807 from by omega) (fun x9 h9=>⟨bQ _ 4 _ rfl (ax (List.mem_flatMap.2 ⟨x9,h9, .head _⟩) aT),bz (φ:=fun _=>_) dG (i:=5) rfl (ax (List.mem_flatMap.2 ⟨x9,h9, .head _⟩) bn)⟩) rfl (fun _ _=>bD.nil _ _ _) (by first | exact⟨IQ rfl,IQ rfl⟩ | omega | exact⟨Nat.le_refl _,by omega⟩) (by first | omega | (dsimp only; omega) | (simp only [List.length_nil]; omega) | decide | (simp only [jh,List.length_cons,List.length_nil,List.length_replicate]; omega)) (by assumption) o) ?_
 rintro _ lN ⟨W,aW,dI,rfl,eY,aX,bR,bS⟩
 have dJ:=eX _ _ eY
 have jV:=aA aX
 have jW:=dJ.rowC (i:=0) rfl
 replace bR:ae.aa.ag.ls.length=aa.aa.ag.ls.length∧ae.aa.au=aa.aa.au∧ae.aB.ls.length+ae.aa.aj.ls.length≤8∧ae.aa.aG.ls.length≤aa.aa.aG.ls.length+1:=bR
 replace bS:Mk ae:=bS
 refine Mz rfl (Kz (.agg #[.slice W P.dR.ls.length aW, .bool P.gB]) (Kz (vI dH) ?_))
 refine dP [.slice none 0 0, .bool false] 47 dJ ?_
 intro bf lQ ib
 refine dO [.slice W P.dR.ls.length aW, .bool P.gB] 0 ib Tryz.sizeOf47 ?_
 intro lT ic
 refine An rfl (EP ?_)
 have dL:=ic.px [] [4,8,9] []
 refine EO (Mz rfl (La (gN 1 11 0 0 0 0 1 1 0 0 0 0 0 0 0 false ([]) ([]) aD 2 2 none 0 0 none 0 0) dL 10 Tryz.isAgg42 Tryz.sizeOf42 ?_))
 have ig:=dL.pf [3]
 obtain⟨⟨ak,dM,ag⟩,p⟩:∃ q:jm × Int × aC,dh ae (bP.mk 1 11 0 0 0 0 1 1 0 0 0 0 0 0 0 false (bK.mk ([]) ([])) (Ll.mk ([(bC.mk 2 ([97]) ([49]) ([]) ([]) 0),(bC.mk 2 ([122]) ([50]) ([]) ([]) 0)])) (Ll.mk ([])) (Ll.mk ([])))=q:=⟨_,rfl⟩
 obtain⟨lU,eZ,jX,fe,fu⟩:=Fu ig
 refine cl Tryz.call13 (gM _ _ U ae (bP.mk 1 11 0 0 0 0 1 1 0 0 0 0 0 0 0 false (bK.mk ([]) ([])) (Ll.mk ([(bC.mk 2 ([97]) ([49]) ([]) ([]) 0),(bC.mk 2 ([122]) ([50]) ([]) ([]) 0)])) (Ll.mk ([])) (Ll.mk ([]))) aD 2 2 none 0 0 [] none 0 0 ak dM ag eZ rfl (fu _ 10 _ rfl aT) (by first | exact⟨IQ rfl,IQ rfl⟩ | omega | exact⟨Nat.le_refl _,by omega⟩) rfl rfl (fun _ _=>bD.nil _ _ _) (by first | exact⟨IQ rfl,IQ rfl⟩ | omega | exact⟨Nat.le_refl _,by omega⟩) (fun _ h9=>absurd h9 List.not_mem_nil) rfl (fun _ _=>bD.nil _ _ _) (by first | exact⟨IQ rfl,IQ rfl⟩ | omega | exact⟨Nat.le_refl _,by omega⟩) (by first | omega | (dsimp only; omega) | (simp only [List.length_nil]; omega) | decide | (simp only [jh,List.length_cons,List.length_nil,List.length_replicate]; omega)) (by assumption) p) ?_
 rintro _ lV ⟨aG,bg,ik,rfl,fA,bT,bU,bV⟩
 have dN:=fe _ _ fA
 have jY:=aA bT
 have jZ:=dN.rowC (i:=0) rfl
 replace bU:ag.aa.ag.ls.length=ae.aa.ag.ls.length∧ag.aa.au=ae.aa.au∧ag.aB.ls.length+ag.aa.aj.ls.length≤8∧ag.aa.aG.ls.length≤ae.aa.aG.ls.length+1:=bU
 replace bV:Mk ag:=bV
 refine Mz rfl (Kz (.agg #[.slice aG ak.dR.ls.length bg, .bool ak.gB]) (Kz (vI dM) ?_))
 refine dP [.slice none 0 0, .bool false] 47 dN ?_
 intro dQ lW il
 refine dO [.slice aG ak.dR.ls.length bg, .bool ak.gB] 0 il Tryz.sizeOf47 ?_
 intro lY iq
 refine Ar rfl (Kz (vP gG 7) ?_)
 have iw:=iq.pf [13]
 refine dO [.int .u64 0] 7 iw Tryz.sizeOf28 ?_
 intro lZ dR
 refine ns (Mz rfl (La (gN 1 11 0 0 0 0 1 0 0 0 0 0 0 0 0 false ([]) ([]) aD 2 2 none 0 0 none 0 0) dR 0 Tryz.isAgg42 Tryz.sizeOf42 ?_))
 have iy:=dR.pf [4]
 obtain⟨⟨au,dS,ah⟩,r⟩:∃ q:jm × Int × aC,dh ag (bP.mk 1 11 0 0 0 0 1 0 0 0 0 0 0 0 0 false (bK.mk ([]) ([])) (Ll.mk ([(bC.mk 2 ([97]) ([49]) ([]) ([]) 0),(bC.mk 2 ([122]) ([50]) ([]) ([]) 0)])) (Ll.mk ([])) (Ll.mk ([])))=q:=⟨_,rfl⟩
 obtain⟨l5,fB,j3,fC,fD⟩:=Fu iy
 refine cl Tryz.call13 (gM _ _ U ag (bP.mk 1 11 0 0 0 0 1 0 0 0 0 0 0 0 0 false (bK.mk ([]) ([])) (Ll.mk ([(bC.mk 2 ([97]) ([49]) ([]) ([]) 0),(bC.mk 2 ([122]) ([50]) ([]) ([]) 0)])) (Ll.mk ([])) (Ll.mk ([]))) aD 2 2 none 0 0 [] none 0 0 au dS ah fB rfl (fD _ 13 _ rfl aT) (by first | exact⟨IQ rfl,IQ rfl⟩ | omega | exact⟨Nat.le_refl _,by omega⟩) rfl rfl (fun _ _=>bD.nil _ _ _) (by first | exact⟨IQ rfl,IQ rfl⟩ | omega | exact⟨Nat.le_refl _,by omega⟩) (fun _ h9=>absurd h9 List.not_mem_nil) rfl (fun _ _=>bD.nil _ _ _) (by first | exact⟨IQ rfl,IQ rfl⟩ | omega | exact⟨Nat.le_refl _,by omega⟩) (by first | omega | (dsimp only; omega) | (simp only [List.length_nil]; omega) | decide | (simp only [jh,List.length_cons,List.length_nil,List.length_replicate]; omega)) (by assumption) r) ?_
 rintro _ l6 ⟨aH,bi,iA,rfl,fE,bW,bX,bY⟩
 have dU:=fC _ _ fE
 have j4:=aA bW
 have j5:=dU.rowC (i:=0) rfl
 replace bX:ah.aa.ag.ls.length=ag.aa.ag.ls.length∧ah.aa.au=ag.aa.au∧ah.aB.ls.length+ah.aa.aj.ls.length≤8∧ah.aa.aG.ls.length≤ag.aa.aG.ls.length+1:=bX
 replace bY:Mk ah:=bY
 refine Mz rfl (Kz (.agg #[.slice aH au.dR.ls.length bi, .bool au.gB]) (Kz (vI dS) ?_))
 refine dP [.slice none 0 0, .bool false] 47 dU ?_
 intro dV l7 iB
 refine dO [.slice aH au.dR.ls.length bi, .bool au.gB] 0 iB Tryz.sizeOf47 ?_
 intro l8 iC
 refine An rfl (EP ?_)
 have iD:=iC.px [] [4,17] []
 refine EO (Mz rfl (Kz (.agg (gN 7 1 0 0 0 0 0 0 99 0 0 0 0 0 0 false ([]) ([]) none 0 0 none 0 0 none 0 0).toArray) ?_))
 have iE:=iD.pf [3]
 obtain⟨⟨av,dX,aK⟩,s⟩:∃ q:jm × Int × aC,dh ah (bP.mk 7 1 0 0 0 0 0 0 99 0 0 0 0 0 0 false (bK.mk ([]) ([])) (Ll.mk ([])) (Ll.mk ([])) (Ll.mk ([])))=q:=⟨_,rfl⟩
 obtain⟨l9,fF,j6,fG,kg⟩:=Fu iE
 refine cl Tryz.call13 (gM _ _ U ah (bP.mk 7 1 0 0 0 0 0 0 99 0 0 0 0 0 0 false (bK.mk ([]) ([])) (Ll.mk ([])) (Ll.mk ([])) (Ll.mk ([]))) none 0 0 none 0 0 [] none 0 0 av dX aK fF rfl (fun _ _=>bD.nil _ _ _) (by first | exact⟨IQ rfl,IQ rfl⟩ | omega | exact⟨Nat.le_refl _,by omega⟩) rfl rfl (fun _ _=>bD.nil _ _ _) (by first | exact⟨IQ rfl,IQ rfl⟩ | omega | exact⟨Nat.le_refl _,by omega⟩) (fun _ h9=>absurd h9 List.not_mem_nil) rfl (fun _ _=>bD.nil _ _ _) (by first | exact⟨IQ rfl,IQ rfl⟩ | omega | exact⟨Nat.le_refl _,by omega⟩) (by first | omega | (dsimp only; omega) | (simp only [List.length_nil]; omega) | decide | (simp only [jh,List.length_cons,List.length_nil,List.length_replicate]; omega)) (by assumption) s) ?_
 rintro _ ma ⟨aI,bq,iG,rfl,fH,cu,cz,cB⟩
 have dZ:=fG _ _ fH
 have ko:=aA cu
 have kr:=dZ.rowC (i:=0) rfl
 replace cz:aK.aa.ag.ls.length=ah.aa.ag.ls.length∧aK.aa.au=ah.aa.au∧aK.aB.ls.length+aK.aa.aj.ls.length≤8∧aK.aa.aG.ls.length≤ah.aa.aG.ls.length+1:=cz
 replace cB:Mk aK:=cB
 refine Mz rfl (Kz (.agg #[.slice aI av.dR.ls.length bq, .bool av.gB]) (Kz (vI dX) ?_))
 refine dP [.slice none 0 0, .bool false] 47 dZ ?_
 intro d9 mf iH
 refine dO [.slice aI av.dR.ls.length bq, .bool av.gB] 0 iH Tryz.sizeOf47 ?_
 intro mg iI
 refine An rfl (EP ?_)
 have a:=iI.px [] [3] []
 refine EO (Kz (vP bH 0) (Lz (.slice V aj.dR.ls.length aV) a 15 Tryz.isAgg45 (Kz (vJ aj.dR.ls.length) (Kz (.bool (decide (((aj.dR.ls.length:Nat):Int)=2))) (Mz rfl ?_)))))
 by_cases b:((aj.dR.ls.length:Nat):Int)=2
 refine Gz (vP bH 0) (dT b) (Gl (.slice V aj.dR.ls.length aV) (dT b) a 15 Tryz.isAgg45 ?_)
 obtain⟨u,aF⟩:=dK (ls:=gJ) (i:=1) bA.len (by decide) (a.rds (i:=16) rfl) (by first | omega | (simp; done) | (simp; omega))
 have B:=eQ bE aF
 have ku:u.aD.ls.length≤u.aD.c∧u.aD.ls.length≤9223372036854775807:=bz a (i:=17) rfl (φ:=fun _=>_) (ax (List.mem_flatMap.2 ⟨u,List.mem_of_getElem? aF, .head _⟩) bn)
 have kv:u.ah.ls.length≤u.ah.c∧u.ah.ls.length≤9223372036854775807:=bz a (i:=17) rfl (φ:=fun _=>_) (ax (List.mem_flatMap.2 ⟨u,List.mem_of_getElem? aF, .tail _ (.head _)⟩) bn)
 have kw:u.ag.ls.length≤u.ag.c∧u.ag.ls.length≤9223372036854775807:=bz a (i:=17) rfl (φ:=fun _=>_) (ax (List.mem_flatMap.2 ⟨u,List.mem_of_getElem? aF, .tail _ (.tail _ (.head _))⟩) bn)
 refine gw (.pointer (some ⟨ab V,ao V+1 *21,none⟩)) (dT b) (ET (uj) rfl rfl ((a.rds (i:=16) rfl).addr (i:=1) (by omega)) (by omega)) (Gz (.pointer (some ⟨ab V,ao V+1 *21,none⟩)) (dT b) (gw (vI u.aI) (dT b) (EY rfl (bZ.one Tryz.isAgg3 (((a.rds (i:=16) rfl).elem bA.len aF (by decide)).at_ (k:=0) rfl))) (Gz (.bool (decide (u.aI=3))) (dT b) (fw (.bool (decide (u.aI=3))) (Fa rfl (dT b) rfl) (Mz rfl ?_)))))
 by_cases d:u.aI=3
 refine Gz (vP bH 0) (dT d) (Gl (.slice V aj.dR.ls.length aV) (dT d) a 15 Tryz.isAgg45 (gw (.pointer (some ⟨ab V,ao V+1 *21,none⟩)) (dT d) (ET (uj) rfl rfl ((a.rds (i:=16) rfl).addr (i:=1) (by omega)) (by omega)) (Gz (.pointer (some ⟨ab V,ao V+1 *21+8,none⟩)) (dT d) (gw (vU u.bf) (dT d) (EY rfl (bZ.one Tryz.isAgg28 (((a.rds (i:=16) rfl).elem bA.len aF (by decide)).at_ (k:=8) rfl))) (Gz (.bool (decide (((u.bf:Nat):Int)=4294967297))) (dT d) (fw (.bool (decide (((u.bf:Nat):Int)=4294967297))) (Fa rfl (dT d) rfl) (Mz rfl ?_)))))))
 by_cases h:((u.bf:Nat):Int)=4294967297
 refine Gz (vP dD 0) (dT h) (Gl (.slice bL T.dR.ls.length bM) (dT h) a 12 Tryz.isAgg45 (Gz (vJ T.dR.ls.length) (dT h) (Gz (.bool (decide (((T.dR.ls.length:Nat):Int)=0))) (dT h) (fw (.bool (decide (((T.dR.ls.length:Nat):Int)=0))) (Fa rfl (dT h) rfl) (Mz rfl ?_)))))
 by_cases x:((T.dR.ls.length:Nat):Int)=0
 refine Gz (vP dD 1) (dT x) (Gl (.bool T.gB) (dT x) a 12 Tryz.isAgg4 (Gz (.bool (!T.gB)) (dT x) (fw (.bool (!T.gB)) (Fa rfl (dT x) rfl) (Mz rfl ?_))))
 rcases IW (T.gB) with j | j
 refine Sz (cn j) (Sz (cn j) (Sz (cn j) (Sz (cn j) (fw (.bool false) (ES rfl (cn j) rfl) (Mz rfl (Sz rfl (Sz rfl (Sz rfl (Sz rfl (Sz rfl (Sz rfl (fw (.bool false) (ES rfl rfl rfl) (Mz rfl (Sz rfl (Sz rfl (Sz rfl (Sz rfl (Sz rfl (fw (.bool false) (ES rfl rfl rfl) (Mz rfl (Sz rfl (Sz rfl (fw (.bool false) (ES rfl rfl rfl) (Mz rfl (Sz rfl (Sz rfl (Sz rfl (Sz rfl (fw (.bool false) (ES rfl rfl rfl) (Mz rfl (Sz rfl (Sz rfl (Sz rfl (Sz rfl (Sz rfl (Sz rfl (fw (.bool false) (ES rfl rfl rfl) (Mz rfl (Sz rfl ?_)))))))))))))))))))))))))))))))))))))))
 refine Sz rfl (Sz rfl (Sz rfl (fw (.bool false) (ES rfl rfl rfl) (Mz rfl (Sz rfl (Sz rfl (Sz rfl (Sz rfl (Sz rfl (Sz rfl (fw (.bool false) (ES rfl rfl rfl) (Mz rfl (Sz rfl (Sz rfl (Sz rfl (Sz rfl (fw (.bool false) (ES rfl rfl rfl) (Mz rfl (Sz rfl (Sz rfl (Sz rfl (Sz rfl (Sz rfl (Sz rfl (fw (.bool false) (ES rfl rfl rfl) (An rfl (rt (rs ?_))))))))))))))))))))))))))))
 have iJ:=a.pk []
 obtain rfl:_=false:=hr.symm.trans (et (ai F) (et (ip O) (et (ai G) (et (ai I) (et (ai l) (et (ai n) (et (ai o) (et (ai p) (et (ai r) (et (ai s) (et (ip b) (et (ai (bI B)) (et (ip d) (et (ip h) (et (ip x) (ip j))))))))))))))))
 exact⟨rfl,iJ⟩
 refine Gz (vP bf 0) (cn j) (Gl (.slice W P.dR.ls.length aW) (cn j) a 9 Tryz.isAgg45 (Gz (vJ P.dR.ls.length) (cn j) (Gz (.bool (decide (((P.dR.ls.length:Nat):Int)=3))) (cn j) (fw (.bool (decide (((P.dR.ls.length:Nat):Int)=3))) (Fa rfl (cn j) rfl) (Mz rfl ?_)))))
 by_cases g:((P.dR.ls.length:Nat):Int)=3
 refine Gz (vP bf 0) (dT g) (Gl (.slice W P.dR.ls.length aW) (dT g) a 9 Tryz.isAgg45 ?_)
 obtain⟨J,aL⟩:=dK (ls:=dI) (i:=0) bA.len (by decide) (a.rds (i:=10) rfl) (by first | omega | (simp; done) | (simp; omega))
 have Y:=eQ aX aL
 have ky:J.aD.ls.length≤J.aD.c∧J.aD.ls.length≤9223372036854775807:=bz a (i:=11) rfl (φ:=fun _=>_) (ax (List.mem_flatMap.2 ⟨J,List.mem_of_getElem? aL, .head _⟩) bn)
 have kz:J.ah.ls.length≤J.ah.c∧J.ah.ls.length≤9223372036854775807:=bz a (i:=11) rfl (φ:=fun _=>_) (ax (List.mem_flatMap.2 ⟨J,List.mem_of_getElem? aL, .tail _ (.head _)⟩) bn)
 have kC:J.ag.ls.length≤J.ag.c∧J.ag.ls.length≤9223372036854775807:=bz a (i:=11) rfl (φ:=fun _=>_) (ax (List.mem_flatMap.2 ⟨J,List.mem_of_getElem? aL, .tail _ (.tail _ (.head _))⟩) bn)
 refine gw (.pointer (some ⟨ab W,ao W+0 *21,none⟩)) (dT g) (ET (uj) rfl rfl ((a.rds (i:=10) rfl).addr (i:=0) (by omega)) (by omega)) (Gz (.pointer (some ⟨ab W,ao W+0 *21+4,none⟩)) (dT g) (gw (vI J.dz) (dT g) (EY rfl (bZ.one Tryz.isAgg3 (((a.rds (i:=10) rfl).elem bA.len aL (by decide)).at_ (k:=4) rfl))) (Gz (.bool (decide (J.dz=1))) (dT g) (fw (.bool (decide (J.dz=1))) (Fa rfl (dT g) rfl) (Mz rfl ?_)))))
 by_cases t:J.dz=1
 refine Gz (vP bf 0) (dT t) (Gl (.slice W P.dR.ls.length aW) (dT t) a 9 Tryz.isAgg45 ?_)
 obtain⟨Q,aM⟩:=dK (ls:=dI) (i:=2) bA.len (by decide) (a.rds (i:=10) rfl) (by first | omega | (simp; done) | (simp; omega))
 have ay:=eQ aX aM
 have kD:Q.aD.ls.length≤Q.aD.c∧Q.aD.ls.length≤9223372036854775807:=bz a (i:=11) rfl (φ:=fun _=>_) (ax (List.mem_flatMap.2 ⟨Q,List.mem_of_getElem? aM, .head _⟩) bn)
 have kE:Q.ah.ls.length≤Q.ah.c∧Q.ah.ls.length≤9223372036854775807:=bz a (i:=11) rfl (φ:=fun _=>_) (ax (List.mem_flatMap.2 ⟨Q,List.mem_of_getElem? aM, .tail _ (.head _)⟩) bn)
 have kF:Q.ag.ls.length≤Q.ag.c∧Q.ag.ls.length≤9223372036854775807:=bz a (i:=11) rfl (φ:=fun _=>_) (ax (List.mem_flatMap.2 ⟨Q,List.mem_of_getElem? aM, .tail _ (.tail _ (.head _))⟩) bn)
 refine gw (.pointer (some ⟨ab W,ao W+2 *21,none⟩)) (dT t) (ET (uj) rfl rfl ((a.rds (i:=10) rfl).addr (i:=2) (by omega)) (by omega)) (Gz (.pointer (some ⟨ab W,ao W+2 *21+15,none⟩)) (dT t) (gw (.bool Q.dI) (dT t) (EY rfl (bZ.one Tryz.isAgg4 (((a.rds (i:=10) rfl).elem bA.len aM (by decide)).at_ (k:=15) rfl))) (fw (.bool Q.dI) (Fa rfl (dT t) rfl) (Mz rfl ?_))))
 rcases IW (Q.dI) with R | R
 refine Gz (vP bf 1) R (Gl (.bool P.gB) R a 9 Tryz.isAgg4 (fw (.bool P.gB) (Fa rfl R rfl) (Mz rfl ?_)))
 rcases IW (P.gB) with C | C
 refine Gz (vP dQ 0) C (Gl (.slice aG ak.dR.ls.length bg) C a 6 Tryz.isAgg45 (Gz (vJ ak.dR.ls.length) C (Gz (.bool (decide (((ak.dR.ls.length:Nat):Int)=1))) C (fw (.bool (decide (((ak.dR.ls.length:Nat):Int)=1))) (Fa rfl C rfl) (Mz rfl ?_)))))
 by_cases A:((ak.dR.ls.length:Nat):Int)=1
 refine Gz (vP dQ 0) (dT A) (Gl (.slice aG ak.dR.ls.length bg) (dT A) a 6 Tryz.isAgg45 ?_)
 obtain⟨K,aN⟩:=dK (ls:=ik) (i:=0) bA.len (by decide) (a.rds (i:=7) rfl) (by first | omega | (simp; done) | (simp; omega))
 have aO:=eQ bT aN
 have kH:K.aD.ls.length≤K.aD.c∧K.aD.ls.length≤9223372036854775807:=bz a (i:=8) rfl (φ:=fun _=>_) (ax (List.mem_flatMap.2 ⟨K,List.mem_of_getElem? aN, .head _⟩) bn)
 have kI:K.ah.ls.length≤K.ah.c∧K.ah.ls.length≤9223372036854775807:=bz a (i:=8) rfl (φ:=fun _=>_) (ax (List.mem_flatMap.2 ⟨K,List.mem_of_getElem? aN, .tail _ (.head _)⟩) bn)
 have kJ:K.ag.ls.length≤K.ag.c∧K.ag.ls.length≤9223372036854775807:=bz a (i:=8) rfl (φ:=fun _=>_) (ax (List.mem_flatMap.2 ⟨K,List.mem_of_getElem? aN, .tail _ (.tail _ (.head _))⟩) bn)
 refine gw (.pointer (some ⟨ab aG,ao aG+0 *21,none⟩)) (dT A) (ET (uj) rfl rfl ((a.rds (i:=7) rfl).addr (i:=0) (by omega)) (by omega)) (Gz (.pointer (some ⟨ab aG,ao aG+0 *21+4,none⟩)) (dT A) (gw (vI K.dz) (dT A) (EY rfl (bZ.one Tryz.isAgg3 (((a.rds (i:=7) rfl).elem bA.len aN (by decide)).at_ (k:=4) rfl))) (Gz (.bool (decide (K.dz=1))) (dT A) (fw (.bool (decide (K.dz=1))) (Fa rfl (dT A) rfl) (Mz rfl ?_)))))
 by_cases S:K.dz=1
 refine Gz (vP dV 0) (dT S) (Gl (.slice aH au.dR.ls.length bi) (dT S) a 3 Tryz.isAgg45 (Gz (vJ au.dR.ls.length) (dT S) (Gz (.bool (decide (((au.dR.ls.length:Nat):Int)=1))) (dT S) (fw (.bool (decide (((au.dR.ls.length:Nat):Int)=1))) (Fa rfl (dT S) rfl) (Mz rfl ?_)))))
 by_cases E:((au.dR.ls.length:Nat):Int)=1
 refine Gz (vP dV 0) (dT E) (Gl (.slice aH au.dR.ls.length bi) (dT E) a 3 Tryz.isAgg45 ?_)
 obtain⟨L,aP⟩:=dK (ls:=iA) (i:=0) bA.len (by decide) (a.rds (i:=4) rfl) (by first | omega | (simp; done) | (simp; omega))
 have aY:=eQ bW aP
 have kK:L.aD.ls.length≤L.aD.c∧L.aD.ls.length≤9223372036854775807:=bz a (i:=5) rfl (φ:=fun _=>_) (ax (List.mem_flatMap.2 ⟨L,List.mem_of_getElem? aP, .head _⟩) bn)
 have kL:L.ah.ls.length≤L.ah.c∧L.ah.ls.length≤9223372036854775807:=bz a (i:=5) rfl (φ:=fun _=>_) (ax (List.mem_flatMap.2 ⟨L,List.mem_of_getElem? aP, .tail _ (.head _)⟩) bn)
 have kM:L.ag.ls.length≤L.ag.c∧L.ag.ls.length≤9223372036854775807:=bz a (i:=5) rfl (φ:=fun _=>_) (ax (List.mem_flatMap.2 ⟨L,List.mem_of_getElem? aP, .tail _ (.tail _ (.head _))⟩) bn)
 refine gw (.pointer (some ⟨ab aH,ao aH+0 *21,none⟩)) (dT E) (ET (uj) rfl rfl ((a.rds (i:=4) rfl).addr (i:=0) (by omega)) (by omega)) (Gz (.pointer (some ⟨ab aH,ao aH+0 *21+4,none⟩)) (dT E) (gw (vI L.dz) (dT E) (EY rfl (bZ.one Tryz.isAgg3 (((a.rds (i:=4) rfl).elem bA.len aP (by decide)).at_ (k:=4) rfl))) (Gz (.bool (decide (L.dz=2))) (dT E) (fw (.bool (decide (L.dz=2))) (Fa rfl (dT E) rfl) (Mz rfl ?_)))))
 by_cases X:L.dz=2
 refine Gz (vP d9 0) (dT X) (Gl (.slice aI av.dR.ls.length bq) (dT X) a 0 Tryz.isAgg45 (Gz (vJ av.dR.ls.length) (dT X) (Gz (.bool (decide (((av.dR.ls.length:Nat):Int)=1))) (dT X) (fw (.bool (decide (((av.dR.ls.length:Nat):Int)=1))) (Fa rfl (dT X) rfl) (Mz rfl ?_)))))
 by_cases M:((av.dR.ls.length:Nat):Int)=1
 refine Gz (vP d9 0) (dT M) (Gl (.slice aI av.dR.ls.length bq) (dT M) a 0 Tryz.isAgg45 ?_)
 obtain⟨N,aQ⟩:=dK (ls:=iG) (i:=0) bA.len (by decide) (a.rds (i:=1) rfl) (by first | omega | (simp; done) | (simp; omega))
 have fI:=eQ cu aQ
 have kN:N.aD.ls.length≤N.aD.c∧N.aD.ls.length≤9223372036854775807:=bz a (i:=2) rfl (φ:=fun _=>_) (ax (List.mem_flatMap.2 ⟨N,List.mem_of_getElem? aQ, .head _⟩) bn)
 have kP:N.ah.ls.length≤N.ah.c∧N.ah.ls.length≤9223372036854775807:=bz a (i:=2) rfl (φ:=fun _=>_) (ax (List.mem_flatMap.2 ⟨N,List.mem_of_getElem? aQ, .tail _ (.head _)⟩) bn)
 have kQ:N.ag.ls.length≤N.ag.c∧N.ag.ls.length≤9223372036854775807:=bz a (i:=2) rfl (φ:=fun _=>_) (ax (List.mem_flatMap.2 ⟨N,List.mem_of_getElem? aQ, .tail _ (.tail _ (.head _))⟩) bn)
 refine gw (.pointer (some ⟨ab aI,ao aI+0 *21,none⟩)) (dT M) (ET (uj) rfl rfl ((a.rds (i:=1) rfl).addr (i:=0) (by omega)) (by omega)) (Gz (.pointer (some ⟨ab aI,ao aI+0 *21+15,none⟩)) (dT M) (gw (.bool N.dI) (dT M) (EY rfl (bZ.one Tryz.isAgg4 (((a.rds (i:=1) rfl).elem bA.len aQ (by decide)).at_ (k:=15) rfl))) (Gz (.bool (!N.dI)) (dT M) (fw (.bool (!N.dI)) (Fa rfl (dT M) rfl) (An rfl (rt (rs ?_)))))))
 have iK:=a.pk []
 obtain rfl:_= !N.dI:=hr.symm.trans (et (ai F) (et (ip O) (et (ai G) (et (ai I) (et (ai l) (et (ai n) (et (ai o) (et (ai p) (et (ai r) (et (ai s) (et (ip b) (et (ai (bI B)) (et (ip d) (et (ip h) (et (ip x) (et (fU j) (et (ip g) (et (ai (bI Y)) (et (ip t) (et (ai (bI ay)) (et (ip R) (et (ip C) (et (ip A) (et (ai (bI aO)) (et (ip S) (et (ip E) (et (ai (bI aY)) (et (ip X) (et (ip M) (ai (bI fI)))))))))))))))))))))))))))))))
 exact⟨rfl,iK⟩
 refine Sz (dF M) (Sz (dF M) (Sz (dF M) (Sz (dF M) (Sz (dF M) (Sz (dF M) (fw (.bool false) (ES rfl (dF M) rfl) (An rfl (rt (rs ?_)))))))))
 have iL:=a.pk []
 obtain rfl:_=false:=hr.symm.trans (et (ai F) (et (ip O) (et (ai G) (et (ai I) (et (ai l) (et (ai n) (et (ai o) (et (ai p) (et (ai r) (et (ai s) (et (ip b) (et (ai (bI B)) (et (ip d) (et (ip h) (et (ip x) (et (fU j) (et (ip g) (et (ai (bI Y)) (et (ip t) (et (ai (bI ay)) (et (ip R) (et (ip C) (et (ip A) (et (ai (bI aO)) (et (ip S) (et (ip E) (et (ai (bI aY)) (et (ip X) (iN M)))))))))))))))))))))))))))))
 exact⟨rfl,iL⟩
 refine Sz (dF X) (Sz (dF X) (Sz (dF X) (Sz (dF X) (fw (.bool false) (ES rfl (dF X) rfl) (Mz rfl (Sz rfl (Sz rfl (Sz rfl (Sz rfl (Sz rfl (Sz rfl (fw (.bool false) (ES rfl rfl rfl) (An rfl (rt (rs ?_)))))))))))))))
 have iM:=a.pk []
 obtain rfl:_=false:=hr.symm.trans (et (ai F) (et (ip O) (et (ai G) (et (ai I) (et (ai l) (et (ai n) (et (ai o) (et (ai p) (et (ai r) (et (ai s) (et (ip b) (et (ai (bI B)) (et (ip d) (et (ip h) (et (ip x) (et (fU j) (et (ip g) (et (ai (bI Y)) (et (ip t) (et (ai (bI ay)) (et (ip R) (et (ip C) (et (ip A) (et (ai (bI aO)) (et (ip S) (et (ip E) (et (ai (bI aY)) (iN X))))))))))))))))))))))))))))
 exact⟨rfl,iM⟩
 refine Sz (dF E) (Sz (dF E) (Sz (dF E) (Sz (dF E) (Sz (dF E) (Sz (dF E) (fw (.bool false) (ES rfl (dF E) rfl) (Mz rfl (Sz rfl (Sz rfl (Sz rfl (Sz rfl (fw (.bool false) (ES rfl rfl rfl) (Mz rfl (Sz rfl (Sz rfl (Sz rfl (Sz rfl (Sz rfl (Sz rfl (fw (.bool false) (ES rfl rfl rfl) (An rfl (rt (rs ?_)))))))))))))))))))))))
 have iO:=a.pk []
 obtain rfl:_=false:=hr.symm.trans (et (ai F) (et (ip O) (et (ai G) (et (ai I) (et (ai l) (et (ai n) (et (ai o) (et (ai p) (et (ai r) (et (ai s) (et (ip b) (et (ai (bI B)) (et (ip d) (et (ip h) (et (ip x) (et (fU j) (et (ip g) (et (ai (bI Y)) (et (ip t) (et (ai (bI ay)) (et (ip R) (et (ip C) (et (ip A) (et (ai (bI aO)) (et (ip S) (iN E))))))))))))))))))))))))))
 exact⟨rfl,iO⟩
 refine Sz (dF S) (Sz (dF S) (Sz (dF S) (Sz (dF S) (fw (.bool false) (ES rfl (dF S) rfl) (Mz rfl (Sz rfl (Sz rfl (Sz rfl (Sz rfl (Sz rfl (Sz rfl (fw (.bool false) (ES rfl rfl rfl) (Mz rfl (Sz rfl (Sz rfl (Sz rfl (Sz rfl (fw (.bool false) (ES rfl rfl rfl) (Mz rfl (Sz rfl (Sz rfl (Sz rfl (Sz rfl (Sz rfl (Sz rfl (fw (.bool false) (ES rfl rfl rfl) (An rfl (rt (rs ?_)))))))))))))))))))))))))))))
 have iP:=a.pk []
 obtain rfl:_=false:=hr.symm.trans (et (ai F) (et (ip O) (et (ai G) (et (ai I) (et (ai l) (et (ai n) (et (ai o) (et (ai p) (et (ai r) (et (ai s) (et (ip b) (et (ai (bI B)) (et (ip d) (et (ip h) (et (ip x) (et (fU j) (et (ip g) (et (ai (bI Y)) (et (ip t) (et (ai (bI ay)) (et (ip R) (et (ip C) (et (ip A) (et (ai (bI aO)) (iN S)))))))))))))))))))))))))
 exact⟨rfl,iP⟩
 refine Sz (dF A) (Sz (dF A) (Sz (dF A) (Sz (dF A) (Sz (dF A) (Sz (dF A) (fw (.bool false) (ES rfl (dF A) rfl) (Mz rfl (Sz rfl (Sz rfl (Sz rfl (Sz rfl (fw (.bool false) (ES rfl rfl rfl) (Mz rfl (Sz rfl (Sz rfl (Sz rfl (Sz rfl (Sz rfl (Sz rfl (fw (.bool false) (ES rfl rfl rfl) (Mz rfl (Sz rfl (Sz rfl (Sz rfl (Sz rfl (fw (.bool false) (ES rfl rfl rfl) (Mz rfl (Sz rfl (Sz rfl (Sz rfl (Sz rfl (Sz rfl (Sz rfl (fw (.bool false) (ES rfl rfl rfl) (An rfl (rt (rs ?_)))))))))))))))))))))))))))))))))))))
 have iQ:=a.pk []
 obtain rfl:_=false:=hr.symm.trans (et (ai F) (et (ip O) (et (ai G) (et (ai I) (et (ai l) (et (ai n) (et (ai o) (et (ai p) (et (ai r) (et (ai s) (et (ip b) (et (ai (bI B)) (et (ip d) (et (ip h) (et (ip x) (et (fU j) (et (ip g) (et (ai (bI Y)) (et (ip t) (et (ai (bI ay)) (et (ip R) (et (ip C) (iN A)))))))))))))))))))))))
 exact⟨rfl,iQ⟩
 refine Sz C (Sz C (Sz C (Sz C (fw (.bool false) (ES rfl C rfl) (Mz rfl (Sz rfl (Sz rfl (Sz rfl (Sz rfl (Sz rfl (Sz rfl (fw (.bool false) (ES rfl rfl rfl) (Mz rfl (Sz rfl (Sz rfl (Sz rfl (Sz rfl (fw (.bool false) (ES rfl rfl rfl) (Mz rfl (Sz rfl (Sz rfl (Sz rfl (Sz rfl (Sz rfl (Sz rfl (fw (.bool false) (ES rfl rfl rfl) (Mz rfl (Sz rfl (Sz rfl (Sz rfl (Sz rfl (fw (.bool false) (ES rfl rfl rfl) (Mz rfl (Sz rfl (Sz rfl (Sz rfl (Sz rfl (Sz rfl (Sz rfl ?_)))))))))))))))))))))))))))))))))))))))
 refine fw (.bool false) (ES rfl rfl rfl) (An rfl (rt (rs ?_)))
 have iR:=a.pk []
 obtain rfl:_=false:=hr.symm.trans (et (ai F) (et (ip O) (et (ai G) (et (ai I) (et (ai l) (et (ai n) (et (ai o) (et (ai p) (et (ai r) (et (ai s) (et (ip b) (et (ai (bI B)) (et (ip d) (et (ip h) (et (ip x) (et (fU j) (et (ip g) (et (ai (bI Y)) (et (ip t) (et (ai (bI ay)) (et (ip R) (fU C))))))))))))))))))))))
 exact⟨rfl,iR⟩
 refine Sz R (Sz R (fw (.bool false) (ES rfl R rfl) (Mz rfl (Sz rfl (Sz rfl (Sz rfl (Sz rfl (fw (.bool false) (ES rfl rfl rfl) (Mz rfl (Sz rfl (Sz rfl (Sz rfl (Sz rfl (Sz rfl (Sz rfl (fw (.bool false) (ES rfl rfl rfl) (Mz rfl (Sz rfl (Sz rfl (Sz rfl (Sz rfl (fw (.bool false) (ES rfl rfl rfl) (Mz rfl (Sz rfl (Sz rfl (Sz rfl (Sz rfl (Sz rfl (Sz rfl (fw (.bool false) (ES rfl rfl rfl) (Mz rfl (Sz rfl (Sz rfl (Sz rfl (Sz rfl (fw (.bool false) (ES rfl rfl rfl) (Mz rfl (Sz rfl (Sz rfl ?_)))))))))))))))))))))))))))))))))))))))
 refine Sz rfl (Sz rfl (Sz rfl (Sz rfl (fw (.bool false) (ES rfl rfl rfl) (An rfl (rt (rs ?_)))))))
 have iT:=a.pk []
 obtain rfl:_=false:=hr.symm.trans (et (ai F) (et (ip O) (et (ai G) (et (ai I) (et (ai l) (et (ai n) (et (ai o) (et (ai p) (et (ai r) (et (ai s) (et (ip b) (et (ai (bI B)) (et (ip d) (et (ip h) (et (ip x) (et (fU j) (et (ip g) (et (ai (bI Y)) (et (ip t) (et (ai (bI ay)) (fU R)))))))))))))))))))))
 exact⟨rfl,iT⟩
 refine Sz (dF t) (Sz (dF t) (Sz (dF t) (Sz (dF t) (Sz (dF t) (fw (.bool false) (ES rfl (dF t) rfl) (Mz rfl (Sz rfl (Sz rfl (fw (.bool false) (ES rfl rfl rfl) (Mz rfl (Sz rfl (Sz rfl (Sz rfl (Sz rfl (fw (.bool false) (ES rfl rfl rfl) (Mz rfl (Sz rfl (Sz rfl (Sz rfl (Sz rfl (Sz rfl (Sz rfl (fw (.bool false) (ES rfl rfl rfl) (Mz rfl (Sz rfl (Sz rfl (Sz rfl (Sz rfl (fw (.bool false) (ES rfl rfl rfl) (Mz rfl (Sz rfl (Sz rfl (Sz rfl (Sz rfl (Sz rfl (Sz rfl (fw (.bool false) (ES rfl rfl rfl) (Mz rfl (Sz rfl ?_)))))))))))))))))))))))))))))))))))))))
 refine Sz rfl (Sz rfl (Sz rfl (fw (.bool false) (ES rfl rfl rfl) (Mz rfl (Sz rfl (Sz rfl (Sz rfl (Sz rfl (Sz rfl (Sz rfl (fw (.bool false) (ES rfl rfl rfl) (An rfl (rt (rs ?_))))))))))))))
 have iU:=a.pk []
 obtain rfl:_=false:=hr.symm.trans (et (ai F) (et (ip O) (et (ai G) (et (ai I) (et (ai l) (et (ai n) (et (ai o) (et (ai p) (et (ai r) (et (ai s) (et (ip b) (et (ai (bI B)) (et (ip d) (et (ip h) (et (ip x) (et (fU j) (et (ip g) (et (ai (bI Y)) (iN t)))))))))))))))))))
 exact⟨rfl,iU⟩
 refine Sz (dF g) (Sz (dF g) (Sz (dF g) (Sz (dF g) (Sz (dF g) (Sz (dF g) (fw (.bool false) (ES rfl (dF g) rfl) (Mz rfl (Sz rfl (Sz rfl (Sz rfl (Sz rfl (Sz rfl (fw (.bool false) (ES rfl rfl rfl) (Mz rfl (Sz rfl (Sz rfl (fw (.bool false) (ES rfl rfl rfl) (Mz rfl (Sz rfl (Sz rfl (Sz rfl (Sz rfl (fw (.bool false) (ES rfl rfl rfl) (Mz rfl (Sz rfl (Sz rfl (Sz rfl (Sz rfl (Sz rfl (Sz rfl (fw (.bool false) (ES rfl rfl rfl) (Mz rfl (Sz rfl (Sz rfl (Sz rfl (Sz rfl (fw (.bool false) (ES rfl rfl rfl) (Mz rfl (Sz rfl ?_)))))))))))))))))))))))))))))))))))))))
 refine Sz rfl (Sz rfl (Sz rfl (Sz rfl (Sz rfl (fw (.bool false) (ES rfl rfl rfl) (Mz rfl (Sz rfl (Sz rfl (Sz rfl (Sz rfl (fw (.bool false) (ES rfl rfl rfl) (Mz rfl (Sz rfl (Sz rfl (Sz rfl (Sz rfl (Sz rfl (Sz rfl (fw (.bool false) (ES rfl rfl rfl) (An rfl (rt (rs ?_))))))))))))))))))))))
 have iV:=a.pk []
 obtain rfl:_=false:=hr.symm.trans (et (ai F) (et (ip O) (et (ai G) (et (ai I) (et (ai l) (et (ai n) (et (ai o) (et (ai p) (et (ai r) (et (ai s) (et (ip b) (et (ai (bI B)) (et (ip d) (et (ip h) (et (ip x) (et (fU j) (iN g)))))))))))))))))
 exact⟨rfl,iV⟩
 refine Sz (dF x) (Sz (dF x) (Sz (dF x) (fw (.bool false) (ES rfl (dF x) rfl) (Mz rfl (Sz rfl (Sz rfl (Sz rfl (Sz rfl (fw (.bool false) (ES rfl rfl rfl) (Mz rfl (Sz rfl (Sz rfl (Sz rfl (Sz rfl (Sz rfl (Sz rfl (fw (.bool false) (ES rfl rfl rfl) (Mz rfl (Sz rfl (Sz rfl (Sz rfl (Sz rfl (Sz rfl (fw (.bool false) (ES rfl rfl rfl) (Mz rfl (Sz rfl (Sz rfl (fw (.bool false) (ES rfl rfl rfl) (Mz rfl (Sz rfl (Sz rfl (Sz rfl (Sz rfl (fw (.bool false) (ES rfl rfl rfl) (Mz rfl (Sz rfl (Sz rfl (Sz rfl (Sz rfl ?_)))))))))))))))))))))))))))))))))))))))
 refine Sz rfl (Sz rfl (fw (.bool false) (ES rfl rfl rfl) (Mz rfl (Sz rfl (Sz rfl (Sz rfl (Sz rfl (fw (.bool false) (ES rfl rfl rfl) (Mz rfl (Sz rfl (Sz rfl (Sz rfl (Sz rfl (Sz rfl (Sz rfl (fw (.bool false) (ES rfl rfl rfl) (Mz rfl (Sz rfl (Sz rfl (Sz rfl (Sz rfl (fw (.bool false) (ES rfl rfl rfl) (Mz rfl (Sz rfl (Sz rfl (Sz rfl (Sz rfl (Sz rfl (Sz rfl (fw (.bool false) (ES rfl rfl rfl) (An rfl (rt (rs ?_)))))))))))))))))))))))))))))))))
 have iW:=a.pk []
 obtain rfl:_=false:=hr.symm.trans (et (ai F) (et (ip O) (et (ai G) (et (ai I) (et (ai l) (et (ai n) (et (ai o) (et (ai p) (et (ai r) (et (ai s) (et (ip b) (et (ai (bI B)) (et (ip d) (et (ip h) (iN x)))))))))))))))
 exact⟨rfl,iW⟩
 refine Sz (dF h) (Sz (dF h) (Sz (dF h) (Sz (dF h) (fw (.bool false) (ES rfl (dF h) rfl) (Mz rfl (Sz rfl (Sz rfl (Sz rfl (fw (.bool false) (ES rfl rfl rfl) (Mz rfl (Sz rfl (Sz rfl (Sz rfl (Sz rfl (fw (.bool false) (ES rfl rfl rfl) (Mz rfl (Sz rfl (Sz rfl (Sz rfl (Sz rfl (Sz rfl (Sz rfl (fw (.bool false) (ES rfl rfl rfl) (Mz rfl (Sz rfl (Sz rfl (Sz rfl (Sz rfl (Sz rfl (fw (.bool false) (ES rfl rfl rfl) (Mz rfl (Sz rfl (Sz rfl (fw (.bool false) (ES rfl rfl rfl) (Mz rfl (Sz rfl (Sz rfl (Sz rfl (Sz rfl ?_)))))))))))))))))))))))))))))))))))))))
 refine fw (.bool false) (ES rfl rfl rfl) (Mz rfl (Sz rfl (Sz rfl (Sz rfl (Sz rfl (Sz rfl (Sz rfl (fw (.bool false) (ES rfl rfl rfl) (Mz rfl (Sz rfl (Sz rfl (Sz rfl (Sz rfl (fw (.bool false) (ES rfl rfl rfl) (Mz rfl (Sz rfl (Sz rfl (Sz rfl (Sz rfl (Sz rfl (Sz rfl (fw (.bool false) (ES rfl rfl rfl) (Mz rfl (Sz rfl (Sz rfl (Sz rfl (Sz rfl (fw (.bool false) (ES rfl rfl rfl) (Mz rfl (Sz rfl (Sz rfl (Sz rfl (Sz rfl (Sz rfl (Sz rfl (fw (.bool false) (ES rfl rfl rfl) (An rfl ?_)))))))))))))))))))))))))))))))))))))
 refine rt (rs ?_)
 have iX:=a.pk []
 obtain rfl:_=false:=hr.symm.trans (et (ai F) (et (ip O) (et (ai G) (et (ai I) (et (ai l) (et (ai n) (et (ai o) (et (ai p) (et (ai r) (et (ai s) (et (ip b) (et (ai (bI B)) (et (ip d) (iN h))))))))))))))
 exact⟨rfl,iX⟩
 refine Sz (dF d) (Sz (dF d) (Sz (dF d) (Sz (dF d) (Sz (dF d) (Sz (dF d) (fw (.bool false) (ES rfl (dF d) rfl) (Mz rfl (Sz rfl (Sz rfl (Sz rfl (Sz rfl (fw (.bool false) (ES rfl rfl rfl) (Mz rfl (Sz rfl (Sz rfl (Sz rfl (fw (.bool false) (ES rfl rfl rfl) (Mz rfl (Sz rfl (Sz rfl (Sz rfl (Sz rfl (fw (.bool false) (ES rfl rfl rfl) (Mz rfl (Sz rfl (Sz rfl (Sz rfl (Sz rfl (Sz rfl (Sz rfl (fw (.bool false) (ES rfl rfl rfl) (Mz rfl (Sz rfl (Sz rfl (Sz rfl (Sz rfl (Sz rfl (fw (.bool false) (ES rfl rfl rfl) (Mz rfl ?_)))))))))))))))))))))))))))))))))))))))
 refine Sz rfl (Sz rfl (fw (.bool false) (ES rfl rfl rfl) (Mz rfl (Sz rfl (Sz rfl (Sz rfl (Sz rfl (fw (.bool false) (ES rfl rfl rfl) (Mz rfl (Sz rfl (Sz rfl (Sz rfl (Sz rfl (Sz rfl (Sz rfl (fw (.bool false) (ES rfl rfl rfl) (Mz rfl (Sz rfl (Sz rfl (Sz rfl (Sz rfl (fw (.bool false) (ES rfl rfl rfl) (Mz rfl (Sz rfl (Sz rfl (Sz rfl (Sz rfl (Sz rfl (Sz rfl (fw (.bool false) (ES rfl rfl rfl) (Mz rfl (Sz rfl (Sz rfl (Sz rfl (Sz rfl (fw (.bool false) (ES rfl rfl rfl) (Mz rfl (Sz rfl (Sz rfl ?_)))))))))))))))))))))))))))))))))))))))
 refine Sz rfl (Sz rfl (Sz rfl (Sz rfl (fw (.bool false) (ES rfl rfl rfl) (An rfl (rt (rs ?_)))))))
 have iZ:=a.pk []
 obtain rfl:_=false:=hr.symm.trans (et (ai F) (et (ip O) (et (ai G) (et (ai I) (et (ai l) (et (ai n) (et (ai o) (et (ai p) (et (ai r) (et (ai s) (et (ip b) (et (ai (bI B)) (iN d)))))))))))))
 exact⟨rfl,iZ⟩
 refine Sz (dF b) (Sz (dF b) (Sz (dF b) (Sz (dF b) (Sz (dF b) (Sz (dF b) (fw (.bool false) (ES rfl (dF b) rfl) (Mz rfl (Sz rfl (Sz rfl (Sz rfl (Sz rfl (Sz rfl (Sz rfl (fw (.bool false) (ES rfl rfl rfl) (Mz rfl (Sz rfl (Sz rfl (Sz rfl (Sz rfl (fw (.bool false) (ES rfl rfl rfl) (Mz rfl (Sz rfl (Sz rfl (Sz rfl (fw (.bool false) (ES rfl rfl rfl) (Mz rfl (Sz rfl (Sz rfl (Sz rfl (Sz rfl (fw (.bool false) (ES rfl rfl rfl) (Mz rfl (Sz rfl (Sz rfl (Sz rfl (Sz rfl (Sz rfl (Sz rfl (fw (.bool false) (ES rfl rfl rfl) ?_)))))))))))))))))))))))))))))))))))))))
 refine Mz rfl (Sz rfl (Sz rfl (Sz rfl (Sz rfl (Sz rfl (fw (.bool false) (ES rfl rfl rfl) (Mz rfl (Sz rfl (Sz rfl (fw (.bool false) (ES rfl rfl rfl) (Mz rfl (Sz rfl (Sz rfl (Sz rfl (Sz rfl (fw (.bool false) (ES rfl rfl rfl) (Mz rfl (Sz rfl (Sz rfl (Sz rfl (Sz rfl (Sz rfl (Sz rfl (fw (.bool false) (ES rfl rfl rfl) (Mz rfl (Sz rfl (Sz rfl (Sz rfl (Sz rfl (fw (.bool false) (ES rfl rfl rfl) (Mz rfl (Sz rfl (Sz rfl (Sz rfl (Sz rfl (Sz rfl (Sz rfl (fw (.bool false) (ES rfl rfl rfl) (Mz rfl ?_)))))))))))))))))))))))))))))))))))))))
 refine Sz rfl (Sz rfl (Sz rfl (Sz rfl (fw (.bool false) (ES rfl rfl rfl) (Mz rfl (Sz rfl (Sz rfl (Sz rfl (Sz rfl (Sz rfl (Sz rfl (fw (.bool false) (ES rfl rfl rfl) (An rfl (rt (rs ?_)))))))))))))))
 have ja:=a.pk []
 obtain rfl:_=false:=hr.symm.trans (et (ai F) (et (ip O) (et (ai G) (et (ai I) (et (ai l) (et (ai n) (et (ai o) (et (ai p) (et (ai r) (et (ai s) (iN b)))))))))))
 exact⟨rfl,ja⟩
 refine Sz (dT O) (Sz (dT O) (Sz (dT O) (fw (.bool true) (Fa rfl (dT O) rfl) (nt (jt (sr (Az rfl (An rfl (rt (tR (Fin.res (lS rfl rfl rfl) (Mz rfl (Kz (.pointer none) (Kz (vI 1) (Az rfl (An rfl (EP (EP ?_))))))))))))))))))
 have jb:=cO.pk []
 refine EO (Mz rfl (Kz (.bool true) (Mz rfl (Sz rfl (Sz rfl (fw (.bool true) (Fa rfl rfl rfl) (nt (jt (sr (An rfl (rt (tR (rs ?_)))))))))))))
 have jc:=jb.pk []
 obtain rfl:_=false:=hr.symm.trans (et (ai F) (iN O))
 exact⟨rfl,jc⟩
end Go.Proofs.YtbkagebjhbphaaaGreat
