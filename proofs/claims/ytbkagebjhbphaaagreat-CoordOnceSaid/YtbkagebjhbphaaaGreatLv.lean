/-
 coord: the chapter's examples.
-/
import Derived.Test.YtbkagebjhbphaaaGreatCoG
namespace Go.Proofs.YtbkagebjhbphaaaGreat
open Int renaming toNat→D0
open IntKind renaming u64→D1
open List renaming flatMap→q3,getD→C0,length→r8,length_replicate→H2,mem_flatMap→Q3,mem_of_getElem?→D3,not_mem_nil→y6,replicate→r6,toArray→v9
open Ll renaming mk→E2
open Sv renaming mk→H0
open _root_.Go.Proofs.Tryz renaming call13→V8,isAgg28→D4,isAgg3→C4,isAgg33→U1,isAgg4→N3,isAgg42→N5,isAgg45→U3,sizeOf28→N7,sizeOf33→H4,sizeOf42→N6,sizeOf47→T4
set_option maxRecDepth 100000
open Go.RowKit
set_option linter.unusedVariables false
set_option linter.unusedSectionVars false
set_option linter.unusedSimpArgs false
def vD:Bool:=
 bnd (gJ (cZ.mk 2 0 0 1 (E2 ([(aY.mk ([]) 1),(aY.mk ([109]) 2)])) (E2 ([])) (E2 ([])))) fun n=>if n=0 then bnd (gW (cZ.mk 2 0 0 1 (E2 ([(aY.mk ([]) 1),(aY.mk ([109]) 2)])) (E2 ([])) (E2 ([])))) fun a=>bnd ((aA.mk (cZ.mk a.au (D0 (D1.wrap (((a.av:Nat):Int)+1))) (eU (D0 (D1.wrap (((a.av:Nat):Int)+1))) 32) a.aL (E2 a.ag.ls) (E2 a.aj.ls) (E2 a.aF.ls)) 0 (E2 ([])) (df.mk false 0 0 (E2 ([]))) (df.mk false 0 0 (E2 ([]))) (df.mk false 0 0 (E2 ([]))) (df.mk false 0 0 (E2 ([]))) (df.mk false 0 0 (E2 ([]))) 0 0 0 0 0)) fun o=>bnd (eT o (bL.mk 1 11 0 0 0 0 1 1 0 0 0 0 0 0 0 false (bC.mk ([]) ([])) (E2 ([(bi.mk 2 ([97]) ([49]) ([]) ([]) 0),(bi.mk 2 ([122]) ([50]) ([]) ([]) 0)])) (E2 ([])) (E2 ([])))) fun c=>bnd (eT c.2.2 (bL.mk 4 1 0 0 3 0 0 0 4294967297 0 0 0 0 0 0 false (bC.mk ([]) ([])) (E2 ([])) (E2 (r6 1 (aQ.mk false ([]) (E2 ([]))))) (E2 ([])))) fun d=>bnd (eT d.2.2 (bL.mk 4 2 0 0 3 0 0 0 4294967297 0 0 0 0 0 0 false (bC.mk ([]) ([])) (E2 ([])) (E2 (r6 1 (aQ.mk false ([]) (E2 ([]))))) (E2 ([])))) fun b=>bnd (eT b.2.2 (bL.mk 1 11 0 0 0 0 1 1 0 0 0 0 0 0 0 false (bC.mk ([]) ([])) (E2 ([(bi.mk 2 ([97]) ([49]) ([]) ([]) 0),(bi.mk 2 ([122]) ([50]) ([]) ([]) 0)])) (E2 ([])) (E2 ([])))) fun e=>bnd (eT e.2.2 (bL.mk 1 11 0 0 0 0 1 0 0 0 0 0 0 0 0 false (bC.mk ([]) ([])) (E2 ([(bi.mk 2 ([97]) ([49]) ([]) ([]) 0),(bi.mk 2 ([122]) ([50]) ([]) ([]) 0)])) (E2 ([])) (E2 ([])))) fun f=>bnd (eT f.2.2 (bL.mk 7 1 0 0 0 0 0 0 99 0 0 0 0 0 0 false (bC.mk ([]) ([])) (E2 ([])) (E2 ([])) (E2 ([])))) fun g=>if((c.1.fo.ls.length:Nat):Int)=2 then bnd (C0 c.1.fo.ls 1 default) fun h=>if h.aD=3 then if((h.aN:Nat):Int)=4294967297 then if((d.1.fo.ls.length:Nat):Int)=0 then if d.1.jl=true then false else if((b.1.fo.ls.length:Nat):Int)=3 then bnd (C0 b.1.fo.ls 0 default) fun i=>if i.dz=1 then bnd (C0 b.1.fo.ls 2 default) fun j=>if j.cz=true then if b.1.jl=true then if((e.1.fo.ls.length:Nat):Int)=1 then bnd (C0 e.1.fo.ls 0 default) fun k=>if k.dz=1 then if((f.1.fo.ls.length:Nat):Int)=1 then bnd (C0 f.1.fo.ls 0 default) fun l=>if l.dz=2 then if((g.1.fo.ls.length:Nat):Int)=1 then bnd (C0 g.1.fo.ls 0 default) fun m=> !m.cz else false else false else false else false else false else false else false else false else false else false else false else false else false else false
set_option maxHeartbeats 4000000 in
theorem BB (w D r0) (H:Own w D w []) (hr:vD=r0):
    Calls Tryz.prog 7 #[] w (d9 fun v w'=>v= .bool r0∧Own w D w' []):=by
 refine cb Tryz.func7 ?_
 refine sr (Ar rfl ?_)
 refine WL.do rfl (Iz Tryz.call9 rfl ?_ (fun _ _ k=>k))
 refine cb Tryz.func9 ?_
 refine sr ?_
 refine dV [vI 0, .int .u64 0, .int .u64 0, .int .u64 0, .slice none 0 0, .slice none 0 0, .slice none 0 0] 33 H ?_
 intro mh mi jd
 refine ns (Kz (.agg #[.string ⟨v9 ([])⟩,vI 1]) (Kz (.agg #[.string ⟨v9 ([109])⟩,vI 2]) ?_))
 refine lg [.string ⟨v9 ([])⟩,vI 1, .string ⟨v9 ([109])⟩,vI 2] 89 2 2 jd ?_
 intro aT mo dZ
 replace dZ:=IL (y:=row aT 2 2 (q3 aY.cells ([(aY.mk ([]) 1),(aY.mk ([109]) 2)])) 89 2) rfl dZ
 refine Kz (.agg #[vI 2, .int .u64 0, .int .u64 0, .int .u64 1, .slice aT 2 2, .slice none 0 0, .slice none 0 0]) ?_
 have je:=dZ.pb [0]
 refine dS [vI 2, .int .u64 0, .int .u64 0, .int .u64 1, .slice aT 2 2, .slice none 0 0, .slice none 0 0] 0 je H4 ?_
 intro mq fJ
 refine nt (rt (Fin.res (ol rfl rfl (Iy (cs:= [vI 2, .int .u64 0, .int .u64 0, .int .u64 1, .slice aT 2 2, .slice none 0 0, .slice none 0 0]) U1 H4 ((fJ.cls (i:=0) rfl).lit (k:=0) (m:=7) rfl))) ?_))
 refine WL.do rfl (Iz Tryz.call8 rfl ?_ (fun _ _ k=>k))
 refine cb Tryz.func8 ?_
 refine Ic ?_
 have jg:=fJ.pk [1]
 refine Ib ?_
 refine dV [vI 2, .int .u64 0, .int .u64 0, .int .u64 1, .slice aT 2 2, .slice none 0 0, .slice none 0 0] 33 jg ?_
 intro jh mr fK
 refine Az rfl (An rfl (Ic (sr (La ([vI 2, .int .u64 0, .int .u64 0, .int .u64 1, .slice aT 2 2, .slice none 0 0, .slice none 0 0]) fK 0 U1 H4 ?_))))
 obtain⟨cK,F⟩:∃ q,gJ (cZ.mk 2 0 0 1 (E2 ([(aY.mk ([]) 1),(aY.mk ([109]) 2)])) (E2 ([])) (E2 ([])))=q:=⟨_,rfl⟩
 obtain⟨mD,fM,kS,fO,fP⟩:=Ii fK
 refine cl Tryz.call19 (mV _ _ (cZ.mk 2 0 0 1 (E2 ([(aY.mk ([]) 1),(aY.mk ([109]) 2)])) (E2 ([])) (E2 ([]))) aT 2 2 none 0 0 [] none 0 0 [] cK fM rfl (fP _ 1 _ rfl aO) f2 rfl rfl (fun _ _=>bE.nil _ _ _) f2 (fun _ h9=>absurd h9 y6) rfl rfl (fun _ _=>bE.nil _ _ _) f2 (fun _ h9=>absurd h9 y6) e8 F) ?_
 rintro _ mE ⟨rfl,fQ⟩
 have cO:=fO _ _ fQ
 refine fw (.bool (decide (¬ (cK=0)))) (IG (e:= !(decide (cK=0))) yk decide_not.symm) (Mz rfl ?_)
 by_cases O:cK=0
 refine gw (vP jh 1) (dF (Lh O)) yk (gw (.int .u64 0) (dF (Lh O)) (Io rfl (bZ.one D4 (jR.of (cO.cls (i:=0) rfl) rfl))) (gw (.bool false) (dF (Lh O)) yk (fw (.bool false) (Ih rfl (dF (Lh O)) rfl) (nt (jf (sk (sr (La ([vI 2, .int .u64 0, .int .u64 0, .int .u64 1, .slice aT 2 2, .slice none 0 0, .slice none 0 0]) cO 0 U1 H4 ?_))))))))
 obtain⟨f,G⟩:∃ q,gW (cZ.mk 2 0 0 1 (E2 ([(aY.mk ([]) 1),(aY.mk ([109]) 2)])) (E2 ([])) (E2 ([])))=q:=⟨_,rfl⟩
 obtain⟨mF,fT,kT,fU,fV⟩:=Ii cO
 refine cl Tryz.call20 (nN _ _ (cZ.mk 2 0 0 1 (E2 ([(aY.mk ([]) 1),(aY.mk ([109]) 2)])) (E2 ([])) (E2 ([]))) aT 2 2 none 0 0 [] none 0 0 [] f fT rfl (fV _ 1 _ rfl aO) f2 rfl rfl (fun _ _=>bE.nil _ _ _) f2 (fun _ h9=>absurd h9 y6) rfl rfl (fun _ _=>bE.nil _ _ _) f2 (fun _ h9=>absurd h9 y6) e8 (by first | assumption | exact wM f5 | exact fun _ h9=>absurd h9 y6) (by first | assumption | exact wN f5 | exact fun _ h9=>absurd h9 y6) G) ?_
 rintro _ mG ⟨fZ,gp,gq,gu,gy,gz,mH,mI,rfl,gB,di,dm⟩
 have dh:=fU _ _ gB
 have kU:=aB di
 have kV:=aB dm
 have kW:=dh.rowC (i:=0) rfl
 have kX:=dh.rowC (i:=1) rfl
 have kY:=dh.rowC (i:=3) rfl
 have kZ:f.ag.ls.length=2∧f.au=2∧f.aj.ls.length=0∧f.aF.ls.length=0:=Ch G
 refine Kz (.agg #[vI f.au,vU f.av,vU f.aV,vU f.aL, .slice fZ f.ag.ls.length gp, .slice gq f.aj.ls.length gu, .slice gy f.aF.ls.length gz, .int .u64 0, .slice none 0 0, .bool false, .int .u64 0,vI 0, .slice none 0 0, .bool false, .int .u64 0,vI 0, .slice none 0 0, .bool false, .int .u64 0,vI 0, .slice none 0 0, .bool false, .int .u64 0,vI 0, .slice none 0 0, .bool false, .int .u64 0,vI 0, .slice none 0 0, .int .u64 0, .int .u64 0, .int .u64 0, .int .u64 0, .int .u64 0, .pointer none]) ?_
 refine dV [vI f.au,vU f.av,vU f.aV,vU f.aL, .slice fZ f.ag.ls.length gp, .slice gq f.aj.ls.length gu, .slice gy f.aF.ls.length gz, .int .u64 0, .slice none 0 0, .bool false, .int .u64 0,vI 0, .slice none 0 0, .bool false, .int .u64 0,vI 0, .slice none 0 0, .bool false, .int .u64 0,vI 0, .slice none 0 0, .bool false, .int .u64 0,vI 0, .slice none 0 0, .bool false, .int .u64 0,vI 0, .slice none 0 0, .int .u64 0, .int .u64 0, .int .u64 0, .int .u64 0, .int .u64 0, .pointer none] 86 dh ?_
 intro U mJ ji
 refine An rfl (Ic ?_)
 have gD:=ji.px [] [6] []
 refine Ib (Mz rfl (Kz (vP U 0) (Kz (vP U 0) (Kz (vP U 1) (Lz (vU f.av) gD 0 D4 (fw (.int .u64 ((D0 (D1.wrap (((f.av:Nat):Int)+1)):Nat):Int)) (Ie (e:=D1.wrap (((f.av:Nat):Int)+1)) yk (fD _)) (Kz (vP U 0) (Kz (vP U 0) (Kz (vP U 1) ?_)))))))))
 refine dS [.int .u64 ((D0 (D1.wrap (((f.av:Nat):Int)+1)):Nat):Int)] 1 gD N7 ?_
 intro mK gF
 refine ns (Mz rfl (Mz rfl (Kz (vP U 0) (Kz (vP U 0) (Kz (vP U 1) (Lz (.int .u64 ((D0 (D1.wrap (((f.av:Nat):Int)+1)):Nat):Int)) gF 0 D4 ?_))))))
 have lc:eU (D0 (D1.wrap (((f.av:Nat):Int)+1))) 32≤18446744073709551615:=nZ _ _
 refine fw (.int .u64 ((eU (D0 (D1.wrap (((f.av:Nat):Int)+1))) 32:Nat):Int)) (Ie (Jv (m:=32) rfl rfl) (fD _)) (Kz (vP U 0) (Kz (vP U 0) (Kz (vP U 2) ?_)))
 refine dS [.int .u64 ((eU (D0 (D1.wrap (((f.av:Nat):Int)+1))) 32:Nat):Int)] 2 gF N7 ?_
 intro aC jk
 refine ns (Mz rfl (Az rfl (An rfl (rt (Fin.res (lW rfl rfl rfl) ?_)))))
 have jl:Own w D aC (sepL (q3 bB.own ([]))::_):=jk.sepNil
 have jm:Own w D aC (row none 0 0 (q3 bB.cells ([])) 107 9::_):=jl.free (eZ 107 9)
 have jo:Own w D aC (sepL (q3 ae.own ([]))::_):=jm.sepNil
 have jq:Own w D aC (row none 0 0 (q3 ae.cells ([])) 149 3::_):=jo.free (eZ 149 3)
 have jr:Own w D aC (sepL (q3 ae.own ([]))::_):=jq.sepNil
 have jv:Own w D aC (row none 0 0 (q3 ae.cells ([])) 149 3::_):=jr.free (eZ 149 3)
 have jw:Own w D aC (sepL (q3 ae.own ([]))::_):=jv.sepNil
 have jy:Own w D aC (row none 0 0 (q3 ae.cells ([])) 149 3::_):=jw.free (eZ 149 3)
 have jA:Own w D aC (sepL (q3 ae.own ([]))::_):=jy.sepNil
 have jB:Own w D aC (row none 0 0 (q3 ae.cells ([])) 149 3::_):=jA.free (eZ 149 3)
 have jC:Own w D aC (sepL (q3 ae.own ([]))::_):=jB.sepNil
 have jD:Own w D aC (row none 0 0 (q3 ae.cells ([])) 149 3::_):=jC.free (eZ 149 3)
 have jE:=jD.pf [12,13,14,15,16,17,10,11]
 have jF:Own w D aC (iG U (aA.mk (cZ.mk f.au (D0 (D1.wrap (((f.av:Nat):Int)+1))) (eU (D0 (D1.wrap (((f.av:Nat):Int)+1))) 32) f.aL (E2 f.ag.ls) (E2 f.aj.ls) (E2 f.aF.ls)) 0 (E2 ([])) (df.mk false 0 0 (E2 ([]))) (df.mk false 0 0 (E2 ([]))) (df.mk false 0 0 (E2 ([]))) (df.mk false 0 0 (E2 ([]))) (df.mk false 0 0 (E2 ([]))) 0 0 0 0 0)::_):=fe di dm rfl rfl rfl rfl rfl rfl jE
 obtain⟨aJ,I⟩:∃ q,(aA.mk (cZ.mk f.au (D0 (D1.wrap (((f.av:Nat):Int)+1))) (eU (D0 (D1.wrap (((f.av:Nat):Int)+1))) 32) f.aL (E2 f.ag.ls) (E2 f.aj.ls) (E2 f.aF.ls)) 0 (E2 ([])) (df.mk false 0 0 (E2 ([]))) (df.mk false 0 0 (E2 ([]))) (df.mk false 0 0 (E2 ([]))) (df.mk false 0 0 (E2 ([]))) (df.mk false 0 0 (E2 ([]))) 0 0 0 0 0)=q:=⟨_,rfl⟩
 have jG:Own w D aC [iG U aJ,row aT 2 2 (q3 aY.cells ([(aY.mk ([]) 1),(aY.mk ([109]) 2)])) 89 2]:=by rw [← I]; exact jF
 have lh:Mk aJ:=wO f5 f5
 have ll:aJ.aa.ag.ls.length≤1000∧aJ.aa.au≤4∧aJ.ay.ls.length+aJ.aa.aj.ls.length≤8∧aJ.aa.aF.ls.length≤0:=tZ f5 f5
 refine Mz rfl (Kz (vP U 0) (Kz (vI 0) (Az rfl (An rfl (Ic (Ic ?_))))))
 have jH:=jG.pk [0]
 refine Ib (Mz rfl (Kz (.bool false) (Mz rfl (gw (vI 0) rfl (Iq rfl) (Gz (.bool false) rfl (fw (.bool false) (Ih rfl rfl rfl) (nt (jf (sk (sr (Kz (.agg #[vI 2, .string ⟨v9 ([97])⟩, .string ⟨v9 ([49])⟩, .string ⟨v9 ([])⟩, .string ⟨v9 ([])⟩,vI 0]) (Kz (.agg #[vI 2, .string ⟨v9 ([122])⟩, .string ⟨v9 ([50])⟩, .string ⟨v9 ([])⟩, .string ⟨v9 ([])⟩,vI 0]) ?_))))))))))))
 refine lg [vI 2, .string ⟨v9 ([97])⟩, .string ⟨v9 ([49])⟩, .string ⟨v9 ([])⟩, .string ⟨v9 ([])⟩,vI 0,vI 2, .string ⟨v9 ([122])⟩, .string ⟨v9 ([50])⟩, .string ⟨v9 ([])⟩, .string ⟨v9 ([])⟩,vI 0] 72 6 2 jH ?_
 intro aD lm bD
 replace bD:=IL (y:=row aD 2 2 (q3 bi.cells ([(bi.mk 2 ([97]) ([49]) ([]) ([]) 0),(bi.mk 2 ([122]) ([50]) ([]) ([]) 0)])) 72 6) rfl bD
 refine Kz (.agg (gU 1 11 0 0 0 0 1 1 0 0 0 0 0 0 0 false ([]) ([]) aD 2 2 none 0 0 none 0 0).toArray) ?_
 refine dV (gU 0 0 0 0 0 0 0 0 0 0 0 0 0 0 0 false ([]) ([]) none 0 0 none 0 0 none 0 0) 42 bD ?_
 intro gG lq gH
 refine dS (gU 1 11 0 0 0 0 1 1 0 0 0 0 0 0 0 false ([]) ([]) aD 2 2 none 0 0 none 0 0) 0 gH N6 ?_
 intro lu dn
 refine ns (Mz rfl (La (gU 1 11 0 0 0 0 1 1 0 0 0 0 0 0 0 false ([]) ([]) aD 2 2 none 0 0 none 0 0) dn 0 N5 N6 ?_))
 have gI:=dn.pf [2]
 obtain⟨⟨aj,dw,Z⟩,l⟩:∃ q:kC × Int × aA,eT aJ (bL.mk 1 11 0 0 0 0 1 1 0 0 0 0 0 0 0 false (bC.mk ([]) ([])) (E2 ([(bi.mk 2 ([97]) ([49]) ([]) ([]) 0),(bi.mk 2 ([122]) ([50]) ([]) ([]) 0)])) (E2 ([])) (E2 ([])))=q:=⟨_,rfl⟩
 obtain⟨lv,ed,jI,ek,eu⟩:=II gI
 refine cl V8 (j5 _ _ U aJ (bL.mk 1 11 0 0 0 0 1 1 0 0 0 0 0 0 0 false (bC.mk ([]) ([])) (E2 ([(bi.mk 2 ([97]) ([49]) ([]) ([]) 0),(bi.mk 2 ([122]) ([50]) ([]) ([]) 0)])) (E2 ([])) (E2 ([]))) aD 2 2 none 0 0 [] none 0 0 aj dw Z ed rfl (eu _ 1 _ rfl aO) f2 rfl rfl (fun _ _=>bE.nil _ _ _) f2 (fun _ h9=>absurd h9 y6) rfl (fun _ _=>bE.nil _ _ _) f2 f9 f5 l) ?_
 rintro _ lw ⟨V,aX,gK,rfl,eB,bF,bG,bH⟩
 have dx:=ek _ _ eB
 have jJ:=aB bF
 have jK:=dx.rowC (i:=0) rfl
 replace bG:Z.aa.ag.ls.length=aJ.aa.ag.ls.length∧Z.aa.au=aJ.aa.au∧Z.ay.ls.length+Z.aa.aj.ls.length≤8∧Z.aa.aF.ls.length≤aJ.aa.aF.ls.length+1:=bG
 replace bH:Mk Z:=bH
 refine Mz rfl (Kz (.agg #[.slice V aj.fo.ls.length aX, .bool aj.jl]) (Kz (vI dw) ?_))
 refine dV [.slice none 0 0, .bool false] 47 dx ?_
 intro bI lC gL
 refine dS [.slice V aj.fo.ls.length aX, .bool aj.jl] 0 gL T4 ?_
 intro lD gM
 refine Ar rfl ?_
 refine WL.do rfl (Jl (x0:=(ae.mk false ([]) (H0 none 0 ([])))) (z:= .agg #[.bool false, .string ⟨v9 ([])⟩, .slice none 0 0]) (k:=1) (size:=3) (bytes:=48) ae.len f4 rfl Tryz.underlying40 e7 gM rfl rfl e6 (by unfold maxLen; omega) ?_)
 intro aU gN gP
 have aV:List.map ae.abs (r6 1 (ae.mk false ([]) (H0 none 0 ([]))))=(r6 1 (aQ.mk false ([]) (E2 ([])))):=List.map_replicate
 have gQ:Own w D gN (sepL (q3 ae.own (r6 1 (ae.mk false ([]) (H0 none 0 ([])))))::_):=gP.free (uX (xA (eZ 153 2)))
 have jL:r8 (r6 1 (ae.mk false ([]) (H0 none 0 ([]))))=1:=H2
 have jM:r8 (r6 1 (aQ.mk false ([]) (E2 ([]))))=1:=H2
 refine Kz (.agg (gU 4 1 0 0 3 0 0 0 4294967297 0 0 0 0 0 0 false ([]) ([]) none 0 0 aU 1 1 none 0 0).toArray) ?_
 refine dV (gU 0 0 0 0 0 0 0 0 0 0 0 0 0 0 0 false ([]) ([]) none 0 0 none 0 0 none 0 0) 42 gQ ?_
 intro gT lF gV
 refine dS (gU 4 1 0 0 3 0 0 0 4294967297 0 0 0 0 0 0 false ([]) ([]) none 0 0 aU 1 1 none 0 0) 0 gV N6 ?_
 intro lG dz
 refine ns (Mz rfl (La (gU 4 1 0 0 3 0 0 0 4294967297 0 0 0 0 0 0 false ([]) ([]) none 0 0 aU 1 1 none 0 0) dz 0 N5 N6 ?_))
 have dA:=dz.pf [6]
 obtain⟨⟨T,dB,aa⟩,n⟩:∃ q:kC × Int × aA,eT Z (bL.mk 4 1 0 0 3 0 0 0 4294967297 0 0 0 0 0 0 false (bC.mk ([]) ([])) (E2 ([])) (E2 (r6 1 (aQ.mk false ([]) (E2 ([]))))) (E2 ([])))=q:=⟨_,rfl⟩
 obtain⟨lH,eD,jN,eF,bK⟩:=II dA
 refine cl V8 (j5 _ _ U Z (bL.mk 4 1 0 0 3 0 0 0 4294967297 0 0 0 0 0 0 false (bC.mk ([]) ([])) (E2 ([])) (E2 (r6 1 (aQ.mk false ([]) (E2 ([]))))) (E2 ([]))) none 0 0 aU 1 1 (r6 1 (ae.mk false ([]) (H0 none 0 ([])))) none 0 0 T dB aa eD rfl (fun _ _=>bE.nil _ _ _) f2 aV f1 (fun w9 h9=>qg (aB aV) ((bK _ 2 _ rfl aO) w9 h9)) (show r8 (r6 1 (aQ.mk false ([]) (E2 ([]))))≤1∧r8 (r6 1 (aQ.mk false ([]) (E2 ([]))))≤9223372036854775807 from by omega) (fun x9 h9=>⟨bK _ 1 _ rfl (ax (Q3.2 ⟨x9,h9,b1⟩) aO),aZ (φ:=fun _=>_) dA (i:=2) rfl (ax (Q3.2 ⟨x9,h9,b1⟩) aW)⟩) rfl (fun _ _=>bE.nil _ _ _) f2 f9 f5 n) ?_
 rintro _ lI ⟨bM,bN,lJ,rfl,eG,eH,bO,bP⟩
 have dC:=eF _ _ eG
 have jP:=aB eH
 have jQ:=dC.rowC (i:=0) rfl
 replace bO:aa.aa.ag.ls.length=Z.aa.ag.ls.length∧aa.aa.au=Z.aa.au∧aa.ay.ls.length+aa.aa.aj.ls.length≤8∧aa.aa.aF.ls.length≤Z.aa.aF.ls.length+1:=bO
 replace bP:Mk aa:=bP
 refine Mz rfl (Kz (.agg #[.slice bM T.fo.ls.length bN, .bool T.jl]) (Kz (vI dB) ?_))
 refine dV [.slice none 0 0, .bool false] 47 dC ?_
 intro dD lK gY
 refine dS [.slice bM T.fo.ls.length bN, .bool T.jl] 0 gY T4 ?_
 intro lL gZ
 refine Ar rfl (Kz (vP gT 1) ?_)
 have ib:=gZ.pf [4]
 refine dS [vI 2] 1 ib Tryz.sizeOf3 ?_
 intro lM dE
 refine ns (Mz rfl (La (gU 4 2 0 0 3 0 0 0 4294967297 0 0 0 0 0 0 false ([]) ([]) none 0 0 aU 1 1 none 0 0) dE 0 N5 N6 ?_))
 have dG:=dE.pf [4]
 obtain⟨⟨P,dH,af⟩,o⟩:∃ q:kC × Int × aA,eT aa (bL.mk 4 2 0 0 3 0 0 0 4294967297 0 0 0 0 0 0 false (bC.mk ([]) ([])) (E2 ([])) (E2 (r6 1 (aQ.mk false ([]) (E2 ([]))))) (E2 ([])))=q:=⟨_,rfl⟩
 obtain⟨lN,eO,jS,eP,bQ⟩:=II dG
 refine cl V8 (j5 _ _ U aa (bL.mk 4 2 0 0 3 0 0 0 4294967297 0 0 0 0 0 0 false (bC.mk ([]) ([])) (E2 ([])) (E2 (r6 1 (aQ.mk false ([]) (E2 ([]))))) (E2 ([]))) none 0 0 aU 1 1 (r6 1 (ae.mk false ([]) (H0 none 0 ([])))) none 0 0 P dH af eO rfl (fun _ _=>bE.nil _ _ _) f2 aV f1 (fun w9 h9=>qg (aB aV) ((bQ _ 5 _ rfl aO) w9 h9)) (show r8 (r6 1 (aQ.mk false ([]) (E2 ([]))))≤1∧r8 (r6 1 (aQ.mk false ([]) (E2 ([]))))≤9223372036854775807 from by omega) (fun x9 h9=>⟨bQ _ 4 _ rfl (ax (Q3.2 ⟨x9,h9,b1⟩) aO),aZ (φ:=fun _=>_) dG (i:=5) rfl (ax (Q3.2 ⟨x9,h9,b1⟩) aW)⟩) rfl (fun _ _=>bE.nil _ _ _) f2 f9 f5 o) ?_
 rintro _ lQ ⟨W,bg,dI,rfl,eQ,bn,bR,bS⟩
 have dJ:=eP _ _ eQ
 have jT:=aB bn
 have jU:=dJ.rowC (i:=0) rfl
 replace bR:af.aa.ag.ls.length=aa.aa.ag.ls.length∧af.aa.au=aa.aa.au∧af.ay.ls.length+af.aa.aj.ls.length≤8∧af.aa.aF.ls.length≤aa.aa.aF.ls.length+1:=bR
 replace bS:Mk af:=bS
 refine Mz rfl (Kz (.agg #[.slice W P.fo.ls.length bg, .bool P.jl]) (Kz (vI dH) ?_))
 refine dV [.slice none 0 0, .bool false] 47 dJ ?_
 intro bu lS ic
 refine dS [.slice W P.fo.ls.length bg, .bool P.jl] 0 ic T4 ?_
 intro lT ig
 refine An rfl (Ic ?_)
 have dK:=ig.px [] [4,8,9] []
 refine Ib (Mz rfl (La (gU 1 11 0 0 0 0 1 1 0 0 0 0 0 0 0 false ([]) ([]) aD 2 2 none 0 0 none 0 0) dK 10 N5 N6 ?_))
 have ik:=dK.pf [3]
 obtain⟨⟨ak,dL,ag⟩,p⟩:∃ q:kC × Int × aA,eT af (bL.mk 1 11 0 0 0 0 1 1 0 0 0 0 0 0 0 false (bC.mk ([]) ([])) (E2 ([(bi.mk 2 ([97]) ([49]) ([]) ([]) 0),(bi.mk 2 ([122]) ([50]) ([]) ([]) 0)])) (E2 ([])) (E2 ([])))=q:=⟨_,rfl⟩
 obtain⟨lU,eX,jV,eY,fo⟩:=II ik
 refine cl V8 (j5 _ _ U af (bL.mk 1 11 0 0 0 0 1 1 0 0 0 0 0 0 0 false (bC.mk ([]) ([])) (E2 ([(bi.mk 2 ([97]) ([49]) ([]) ([]) 0),(bi.mk 2 ([122]) ([50]) ([]) ([]) 0)])) (E2 ([])) (E2 ([]))) aD 2 2 none 0 0 [] none 0 0 ak dL ag eX rfl (fo _ 10 _ rfl aO) f2 rfl rfl (fun _ _=>bE.nil _ _ _) f2 (fun _ h9=>absurd h9 y6) rfl (fun _ _=>bE.nil _ _ _) f2 f9 f5 p) ?_
 rintro _ lV ⟨aG,bv,il,rfl,fq,bT,bU,bV⟩
 have dM:=eY _ _ fq
 have jW:=aB bT
 have jX:=dM.rowC (i:=0) rfl
 replace bU:ag.aa.ag.ls.length=af.aa.ag.ls.length∧ag.aa.au=af.aa.au∧ag.ay.ls.length+ag.aa.aj.ls.length≤8∧ag.aa.aF.ls.length≤af.aa.aF.ls.length+1:=bU
 replace bV:Mk ag:=bV
 refine Mz rfl (Kz (.agg #[.slice aG ak.fo.ls.length bv, .bool ak.jl]) (Kz (vI dL) ?_))
 refine dV [.slice none 0 0, .bool false] 47 dM ?_
 intro dO lX iq
 refine dS [.slice aG ak.fo.ls.length bv, .bool ak.jl] 0 iq T4 ?_
 intro lY iw
 refine Ar rfl (Kz (vP gG 7) ?_)
 have iy:=iw.pf [13]
 refine dS [.int .u64 0] 7 iy N7 ?_
 intro lZ dP
 refine ns (Mz rfl (La (gU 1 11 0 0 0 0 1 0 0 0 0 0 0 0 0 false ([]) ([]) aD 2 2 none 0 0 none 0 0) dP 0 N5 N6 ?_))
 have iA:=dP.pf [4]
 obtain⟨⟨au,dQ,ai⟩,r⟩:∃ q:kC × Int × aA,eT ag (bL.mk 1 11 0 0 0 0 1 0 0 0 0 0 0 0 0 false (bC.mk ([]) ([])) (E2 ([(bi.mk 2 ([97]) ([49]) ([]) ([]) 0),(bi.mk 2 ([122]) ([50]) ([]) ([]) 0)])) (E2 ([])) (E2 ([])))=q:=⟨_,rfl⟩
 obtain⟨l5,fu,jY,fA,fB⟩:=II iA
 refine cl V8 (j5 _ _ U ag (bL.mk 1 11 0 0 0 0 1 0 0 0 0 0 0 0 0 false (bC.mk ([]) ([])) (E2 ([(bi.mk 2 ([97]) ([49]) ([]) ([]) 0),(bi.mk 2 ([122]) ([50]) ([]) ([]) 0)])) (E2 ([])) (E2 ([]))) aD 2 2 none 0 0 [] none 0 0 au dQ ai fu rfl (fB _ 13 _ rfl aO) f2 rfl rfl (fun _ _=>bE.nil _ _ _) f2 (fun _ h9=>absurd h9 y6) rfl (fun _ _=>bE.nil _ _ _) f2 f9 f5 r) ?_
 rintro _ l6 ⟨aH,bz,iB,rfl,fC,bW,bX,bY⟩
 have dR:=fA _ _ fC
 have jZ:=aB bW
 have j3:=dR.rowC (i:=0) rfl
 replace bX:ai.aa.ag.ls.length=ag.aa.ag.ls.length∧ai.aa.au=ag.aa.au∧ai.ay.ls.length+ai.aa.aj.ls.length≤8∧ai.aa.aF.ls.length≤ag.aa.aF.ls.length+1:=bX
 replace bY:Mk ai:=bY
 refine Mz rfl (Kz (.agg #[.slice aH au.fo.ls.length bz, .bool au.jl]) (Kz (vI dQ) ?_))
 refine dV [.slice none 0 0, .bool false] 47 dR ?_
 intro dU l7 iC
 refine dS [.slice aH au.fo.ls.length bz, .bool au.jl] 0 iC T4 ?_
 intro l8 iD
 refine An rfl (Ic ?_)
 have iE:=iD.px [] [4,17] []
 refine Ib (Mz rfl (Kz (.agg (gU 7 1 0 0 0 0 0 0 99 0 0 0 0 0 0 false ([]) ([]) none 0 0 none 0 0 none 0 0).toArray) ?_))
 have iF:=iE.pf [3]
 obtain⟨⟨av,dW,aK⟩,s⟩:∃ q:kC × Int × aA,eT ai (bL.mk 7 1 0 0 0 0 0 0 99 0 0 0 0 0 0 false (bC.mk ([]) ([])) (E2 ([])) (E2 ([])) (E2 ([])))=q:=⟨_,rfl⟩
 obtain⟨l9,fE,j4,fG,j6⟩:=II iF
 refine cl V8 (j5 _ _ U ai (bL.mk 7 1 0 0 0 0 0 0 99 0 0 0 0 0 0 false (bC.mk ([]) ([])) (E2 ([])) (E2 ([])) (E2 ([]))) none 0 0 none 0 0 [] none 0 0 av dW aK fE rfl (fun _ _=>bE.nil _ _ _) f2 rfl rfl (fun _ _=>bE.nil _ _ _) f2 (fun _ h9=>absurd h9 y6) rfl (fun _ _=>bE.nil _ _ _) f2 f9 f5 s) ?_
 rintro _ ma ⟨aI,bA,iH,rfl,fH,cu,cz,cB⟩
 have dX:=fG _ _ fH
 have kg:=aB cu
 have ko:=dX.rowC (i:=0) rfl
 replace cz:aK.aa.ag.ls.length=ai.aa.ag.ls.length∧aK.aa.au=ai.aa.au∧aK.ay.ls.length+aK.aa.aj.ls.length≤8∧aK.aa.aF.ls.length≤ai.aa.aF.ls.length+1:=cz
 replace cB:Mk aK:=cB
 refine Mz rfl (Kz (.agg #[.slice aI av.fo.ls.length bA, .bool av.jl]) (Kz (vI dW) ?_))
 refine dV [.slice none 0 0, .bool false] 47 dX ?_
 intro dY mf iI
 refine dS [.slice aI av.fo.ls.length bA, .bool av.jl] 0 iI T4 ?_
 intro mg iJ
 refine An rfl (Ic ?_)
 have a:=iJ.px [] [3] []
 refine Ib (Kz (vP bI 0) (Lz (.slice V aj.fo.ls.length aX) a 15 U3 (Kz (vJ aj.fo.ls.length) (Kz (.bool (decide (((aj.fo.ls.length:Nat):Int)=2))) (Mz rfl ?_)))))
 by_cases b:((aj.fo.ls.length:Nat):Int)=2
 refine Gz (vP bI 0) (dT b) (Gl (.slice V aj.fo.ls.length aX) (dT b) a 15 U3 ?_)
 obtain⟨u,aF⟩:=dN (ls:=gK) (i:=1) bf.len f4 (a.rds (i:=16) rfl) e9
 have B:=fF bF aF
 have kr:u.aH.ls.length≤u.aH.c∧u.aH.ls.length≤9223372036854775807:=aZ a (i:=17) rfl (φ:=fun _=>_) (ax (Q3.2 ⟨u,D3 aF,b1⟩) aW)
 have ku:u.ai.ls.length≤u.ai.c∧u.ai.ls.length≤9223372036854775807:=aZ a (i:=17) rfl (φ:=fun _=>_) (ax (Q3.2 ⟨u,D3 aF, .tail _ b1⟩) aW)
 have kv:u.ag.ls.length≤u.ag.c∧u.ag.ls.length≤9223372036854775807:=aZ a (i:=17) rfl (φ:=fun _=>_) (ax (Q3.2 ⟨u,D3 aF, .tail _ b2⟩) aW)
 refine gw (.pointer (some ⟨ab V,ao V+1 *21,none⟩)) (dT b) (Ij (uu) rfl rfl ((a.rds (i:=16) rfl).addr (i:=1) e6) e6) (Gz (.pointer (some ⟨ab V,ao V+1 *21,none⟩)) (dT b) (gw (vI u.aD) (dT b) (Io rfl (bZ.one C4 (((a.rds (i:=16) rfl).elem bf.len aF f4).at_ (k:=0) rfl))) (Gz (.bool (decide (u.aD=3))) (dT b) (fw (.bool (decide (u.aD=3))) (Iw rfl (dT b) rfl) (Mz rfl ?_)))))
 by_cases d:u.aD=3
 refine Gz (vP bI 0) (dT d) (Gl (.slice V aj.fo.ls.length aX) (dT d) a 15 U3 (gw (.pointer (some ⟨ab V,ao V+1 *21,none⟩)) (dT d) (Ij (uu) rfl rfl ((a.rds (i:=16) rfl).addr (i:=1) e6) e6) (Gz (.pointer (some ⟨ab V,ao V+1 *21+8,none⟩)) (dT d) (gw (vU u.aN) (dT d) (Io rfl (bZ.one D4 (((a.rds (i:=16) rfl).elem bf.len aF f4).at_ (k:=8) rfl))) (Gz (.bool (decide (((u.aN:Nat):Int)=4294967297))) (dT d) (fw (.bool (decide (((u.aN:Nat):Int)=4294967297))) (Iw rfl (dT d) rfl) (Mz rfl ?_)))))))
 by_cases h:((u.aN:Nat):Int)=4294967297
 refine Gz (vP dD 0) (dT h) (Gl (.slice bM T.fo.ls.length bN) (dT h) a 12 U3 (Gz (vJ T.fo.ls.length) (dT h) (Gz (.bool (decide (((T.fo.ls.length:Nat):Int)=0))) (dT h) (fw (.bool (decide (((T.fo.ls.length:Nat):Int)=0))) (Iw rfl (dT h) rfl) (Mz rfl ?_)))))
 by_cases x:((T.fo.ls.length:Nat):Int)=0
 refine Gz (vP dD 1) (dT x) (Gl (.bool T.jl) (dT x) a 12 N3 (Gz (.bool (!T.jl)) (dT x) (fw (.bool (!T.jl)) (Iw rfl (dT x) rfl) (Mz rfl ?_))))
 rcases Li (T.jl) with j | j
 refine Sz (cn j) (Sz (cn j) (Sz (cn j) (Sz (cn j) (fw (.bool false) (Ih rfl (cn j) rfl) (Mz rfl (Sz rfl (Sz rfl (Sz rfl (Sz rfl (Sz rfl (Sz rfl (fw (.bool false) (Ih rfl rfl rfl) (Mz rfl (Sz rfl (Sz rfl (Sz rfl (Sz rfl (Sz rfl (fw (.bool false) (Ih rfl rfl rfl) (Mz rfl (Sz rfl (Sz rfl (fw (.bool false) (Ih rfl rfl rfl) (Mz rfl (Sz rfl (Sz rfl (Sz rfl (Sz rfl (fw (.bool false) (Ih rfl rfl rfl) (Mz rfl (Sz rfl (Sz rfl (Sz rfl (Sz rfl (Sz rfl (Sz rfl (fw (.bool false) (Ih rfl rfl rfl) (Mz rfl (Sz rfl ?_)))))))))))))))))))))))))))))))))))))))
 refine Sz rfl (Sz rfl (Sz rfl (fw (.bool false) (Ih rfl rfl rfl) (Mz rfl (Sz rfl (Sz rfl (Sz rfl (Sz rfl (Sz rfl (Sz rfl (fw (.bool false) (Ih rfl rfl rfl) (Mz rfl (Sz rfl (Sz rfl (Sz rfl (Sz rfl (fw (.bool false) (Ih rfl rfl rfl) (Mz rfl (Sz rfl (Sz rfl (Sz rfl (Sz rfl (Sz rfl (Sz rfl (fw (.bool false) (Ih rfl rfl rfl) (An rfl (rt (rs ?_))))))))))))))))))))))))))))
 have iK:=a.pk []
 obtain rfl:_=false:=hr.symm.trans (et (ah F) (et (ip O) (et (ah G) (et (ah I) (et (ah l) (et (ah n) (et (ah o) (et (ah p) (et (ah r) (et (ah s) (et (ip b) (et (ah (bJ B)) (et (ip d) (et (ip h) (et (ip x) (ip j))))))))))))))))
 exact⟨rfl,iK⟩
 refine Gz (vP bu 0) (cn j) (Gl (.slice W P.fo.ls.length bg) (cn j) a 9 U3 (Gz (vJ P.fo.ls.length) (cn j) (Gz (.bool (decide (((P.fo.ls.length:Nat):Int)=3))) (cn j) (fw (.bool (decide (((P.fo.ls.length:Nat):Int)=3))) (Iw rfl (cn j) rfl) (Mz rfl ?_)))))
 by_cases g:((P.fo.ls.length:Nat):Int)=3
 refine Gz (vP bu 0) (dT g) (Gl (.slice W P.fo.ls.length bg) (dT g) a 9 U3 ?_)
 obtain⟨J,aL⟩:=dN (ls:=dI) (i:=0) bf.len f4 (a.rds (i:=10) rfl) e9
 have Y:=fF bn aL
 have kw:J.aH.ls.length≤J.aH.c∧J.aH.ls.length≤9223372036854775807:=aZ a (i:=11) rfl (φ:=fun _=>_) (ax (Q3.2 ⟨J,D3 aL,b1⟩) aW)
 have kz:J.ai.ls.length≤J.ai.c∧J.ai.ls.length≤9223372036854775807:=aZ a (i:=11) rfl (φ:=fun _=>_) (ax (Q3.2 ⟨J,D3 aL, .tail _ b1⟩) aW)
 have kD:J.ag.ls.length≤J.ag.c∧J.ag.ls.length≤9223372036854775807:=aZ a (i:=11) rfl (φ:=fun _=>_) (ax (Q3.2 ⟨J,D3 aL, .tail _ b2⟩) aW)
 refine gw (.pointer (some ⟨ab W,ao W+0 *21,none⟩)) (dT g) (Ij (uu) rfl rfl ((a.rds (i:=10) rfl).addr (i:=0) e6) e6) (Gz (.pointer (some ⟨ab W,ao W+0 *21+4,none⟩)) (dT g) (gw (vI J.dz) (dT g) (Io rfl (bZ.one C4 (((a.rds (i:=10) rfl).elem bf.len aL f4).at_ (k:=4) rfl))) (Gz (.bool (decide (J.dz=1))) (dT g) (fw (.bool (decide (J.dz=1))) (Iw rfl (dT g) rfl) (Mz rfl ?_)))))
 by_cases t:J.dz=1
 refine Gz (vP bu 0) (dT t) (Gl (.slice W P.fo.ls.length bg) (dT t) a 9 U3 ?_)
 obtain⟨Q,aM⟩:=dN (ls:=dI) (i:=2) bf.len f4 (a.rds (i:=10) rfl) e9
 have ay:=fF bn aM
 have kE:Q.aH.ls.length≤Q.aH.c∧Q.aH.ls.length≤9223372036854775807:=aZ a (i:=11) rfl (φ:=fun _=>_) (ax (Q3.2 ⟨Q,D3 aM,b1⟩) aW)
 have kF:Q.ai.ls.length≤Q.ai.c∧Q.ai.ls.length≤9223372036854775807:=aZ a (i:=11) rfl (φ:=fun _=>_) (ax (Q3.2 ⟨Q,D3 aM, .tail _ b1⟩) aW)
 have kG:Q.ag.ls.length≤Q.ag.c∧Q.ag.ls.length≤9223372036854775807:=aZ a (i:=11) rfl (φ:=fun _=>_) (ax (Q3.2 ⟨Q,D3 aM, .tail _ b2⟩) aW)
 refine gw (.pointer (some ⟨ab W,ao W+2 *21,none⟩)) (dT t) (Ij (uu) rfl rfl ((a.rds (i:=10) rfl).addr (i:=2) e6) e6) (Gz (.pointer (some ⟨ab W,ao W+2 *21+15,none⟩)) (dT t) (gw (.bool Q.cz) (dT t) (Io rfl (bZ.one N3 (((a.rds (i:=10) rfl).elem bf.len aM f4).at_ (k:=15) rfl))) (fw (.bool Q.cz) (Iw rfl (dT t) rfl) (Mz rfl ?_))))
 rcases Li (Q.cz) with R | R
 refine Gz (vP bu 1) R (Gl (.bool P.jl) R a 9 N3 (fw (.bool P.jl) (Iw rfl R rfl) (Mz rfl ?_)))
 rcases Li (P.jl) with C | C
 refine Gz (vP dO 0) C (Gl (.slice aG ak.fo.ls.length bv) C a 6 U3 (Gz (vJ ak.fo.ls.length) C (Gz (.bool (decide (((ak.fo.ls.length:Nat):Int)=1))) C (fw (.bool (decide (((ak.fo.ls.length:Nat):Int)=1))) (Iw rfl C rfl) (Mz rfl ?_)))))
 by_cases A:((ak.fo.ls.length:Nat):Int)=1
 refine Gz (vP dO 0) (dT A) (Gl (.slice aG ak.fo.ls.length bv) (dT A) a 6 U3 ?_)
 obtain⟨K,aN⟩:=dN (ls:=il) (i:=0) bf.len f4 (a.rds (i:=7) rfl) e9
 have aP:=fF bT aN
 have kH:K.aH.ls.length≤K.aH.c∧K.aH.ls.length≤9223372036854775807:=aZ a (i:=8) rfl (φ:=fun _=>_) (ax (Q3.2 ⟨K,D3 aN,b1⟩) aW)
 have kI:K.ai.ls.length≤K.ai.c∧K.ai.ls.length≤9223372036854775807:=aZ a (i:=8) rfl (φ:=fun _=>_) (ax (Q3.2 ⟨K,D3 aN, .tail _ b1⟩) aW)
 have kJ:K.ag.ls.length≤K.ag.c∧K.ag.ls.length≤9223372036854775807:=aZ a (i:=8) rfl (φ:=fun _=>_) (ax (Q3.2 ⟨K,D3 aN, .tail _ b2⟩) aW)
 refine gw (.pointer (some ⟨ab aG,ao aG+0 *21,none⟩)) (dT A) (Ij (uu) rfl rfl ((a.rds (i:=7) rfl).addr (i:=0) e6) e6) (Gz (.pointer (some ⟨ab aG,ao aG+0 *21+4,none⟩)) (dT A) (gw (vI K.dz) (dT A) (Io rfl (bZ.one C4 (((a.rds (i:=7) rfl).elem bf.len aN f4).at_ (k:=4) rfl))) (Gz (.bool (decide (K.dz=1))) (dT A) (fw (.bool (decide (K.dz=1))) (Iw rfl (dT A) rfl) (Mz rfl ?_)))))
 by_cases S:K.dz=1
 refine Gz (vP dU 0) (dT S) (Gl (.slice aH au.fo.ls.length bz) (dT S) a 3 U3 (Gz (vJ au.fo.ls.length) (dT S) (Gz (.bool (decide (((au.fo.ls.length:Nat):Int)=1))) (dT S) (fw (.bool (decide (((au.fo.ls.length:Nat):Int)=1))) (Iw rfl (dT S) rfl) (Mz rfl ?_)))))
 by_cases E:((au.fo.ls.length:Nat):Int)=1
 refine Gz (vP dU 0) (dT E) (Gl (.slice aH au.fo.ls.length bz) (dT E) a 3 U3 ?_)
 obtain⟨L,aR⟩:=dN (ls:=iB) (i:=0) bf.len f4 (a.rds (i:=4) rfl) e9
 have bq:=fF bW aR
 have kK:L.aH.ls.length≤L.aH.c∧L.aH.ls.length≤9223372036854775807:=aZ a (i:=5) rfl (φ:=fun _=>_) (ax (Q3.2 ⟨L,D3 aR,b1⟩) aW)
 have kL:L.ai.ls.length≤L.ai.c∧L.ai.ls.length≤9223372036854775807:=aZ a (i:=5) rfl (φ:=fun _=>_) (ax (Q3.2 ⟨L,D3 aR, .tail _ b1⟩) aW)
 have kM:L.ag.ls.length≤L.ag.c∧L.ag.ls.length≤9223372036854775807:=aZ a (i:=5) rfl (φ:=fun _=>_) (ax (Q3.2 ⟨L,D3 aR, .tail _ b2⟩) aW)
 refine gw (.pointer (some ⟨ab aH,ao aH+0 *21,none⟩)) (dT E) (Ij (uu) rfl rfl ((a.rds (i:=4) rfl).addr (i:=0) e6) e6) (Gz (.pointer (some ⟨ab aH,ao aH+0 *21+4,none⟩)) (dT E) (gw (vI L.dz) (dT E) (Io rfl (bZ.one C4 (((a.rds (i:=4) rfl).elem bf.len aR f4).at_ (k:=4) rfl))) (Gz (.bool (decide (L.dz=2))) (dT E) (fw (.bool (decide (L.dz=2))) (Iw rfl (dT E) rfl) (Mz rfl ?_)))))
 by_cases X:L.dz=2
 refine Gz (vP dY 0) (dT X) (Gl (.slice aI av.fo.ls.length bA) (dT X) a 0 U3 (Gz (vJ av.fo.ls.length) (dT X) (Gz (.bool (decide (((av.fo.ls.length:Nat):Int)=1))) (dT X) (fw (.bool (decide (((av.fo.ls.length:Nat):Int)=1))) (Iw rfl (dT X) rfl) (Mz rfl ?_)))))
 by_cases M:((av.fo.ls.length:Nat):Int)=1
 refine Gz (vP dY 0) (dT M) (Gl (.slice aI av.fo.ls.length bA) (dT M) a 0 U3 ?_)
 obtain⟨N,aS⟩:=dN (ls:=iH) (i:=0) bf.len f4 (a.rds (i:=1) rfl) e9
 have fI:=fF cu aS
 have kN:N.aH.ls.length≤N.aH.c∧N.aH.ls.length≤9223372036854775807:=aZ a (i:=2) rfl (φ:=fun _=>_) (ax (Q3.2 ⟨N,D3 aS,b1⟩) aW)
 have kP:N.ai.ls.length≤N.ai.c∧N.ai.ls.length≤9223372036854775807:=aZ a (i:=2) rfl (φ:=fun _=>_) (ax (Q3.2 ⟨N,D3 aS, .tail _ b1⟩) aW)
 have kQ:N.ag.ls.length≤N.ag.c∧N.ag.ls.length≤9223372036854775807:=aZ a (i:=2) rfl (φ:=fun _=>_) (ax (Q3.2 ⟨N,D3 aS, .tail _ b2⟩) aW)
 refine gw (.pointer (some ⟨ab aI,ao aI+0 *21,none⟩)) (dT M) (Ij (uu) rfl rfl ((a.rds (i:=1) rfl).addr (i:=0) e6) e6) (Gz (.pointer (some ⟨ab aI,ao aI+0 *21+15,none⟩)) (dT M) (gw (.bool N.cz) (dT M) (Io rfl (bZ.one N3 (((a.rds (i:=1) rfl).elem bf.len aS f4).at_ (k:=15) rfl))) (Gz (.bool (!N.cz)) (dT M) (fw (.bool (!N.cz)) (Iw rfl (dT M) rfl) (An rfl (rt (rs ?_)))))))
 have iL:=a.pk []
 obtain rfl:_= !N.cz:=hr.symm.trans (et (ah F) (et (ip O) (et (ah G) (et (ah I) (et (ah l) (et (ah n) (et (ah o) (et (ah p) (et (ah r) (et (ah s) (et (ip b) (et (ah (bJ B)) (et (ip d) (et (ip h) (et (ip x) (et (gm j) (et (ip g) (et (ah (bJ Y)) (et (ip t) (et (ah (bJ ay)) (et (ip R) (et (ip C) (et (ip A) (et (ah (bJ aP)) (et (ip S) (et (ip E) (et (ah (bJ bq)) (et (ip X) (et (ip M) (ah (bJ fI)))))))))))))))))))))))))))))))
 exact⟨rfl,iL⟩
 refine Sz (dF M) (Sz (dF M) (Sz (dF M) (Sz (dF M) (Sz (dF M) (Sz (dF M) (fw (.bool false) (Ih rfl (dF M) rfl) (An rfl (rt (rs ?_)))))))))
 have iM:=a.pk []
 obtain rfl:_=false:=hr.symm.trans (et (ah F) (et (ip O) (et (ah G) (et (ah I) (et (ah l) (et (ah n) (et (ah o) (et (ah p) (et (ah r) (et (ah s) (et (ip b) (et (ah (bJ B)) (et (ip d) (et (ip h) (et (ip x) (et (gm j) (et (ip g) (et (ah (bJ Y)) (et (ip t) (et (ah (bJ ay)) (et (ip R) (et (ip C) (et (ip A) (et (ah (bJ aP)) (et (ip S) (et (ip E) (et (ah (bJ bq)) (et (ip X) (iN M)))))))))))))))))))))))))))))
 exact⟨rfl,iM⟩
 refine Sz (dF X) (Sz (dF X) (Sz (dF X) (Sz (dF X) (fw (.bool false) (Ih rfl (dF X) rfl) (Mz rfl (Sz rfl (Sz rfl (Sz rfl (Sz rfl (Sz rfl (Sz rfl (fw (.bool false) (Ih rfl rfl rfl) (An rfl (rt (rs ?_)))))))))))))))
 have iO:=a.pk []
 obtain rfl:_=false:=hr.symm.trans (et (ah F) (et (ip O) (et (ah G) (et (ah I) (et (ah l) (et (ah n) (et (ah o) (et (ah p) (et (ah r) (et (ah s) (et (ip b) (et (ah (bJ B)) (et (ip d) (et (ip h) (et (ip x) (et (gm j) (et (ip g) (et (ah (bJ Y)) (et (ip t) (et (ah (bJ ay)) (et (ip R) (et (ip C) (et (ip A) (et (ah (bJ aP)) (et (ip S) (et (ip E) (et (ah (bJ bq)) (iN X))))))))))))))))))))))))))))
 exact⟨rfl,iO⟩
 refine Sz (dF E) (Sz (dF E) (Sz (dF E) (Sz (dF E) (Sz (dF E) (Sz (dF E) (fw (.bool false) (Ih rfl (dF E) rfl) (Mz rfl (Sz rfl (Sz rfl (Sz rfl (Sz rfl (fw (.bool false) (Ih rfl rfl rfl) (Mz rfl (Sz rfl (Sz rfl (Sz rfl (Sz rfl (Sz rfl (Sz rfl (fw (.bool false) (Ih rfl rfl rfl) (An rfl (rt (rs ?_)))))))))))))))))))))))
 have iP:=a.pk []
 obtain rfl:_=false:=hr.symm.trans (et (ah F) (et (ip O) (et (ah G) (et (ah I) (et (ah l) (et (ah n) (et (ah o) (et (ah p) (et (ah r) (et (ah s) (et (ip b) (et (ah (bJ B)) (et (ip d) (et (ip h) (et (ip x) (et (gm j) (et (ip g) (et (ah (bJ Y)) (et (ip t) (et (ah (bJ ay)) (et (ip R) (et (ip C) (et (ip A) (et (ah (bJ aP)) (et (ip S) (iN E))))))))))))))))))))))))))
 exact⟨rfl,iP⟩
 refine Sz (dF S) (Sz (dF S) (Sz (dF S) (Sz (dF S) (fw (.bool false) (Ih rfl (dF S) rfl) (Mz rfl (Sz rfl (Sz rfl (Sz rfl (Sz rfl (Sz rfl (Sz rfl (fw (.bool false) (Ih rfl rfl rfl) (Mz rfl (Sz rfl (Sz rfl (Sz rfl (Sz rfl (fw (.bool false) (Ih rfl rfl rfl) (Mz rfl (Sz rfl (Sz rfl (Sz rfl (Sz rfl (Sz rfl (Sz rfl (fw (.bool false) (Ih rfl rfl rfl) (An rfl (rt (rs ?_)))))))))))))))))))))))))))))
 have iQ:=a.pk []
 obtain rfl:_=false:=hr.symm.trans (et (ah F) (et (ip O) (et (ah G) (et (ah I) (et (ah l) (et (ah n) (et (ah o) (et (ah p) (et (ah r) (et (ah s) (et (ip b) (et (ah (bJ B)) (et (ip d) (et (ip h) (et (ip x) (et (gm j) (et (ip g) (et (ah (bJ Y)) (et (ip t) (et (ah (bJ ay)) (et (ip R) (et (ip C) (et (ip A) (et (ah (bJ aP)) (iN S)))))))))))))))))))))))))
 exact⟨rfl,iQ⟩
 refine Sz (dF A) (Sz (dF A) (Sz (dF A) (Sz (dF A) (Sz (dF A) (Sz (dF A) (fw (.bool false) (Ih rfl (dF A) rfl) (Mz rfl (Sz rfl (Sz rfl (Sz rfl (Sz rfl (fw (.bool false) (Ih rfl rfl rfl) (Mz rfl (Sz rfl (Sz rfl (Sz rfl (Sz rfl (Sz rfl (Sz rfl (fw (.bool false) (Ih rfl rfl rfl) (Mz rfl (Sz rfl (Sz rfl (Sz rfl (Sz rfl (fw (.bool false) (Ih rfl rfl rfl) (Mz rfl (Sz rfl (Sz rfl (Sz rfl (Sz rfl (Sz rfl (Sz rfl (fw (.bool false) (Ih rfl rfl rfl) (An rfl (rt (rs ?_)))))))))))))))))))))))))))))))))))))
 have iR:=a.pk []
 obtain rfl:_=false:=hr.symm.trans (et (ah F) (et (ip O) (et (ah G) (et (ah I) (et (ah l) (et (ah n) (et (ah o) (et (ah p) (et (ah r) (et (ah s) (et (ip b) (et (ah (bJ B)) (et (ip d) (et (ip h) (et (ip x) (et (gm j) (et (ip g) (et (ah (bJ Y)) (et (ip t) (et (ah (bJ ay)) (et (ip R) (et (ip C) (iN A)))))))))))))))))))))))
 exact⟨rfl,iR⟩
 refine Sz C (Sz C (Sz C (Sz C (fw (.bool false) (Ih rfl C rfl) (Mz rfl (Sz rfl (Sz rfl (Sz rfl (Sz rfl (Sz rfl (Sz rfl (fw (.bool false) (Ih rfl rfl rfl) (Mz rfl (Sz rfl (Sz rfl (Sz rfl (Sz rfl (fw (.bool false) (Ih rfl rfl rfl) (Mz rfl (Sz rfl (Sz rfl (Sz rfl (Sz rfl (Sz rfl (Sz rfl (fw (.bool false) (Ih rfl rfl rfl) (Mz rfl (Sz rfl (Sz rfl (Sz rfl (Sz rfl (fw (.bool false) (Ih rfl rfl rfl) (Mz rfl (Sz rfl (Sz rfl (Sz rfl (Sz rfl (Sz rfl (Sz rfl ?_)))))))))))))))))))))))))))))))))))))))
 refine fw (.bool false) (Ih rfl rfl rfl) (An rfl (rt (rs ?_)))
 have iT:=a.pk []
 obtain rfl:_=false:=hr.symm.trans (et (ah F) (et (ip O) (et (ah G) (et (ah I) (et (ah l) (et (ah n) (et (ah o) (et (ah p) (et (ah r) (et (ah s) (et (ip b) (et (ah (bJ B)) (et (ip d) (et (ip h) (et (ip x) (et (gm j) (et (ip g) (et (ah (bJ Y)) (et (ip t) (et (ah (bJ ay)) (et (ip R) (gm C))))))))))))))))))))))
 exact⟨rfl,iT⟩
 refine Sz R (Sz R (fw (.bool false) (Ih rfl R rfl) (Mz rfl (Sz rfl (Sz rfl (Sz rfl (Sz rfl (fw (.bool false) (Ih rfl rfl rfl) (Mz rfl (Sz rfl (Sz rfl (Sz rfl (Sz rfl (Sz rfl (Sz rfl (fw (.bool false) (Ih rfl rfl rfl) (Mz rfl (Sz rfl (Sz rfl (Sz rfl (Sz rfl (fw (.bool false) (Ih rfl rfl rfl) (Mz rfl (Sz rfl (Sz rfl (Sz rfl (Sz rfl (Sz rfl (Sz rfl (fw (.bool false) (Ih rfl rfl rfl) (Mz rfl (Sz rfl (Sz rfl (Sz rfl (Sz rfl (fw (.bool false) (Ih rfl rfl rfl) (Mz rfl (Sz rfl (Sz rfl ?_)))))))))))))))))))))))))))))))))))))))
 refine Sz rfl (Sz rfl (Sz rfl (Sz rfl (fw (.bool false) (Ih rfl rfl rfl) (An rfl (rt (rs ?_)))))))
 have iU:=a.pk []
 obtain rfl:_=false:=hr.symm.trans (et (ah F) (et (ip O) (et (ah G) (et (ah I) (et (ah l) (et (ah n) (et (ah o) (et (ah p) (et (ah r) (et (ah s) (et (ip b) (et (ah (bJ B)) (et (ip d) (et (ip h) (et (ip x) (et (gm j) (et (ip g) (et (ah (bJ Y)) (et (ip t) (et (ah (bJ ay)) (gm R)))))))))))))))))))))
 exact⟨rfl,iU⟩
 refine Sz (dF t) (Sz (dF t) (Sz (dF t) (Sz (dF t) (Sz (dF t) (fw (.bool false) (Ih rfl (dF t) rfl) (Mz rfl (Sz rfl (Sz rfl (fw (.bool false) (Ih rfl rfl rfl) (Mz rfl (Sz rfl (Sz rfl (Sz rfl (Sz rfl (fw (.bool false) (Ih rfl rfl rfl) (Mz rfl (Sz rfl (Sz rfl (Sz rfl (Sz rfl (Sz rfl (Sz rfl (fw (.bool false) (Ih rfl rfl rfl) (Mz rfl (Sz rfl (Sz rfl (Sz rfl (Sz rfl (fw (.bool false) (Ih rfl rfl rfl) (Mz rfl (Sz rfl (Sz rfl (Sz rfl (Sz rfl (Sz rfl (Sz rfl (fw (.bool false) (Ih rfl rfl rfl) (Mz rfl (Sz rfl ?_)))))))))))))))))))))))))))))))))))))))
 refine Sz rfl (Sz rfl (Sz rfl (fw (.bool false) (Ih rfl rfl rfl) (Mz rfl (Sz rfl (Sz rfl (Sz rfl (Sz rfl (Sz rfl (Sz rfl (fw (.bool false) (Ih rfl rfl rfl) (An rfl (rt (rs ?_))))))))))))))
 have iV:=a.pk []
 obtain rfl:_=false:=hr.symm.trans (et (ah F) (et (ip O) (et (ah G) (et (ah I) (et (ah l) (et (ah n) (et (ah o) (et (ah p) (et (ah r) (et (ah s) (et (ip b) (et (ah (bJ B)) (et (ip d) (et (ip h) (et (ip x) (et (gm j) (et (ip g) (et (ah (bJ Y)) (iN t)))))))))))))))))))
 exact⟨rfl,iV⟩
 refine Sz (dF g) (Sz (dF g) (Sz (dF g) (Sz (dF g) (Sz (dF g) (Sz (dF g) (fw (.bool false) (Ih rfl (dF g) rfl) (Mz rfl (Sz rfl (Sz rfl (Sz rfl (Sz rfl (Sz rfl (fw (.bool false) (Ih rfl rfl rfl) (Mz rfl (Sz rfl (Sz rfl (fw (.bool false) (Ih rfl rfl rfl) (Mz rfl (Sz rfl (Sz rfl (Sz rfl (Sz rfl (fw (.bool false) (Ih rfl rfl rfl) (Mz rfl (Sz rfl (Sz rfl (Sz rfl (Sz rfl (Sz rfl (Sz rfl (fw (.bool false) (Ih rfl rfl rfl) (Mz rfl (Sz rfl (Sz rfl (Sz rfl (Sz rfl (fw (.bool false) (Ih rfl rfl rfl) (Mz rfl (Sz rfl ?_)))))))))))))))))))))))))))))))))))))))
 refine Sz rfl (Sz rfl (Sz rfl (Sz rfl (Sz rfl (fw (.bool false) (Ih rfl rfl rfl) (Mz rfl (Sz rfl (Sz rfl (Sz rfl (Sz rfl (fw (.bool false) (Ih rfl rfl rfl) (Mz rfl (Sz rfl (Sz rfl (Sz rfl (Sz rfl (Sz rfl (Sz rfl (fw (.bool false) (Ih rfl rfl rfl) (An rfl (rt (rs ?_))))))))))))))))))))))
 have iW:=a.pk []
 obtain rfl:_=false:=hr.symm.trans (et (ah F) (et (ip O) (et (ah G) (et (ah I) (et (ah l) (et (ah n) (et (ah o) (et (ah p) (et (ah r) (et (ah s) (et (ip b) (et (ah (bJ B)) (et (ip d) (et (ip h) (et (ip x) (et (gm j) (iN g)))))))))))))))))
 exact⟨rfl,iW⟩
 refine Sz (dF x) (Sz (dF x) (Sz (dF x) (fw (.bool false) (Ih rfl (dF x) rfl) (Mz rfl (Sz rfl (Sz rfl (Sz rfl (Sz rfl (fw (.bool false) (Ih rfl rfl rfl) (Mz rfl (Sz rfl (Sz rfl (Sz rfl (Sz rfl (Sz rfl (Sz rfl (fw (.bool false) (Ih rfl rfl rfl) (Mz rfl (Sz rfl (Sz rfl (Sz rfl (Sz rfl (Sz rfl (fw (.bool false) (Ih rfl rfl rfl) (Mz rfl (Sz rfl (Sz rfl (fw (.bool false) (Ih rfl rfl rfl) (Mz rfl (Sz rfl (Sz rfl (Sz rfl (Sz rfl (fw (.bool false) (Ih rfl rfl rfl) (Mz rfl (Sz rfl (Sz rfl (Sz rfl (Sz rfl ?_)))))))))))))))))))))))))))))))))))))))
 refine Sz rfl (Sz rfl (fw (.bool false) (Ih rfl rfl rfl) (Mz rfl (Sz rfl (Sz rfl (Sz rfl (Sz rfl (fw (.bool false) (Ih rfl rfl rfl) (Mz rfl (Sz rfl (Sz rfl (Sz rfl (Sz rfl (Sz rfl (Sz rfl (fw (.bool false) (Ih rfl rfl rfl) (Mz rfl (Sz rfl (Sz rfl (Sz rfl (Sz rfl (fw (.bool false) (Ih rfl rfl rfl) (Mz rfl (Sz rfl (Sz rfl (Sz rfl (Sz rfl (Sz rfl (Sz rfl (fw (.bool false) (Ih rfl rfl rfl) (An rfl (rt (rs ?_)))))))))))))))))))))))))))))))))
 have iX:=a.pk []
 obtain rfl:_=false:=hr.symm.trans (et (ah F) (et (ip O) (et (ah G) (et (ah I) (et (ah l) (et (ah n) (et (ah o) (et (ah p) (et (ah r) (et (ah s) (et (ip b) (et (ah (bJ B)) (et (ip d) (et (ip h) (iN x)))))))))))))))
 exact⟨rfl,iX⟩
 refine Sz (dF h) (Sz (dF h) (Sz (dF h) (Sz (dF h) (fw (.bool false) (Ih rfl (dF h) rfl) (Mz rfl (Sz rfl (Sz rfl (Sz rfl (fw (.bool false) (Ih rfl rfl rfl) (Mz rfl (Sz rfl (Sz rfl (Sz rfl (Sz rfl (fw (.bool false) (Ih rfl rfl rfl) (Mz rfl (Sz rfl (Sz rfl (Sz rfl (Sz rfl (Sz rfl (Sz rfl (fw (.bool false) (Ih rfl rfl rfl) (Mz rfl (Sz rfl (Sz rfl (Sz rfl (Sz rfl (Sz rfl (fw (.bool false) (Ih rfl rfl rfl) (Mz rfl (Sz rfl (Sz rfl (fw (.bool false) (Ih rfl rfl rfl) (Mz rfl (Sz rfl (Sz rfl (Sz rfl (Sz rfl ?_)))))))))))))))))))))))))))))))))))))))
 refine fw (.bool false) (Ih rfl rfl rfl) (Mz rfl (Sz rfl (Sz rfl (Sz rfl (Sz rfl (Sz rfl (Sz rfl (fw (.bool false) (Ih rfl rfl rfl) (Mz rfl (Sz rfl (Sz rfl (Sz rfl (Sz rfl (fw (.bool false) (Ih rfl rfl rfl) (Mz rfl (Sz rfl (Sz rfl (Sz rfl (Sz rfl (Sz rfl (Sz rfl (fw (.bool false) (Ih rfl rfl rfl) (Mz rfl (Sz rfl (Sz rfl (Sz rfl (Sz rfl (fw (.bool false) (Ih rfl rfl rfl) (Mz rfl (Sz rfl (Sz rfl (Sz rfl (Sz rfl (Sz rfl (Sz rfl (fw (.bool false) (Ih rfl rfl rfl) (An rfl ?_)))))))))))))))))))))))))))))))))))))
 refine rt (rs ?_)
 have iY:=a.pk []
 obtain rfl:_=false:=hr.symm.trans (et (ah F) (et (ip O) (et (ah G) (et (ah I) (et (ah l) (et (ah n) (et (ah o) (et (ah p) (et (ah r) (et (ah s) (et (ip b) (et (ah (bJ B)) (et (ip d) (iN h))))))))))))))
 exact⟨rfl,iY⟩
 refine Sz (dF d) (Sz (dF d) (Sz (dF d) (Sz (dF d) (Sz (dF d) (Sz (dF d) (fw (.bool false) (Ih rfl (dF d) rfl) (Mz rfl (Sz rfl (Sz rfl (Sz rfl (Sz rfl (fw (.bool false) (Ih rfl rfl rfl) (Mz rfl (Sz rfl (Sz rfl (Sz rfl (fw (.bool false) (Ih rfl rfl rfl) (Mz rfl (Sz rfl (Sz rfl (Sz rfl (Sz rfl (fw (.bool false) (Ih rfl rfl rfl) (Mz rfl (Sz rfl (Sz rfl (Sz rfl (Sz rfl (Sz rfl (Sz rfl (fw (.bool false) (Ih rfl rfl rfl) (Mz rfl (Sz rfl (Sz rfl (Sz rfl (Sz rfl (Sz rfl (fw (.bool false) (Ih rfl rfl rfl) (Mz rfl ?_)))))))))))))))))))))))))))))))))))))))
 refine Sz rfl (Sz rfl (fw (.bool false) (Ih rfl rfl rfl) (Mz rfl (Sz rfl (Sz rfl (Sz rfl (Sz rfl (fw (.bool false) (Ih rfl rfl rfl) (Mz rfl (Sz rfl (Sz rfl (Sz rfl (Sz rfl (Sz rfl (Sz rfl (fw (.bool false) (Ih rfl rfl rfl) (Mz rfl (Sz rfl (Sz rfl (Sz rfl (Sz rfl (fw (.bool false) (Ih rfl rfl rfl) (Mz rfl (Sz rfl (Sz rfl (Sz rfl (Sz rfl (Sz rfl (Sz rfl (fw (.bool false) (Ih rfl rfl rfl) (Mz rfl (Sz rfl (Sz rfl (Sz rfl (Sz rfl (fw (.bool false) (Ih rfl rfl rfl) (Mz rfl (Sz rfl (Sz rfl ?_)))))))))))))))))))))))))))))))))))))))
 refine Sz rfl (Sz rfl (Sz rfl (Sz rfl (fw (.bool false) (Ih rfl rfl rfl) (An rfl (rt (rs ?_)))))))
 have iZ:=a.pk []
 obtain rfl:_=false:=hr.symm.trans (et (ah F) (et (ip O) (et (ah G) (et (ah I) (et (ah l) (et (ah n) (et (ah o) (et (ah p) (et (ah r) (et (ah s) (et (ip b) (et (ah (bJ B)) (iN d)))))))))))))
 exact⟨rfl,iZ⟩
 refine Sz (dF b) (Sz (dF b) (Sz (dF b) (Sz (dF b) (Sz (dF b) (Sz (dF b) (fw (.bool false) (Ih rfl (dF b) rfl) (Mz rfl (Sz rfl (Sz rfl (Sz rfl (Sz rfl (Sz rfl (Sz rfl (fw (.bool false) (Ih rfl rfl rfl) (Mz rfl (Sz rfl (Sz rfl (Sz rfl (Sz rfl (fw (.bool false) (Ih rfl rfl rfl) (Mz rfl (Sz rfl (Sz rfl (Sz rfl (fw (.bool false) (Ih rfl rfl rfl) (Mz rfl (Sz rfl (Sz rfl (Sz rfl (Sz rfl (fw (.bool false) (Ih rfl rfl rfl) (Mz rfl (Sz rfl (Sz rfl (Sz rfl (Sz rfl (Sz rfl (Sz rfl (fw (.bool false) (Ih rfl rfl rfl) ?_)))))))))))))))))))))))))))))))))))))))
 refine Mz rfl (Sz rfl (Sz rfl (Sz rfl (Sz rfl (Sz rfl (fw (.bool false) (Ih rfl rfl rfl) (Mz rfl (Sz rfl (Sz rfl (fw (.bool false) (Ih rfl rfl rfl) (Mz rfl (Sz rfl (Sz rfl (Sz rfl (Sz rfl (fw (.bool false) (Ih rfl rfl rfl) (Mz rfl (Sz rfl (Sz rfl (Sz rfl (Sz rfl (Sz rfl (Sz rfl (fw (.bool false) (Ih rfl rfl rfl) (Mz rfl (Sz rfl (Sz rfl (Sz rfl (Sz rfl (fw (.bool false) (Ih rfl rfl rfl) (Mz rfl (Sz rfl (Sz rfl (Sz rfl (Sz rfl (Sz rfl (Sz rfl (fw (.bool false) (Ih rfl rfl rfl) (Mz rfl ?_)))))))))))))))))))))))))))))))))))))))
 refine Sz rfl (Sz rfl (Sz rfl (Sz rfl (fw (.bool false) (Ih rfl rfl rfl) (Mz rfl (Sz rfl (Sz rfl (Sz rfl (Sz rfl (Sz rfl (Sz rfl (fw (.bool false) (Ih rfl rfl rfl) (An rfl (rt (rs ?_)))))))))))))))
 have ja:=a.pk []
 obtain rfl:_=false:=hr.symm.trans (et (ah F) (et (ip O) (et (ah G) (et (ah I) (et (ah l) (et (ah n) (et (ah o) (et (ah p) (et (ah r) (et (ah s) (iN b)))))))))))
 exact⟨rfl,ja⟩
 refine Sz (dT O) (Sz (dT O) (Sz (dT O) (fw (.bool true) (Iw rfl (dT O) rfl) (nt (jt (sr (Az rfl (An rfl (rt (tR (Fin.res (lW rfl rfl rfl) (Mz rfl (Kz (.pointer none) (Kz (vI 1) (Az rfl (An rfl (Ic (Ic ?_))))))))))))))))))
 have jb:=cO.pk []
 refine Ib (Mz rfl (Kz (.bool true) (Mz rfl (Sz rfl (Sz rfl (fw (.bool true) (Iw rfl rfl rfl) (nt (jt (sr (An rfl (rt (tR (rs ?_)))))))))))))
 have jc:=jb.pk []
 obtain rfl:_=false:=hr.symm.trans (et (ah F) (iN O))
 exact⟨rfl,jc⟩
end Go.Proofs.YtbkagebjhbphaaaGreat
