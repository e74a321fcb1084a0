/-
 coord: the chapter's examples.
-/
import Derived.Test.YtbkagebjhbphaaaGreatCoX
namespace Go.Proofs.YtbkagebjhbphaaaGreat
open Int renaming toNat→D2
open IntKind renaming u64→D3
open List renaming flatMap→q6,getD→C2,length→s2,length_replicate→H6,mem_flatMap→P2,mem_of_getElem?→E0,not_mem_nil→B3,replicate→s0,toArray→y6
open Ll renaming mk→E4
open Sv renaming mk→H3
open _root_.Go.Proofs.Tryz renaming call13→U0,isAgg28→E1,isAgg3→C6,isAgg33→S7,isAgg4→M2,isAgg42→M4,isAgg45→S9,sizeOf28→M6,sizeOf33→H8,sizeOf42→M5,sizeOf47→S3
set_option maxRecDepth 100000
open Go.RowKit
set_option linter.unusedVariables false
set_option linter.unusedSectionVars false
set_option linter.unusedSimpArgs false
def uO:Bool:=
 bnd (jc (di.mk 2 0 0 1 (E4 ([(aW.mk ([]) 1),(aW.mk ([109]) 2)])) (E4 ([])) (E4 ([])))) fun n=>if n=0 then bnd (jm (di.mk 2 0 0 1 (E4 ([(aW.mk ([]) 1),(aW.mk ([109]) 2)])) (E4 ([])) (E4 ([])))) fun a=>bnd ((aB.mk (di.mk a.av (D2 (D3.wrap (((a.ay:Nat):Int)+1))) (fD (D2 (D3.wrap (((a.ay:Nat):Int)+1))) 32) a.aL (E4 a.ag.ls) (E4 a.ak.ls) (E4 a.aJ.ls)) 0 (E4 ([])) (dX.mk false 0 0 (E4 ([]))) (dX.mk false 0 0 (E4 ([]))) (dX.mk false 0 0 (E4 ([]))) (dX.mk false 0 0 (E4 ([]))) (dX.mk false 0 0 (E4 ([]))) 0 0 0 0 0)) fun o=>bnd (eF o (bM.mk 1 11 0 0 0 0 1 1 0 0 0 0 0 0 0 false (bI.mk ([]) ([])) (E4 ([(bv.mk 2 ([97]) ([49]) ([]) ([]) 0),(bv.mk 2 ([122]) ([50]) ([]) ([]) 0)])) (E4 ([])) (E4 ([])))) fun c=>bnd (eF c.2.2 (bM.mk 4 1 0 0 3 0 0 0 4294967297 0 0 0 0 0 0 false (bI.mk ([]) ([])) (E4 ([])) (E4 (s0 1 (aS.mk false ([]) (E4 ([]))))) (E4 ([])))) fun d=>bnd (eF d.2.2 (bM.mk 4 2 0 0 3 0 0 0 4294967297 0 0 0 0 0 0 false (bI.mk ([]) ([])) (E4 ([])) (E4 (s0 1 (aS.mk false ([]) (E4 ([]))))) (E4 ([])))) fun b=>bnd (eF b.2.2 (bM.mk 1 11 0 0 0 0 1 1 0 0 0 0 0 0 0 false (bI.mk ([]) ([])) (E4 ([(bv.mk 2 ([97]) ([49]) ([]) ([]) 0),(bv.mk 2 ([122]) ([50]) ([]) ([]) 0)])) (E4 ([])) (E4 ([])))) fun e=>bnd (eF e.2.2 (bM.mk 1 11 0 0 0 0 1 0 0 0 0 0 0 0 0 false (bI.mk ([]) ([])) (E4 ([(bv.mk 2 ([97]) ([49]) ([]) ([]) 0),(bv.mk 2 ([122]) ([50]) ([]) ([]) 0)])) (E4 ([])) (E4 ([])))) fun f=>bnd (eF f.2.2 (bM.mk 7 1 0 0 0 0 0 0 99 0 0 0 0 0 0 false (bI.mk ([]) ([])) (E4 ([])) (E4 ([])) (E4 ([])))) fun g=>if((c.1.eO.ls.length:Nat):Int)=2 then bnd (C2 c.1.eO.ls 1 default) fun h=>if h.aG=3 then if((h.aU:Nat):Int)=4294967297 then if((d.1.eO.ls.length:Nat):Int)=0 then if d.1.iQ=true then false else if((b.1.eO.ls.length:Nat):Int)=3 then bnd (C2 b.1.eO.ls 0 default) fun i=>if i.cZ=1 then bnd (C2 b.1.eO.ls 2 default) fun j=>if j.d9=true then if b.1.iQ=true then if((e.1.eO.ls.length:Nat):Int)=1 then bnd (C2 e.1.eO.ls 0 default) fun k=>if k.cZ=1 then if((f.1.eO.ls.length:Nat):Int)=1 then bnd (C2 f.1.eO.ls 0 default) fun l=>if l.cZ=2 then if((g.1.eO.ls.length:Nat):Int)=1 then bnd (C2 g.1.eO.ls 0 default) fun m=> !m.d9 else false else false else false else false else false else false else false else false else false else false else false else false else false else false
set_option maxHeartbeats 4000000 in
theorem AC (w D r0) (H:Own w D w []) (hr:uO=r0):
    Calls Tryz.prog 7 #[] w (dR fun v w'=>v= .bool r0∧Own w D w' []):=by
 refine cb Tryz.func7 ?_
 refine sr (Ar rfl ?_)
 refine WL.do rfl (Gg Tryz.call9 rfl ?_ (fun _ _ k=>k))
 refine cb Tryz.func9 ?_
 refine sr ?_
 refine dM [vI 0, .int .u64 0, .int .u64 0, .int .u64 0, .slice none 0 0, .slice none 0 0, .slice none 0 0] 33 H ?_
 intro mh mi jb
 refine ns (Kz (.agg #[.string ⟨y6 ([])⟩,vI 1]) (Kz (.agg #[.string ⟨y6 ([109])⟩,vI 2]) ?_))
 refine kL [.string ⟨y6 ([])⟩,vI 1, .string ⟨y6 ([109])⟩,vI 2] 89 2 2 jb ?_
 intro aT mo d9
 replace d9:=Gs (y:=row aT 2 2 (q6 aW.cells ([(aW.mk ([]) 1),(aW.mk ([109]) 2)])) 89 2) rfl d9
 refine Kz (.agg #[vI 2, .int .u64 0, .int .u64 0, .int .u64 1, .slice aT 2 2, .slice none 0 0, .slice none 0 0]) ?_
 have jd:=d9.pb [0]
 refine dN [vI 2, .int .u64 0, .int .u64 0, .int .u64 1, .slice aT 2 2, .slice none 0 0, .slice none 0 0] 0 jd H8 ?_
 intro mq fJ
 refine nt (rt (Fin.res (ni rfl rfl (Gf (cs:= [vI 2, .int .u64 0, .int .u64 0, .int .u64 1, .slice aT 2 2, .slice none 0 0, .slice none 0 0]) S7 H8 ((fJ.cls (i:=0) rfl).lit (k:=0) (m:=7) rfl))) ?_))
 refine WL.do rfl (Gg Tryz.call8 rfl ?_ (fun _ _ k=>k))
 refine cb Tryz.func8 ?_
 refine FW ?_
 have je:=fJ.pk [1]
 refine FV ?_
 refine dM [vI 2, .int .u64 0, .int .u64 0, .int .u64 1, .slice aT 2 2, .slice none 0 0, .slice none 0 0] 33 je ?_
 intro jg mr fK
 refine Az rfl (An rfl (FW (sr (La ([vI 2, .int .u64 0, .int .u64 0, .int .u64 1, .slice aT 2 2, .slice none 0 0, .slice none 0 0]) fK 0 S7 H8 ?_))))
 obtain⟨cK,F⟩:∃ q,jc (di.mk 2 0 0 1 (E4 ([(aW.mk ([]) 1),(aW.mk ([109]) 2)])) (E4 ([])) (E4 ([])))=q:=⟨_,rfl⟩
 obtain⟨mD,fM,kT,fO,fP⟩:=F3 fK
 refine cl Tryz.call19 (nY _ _ (di.mk 2 0 0 1 (E4 ([(aW.mk ([]) 1),(aW.mk ([109]) 2)])) (E4 ([])) (E4 ([]))) aT 2 2 none 0 0 [] none 0 0 [] cK fM rfl (fP _ 1 _ rfl aP) f2 rfl rfl (fun _ _=>bA.nil _ _ _) f2 (fun _ h9=>absurd h9 B3) rfl rfl (fun _ _=>bA.nil _ _ _) f2 (fun _ h9=>absurd h9 B3) e8 F) ?_
 rintro _ mE ⟨rfl,fQ⟩
 have cO:=fO _ _ fQ
 refine fw (.bool (decide (¬ (cK=0)))) (Gm (e:= !(decide (cK=0))) yk decide_not.symm) (Mz rfl ?_)
 by_cases O:cK=0
 refine gw (vP jg 1) (dF (JR O)) yk (gw (.int .u64 0) (dF (JR O)) (F7 rfl (bX.one E1 (jL.of (cO.cls (i:=0) rfl) rfl))) (gw (.bool false) (dF (JR O)) yk (fw (.bool false) (FZ rfl (dF (JR O)) rfl) (nt (jf (sk (sr (La ([vI 2, .int .u64 0, .int .u64 0, .int .u64 1, .slice aT 2 2, .slice none 0 0, .slice none 0 0]) cO 0 S7 H8 ?_))))))))
 obtain⟨f,G⟩:∃ q,jm (di.mk 2 0 0 1 (E4 ([(aW.mk ([]) 1),(aW.mk ([109]) 2)])) (E4 ([])) (E4 ([])))=q:=⟨_,rfl⟩
 obtain⟨mF,fT,kU,fU,fV⟩:=F3 cO
 refine cl Tryz.call20 (oJ _ _ (di.mk 2 0 0 1 (E4 ([(aW.mk ([]) 1),(aW.mk ([109]) 2)])) (E4 ([])) (E4 ([]))) aT 2 2 none 0 0 [] none 0 0 [] f fT rfl (fV _ 1 _ rfl aP) f2 rfl rfl (fun _ _=>bA.nil _ _ _) f2 (fun _ h9=>absurd h9 B3) rfl rfl (fun _ _=>bA.nil _ _ _) f2 (fun _ h9=>absurd h9 B3) e8 (by first | assumption | exact Am f4 | exact fun _ h9=>absurd h9 B3) (by first | assumption | exact Ao f4 | exact fun _ h9=>absurd h9 B3) G) ?_
 rintro _ mG ⟨fZ,gm,gp,gq,gu,gy,mH,mI,rfl,gz,df,dh⟩
 have cZ:=fU _ _ gz
 have kV:=az df
 have kW:=az dh
 have kX:=cZ.rowC (i:=0) rfl
 have kY:=cZ.rowC (i:=1) rfl
 have kZ:=cZ.rowC (i:=3) rfl
 have lc:f.ag.ls.length=2∧f.av=2∧f.ak.ls.length=0∧f.aJ.ls.length=0:=Bq G
 refine Kz (.agg #[vI f.av,vU f.ay,vU f.aX,vU f.aL, .slice fZ f.ag.ls.length gm, .slice gp f.ak.ls.length gq, .slice gu f.aJ.ls.length gy, .int .u64 0, .slice none 0 0, .bool false, .int .u64 0,vI 0, .slice none 0 0, .bool false, .int .u64 0,vI 0, .slice none 0 0, .bool false, .int .u64 0,vI 0, .slice none 0 0, .bool false, .int .u64 0,vI 0, .slice none 0 0, .bool false, .int .u64 0,vI 0, .slice none 0 0, .int .u64 0, .int .u64 0, .int .u64 0, .int .u64 0, .int .u64 0, .pointer none]) ?_
 refine dM [vI f.av,vU f.ay,vU f.aX,vU f.aL, .slice fZ f.ag.ls.length gm, .slice gp f.ak.ls.length gq, .slice gu f.aJ.ls.length gy, .int .u64 0, .slice none 0 0, .bool false, .int .u64 0,vI 0, .slice none 0 0, .bool false, .int .u64 0,vI 0, .slice none 0 0, .bool false, .int .u64 0,vI 0, .slice none 0 0, .bool false, .int .u64 0,vI 0, .slice none 0 0, .bool false, .int .u64 0,vI 0, .slice none 0 0, .int .u64 0, .int .u64 0, .int .u64 0, .int .u64 0, .int .u64 0, .pointer none] 86 cZ ?_
 intro U mJ jh
 refine An rfl (FW ?_)
 have gF:=jh.px [] [6] []
 refine FV (Mz rfl (Kz (vP U 0) (Kz (vP U 0) (Kz (vP U 1) (Lz (vU f.ay) gF 0 E1 (fw (.int .u64 ((D2 (D3.wrap (((f.ay:Nat):Int)+1)):Nat):Int)) (FX (e:=D3.wrap (((f.ay:Nat):Int)+1)) yk (fC _)) (Kz (vP U 0) (Kz (vP U 0) (Kz (vP U 1) ?_)))))))))
 refine dN [.int .u64 ((D2 (D3.wrap (((f.ay:Nat):Int)+1)):Nat):Int)] 1 gF M6 ?_
 intro mK gG
 refine ns (Mz rfl (Mz rfl (Kz (vP U 0) (Kz (vP U 0) (Kz (vP U 1) (Lz (.int .u64 ((D2 (D3.wrap (((f.ay:Nat):Int)+1)):Nat):Int)) gG 0 E1 ?_))))))
 have lg:fD (D2 (D3.wrap (((f.ay:Nat):Int)+1))) 32≤18446744073709551615:=oQ _ _
 refine fw (.int .u64 ((fD (D2 (D3.wrap (((f.ay:Nat):Int)+1))) 32:Nat):Int)) (FX (Hz (m:=32) rfl rfl) (fC _)) (Kz (vP U 0) (Kz (vP U 0) (Kz (vP U 2) ?_)))
 refine dN [.int .u64 ((fD (D2 (D3.wrap (((f.ay:Nat):Int)+1))) 32:Nat):Int)] 2 gG M6 ?_
 intro aC ji
 refine ns (Mz rfl (Az rfl (An rfl (rt (Fin.res (lY rfl rfl rfl) ?_)))))
 have jk:Own w D aC (sepL (q6 bz.own ([]))::_):=ji.sepNil
 have jl:Own w D aC (row none 0 0 (q6 bz.cells ([])) 107 9::_):=jk.free (fB 107 9)
 have jo:Own w D aC (sepL (q6 ae.own ([]))::_):=jl.sepNil
 have jq:Own w D aC (row none 0 0 (q6 ae.cells ([])) 149 3::_):=jo.free (fB 149 3)
 have jr:Own w D aC (sepL (q6 ae.own ([]))::_):=jq.sepNil
 have jv:Own w D aC (row none 0 0 (q6 ae.cells ([])) 149 3::_):=jr.free (fB 149 3)
 have jw:Own w D aC (sepL (q6 ae.own ([]))::_):=jv.sepNil
 have jy:Own w D aC (row none 0 0 (q6 ae.cells ([])) 149 3::_):=jw.free (fB 149 3)
 have jA:Own w D aC (sepL (q6 ae.own ([]))::_):=jy.sepNil
 have jB:Own w D aC (row none 0 0 (q6 ae.cells ([])) 149 3::_):=jA.free (fB 149 3)
 have jC:Own w D aC (sepL (q6 ae.own ([]))::_):=jB.sepNil
 have jD:Own w D aC (row none 0 0 (q6 ae.cells ([])) 149 3::_):=jC.free (fB 149 3)
 have jE:=jD.pf [12,13,14,15,16,17,10,11]
 have jF:Own w D aC (iE U (aB.mk (di.mk f.av (D2 (D3.wrap (((f.ay:Nat):Int)+1))) (fD (D2 (D3.wrap (((f.ay:Nat):Int)+1))) 32) f.aL (E4 f.ag.ls) (E4 f.ak.ls) (E4 f.aJ.ls)) 0 (E4 ([])) (dX.mk false 0 0 (E4 ([]))) (dX.mk false 0 0 (E4 ([]))) (dX.mk false 0 0 (E4 ([]))) (dX.mk false 0 0 (E4 ([]))) (dX.mk false 0 0 (E4 ([]))) 0 0 0 0 0)::_):=fA df dh rfl rfl rfl rfl rfl rfl jE
 obtain⟨aJ,I⟩:∃ q,(aB.mk (di.mk f.av (D2 (D3.wrap (((f.ay:Nat):Int)+1))) (fD (D2 (D3.wrap (((f.ay:Nat):Int)+1))) 32) f.aL (E4 f.ag.ls) (E4 f.ak.ls) (E4 f.aJ.ls)) 0 (E4 ([])) (dX.mk false 0 0 (E4 ([]))) (dX.mk false 0 0 (E4 ([]))) (dX.mk false 0 0 (E4 ([]))) (dX.mk false 0 0 (E4 ([]))) (dX.mk false 0 0 (E4 ([]))) 0 0 0 0 0)=q:=⟨_,rfl⟩
 have jG:Own w D aC [iE U aJ,row aT 2 2 (q6 aW.cells ([(aW.mk ([]) 1),(aW.mk ([109]) 2)])) 89 2]:=by rw [← I]; exact jF
 have lh:Mk aJ:=xX f4 f4
 have ll:aJ.aa.ag.ls.length≤1000∧aJ.aa.av≤4∧aJ.au.ls.length+aJ.aa.ak.ls.length≤8∧aJ.aa.aJ.ls.length≤0:=uN f4 f4
 refine Mz rfl (Kz (vP U 0) (Kz (vI 0) (Az rfl (An rfl (FW (FW ?_))))))
 have jH:=jG.pk [0]
 refine FV (Mz rfl (Kz (.bool false) (Mz rfl (gw (vI 0) rfl (F9 rfl) (Gz (.bool false) rfl (fw (.bool false) (FZ rfl rfl rfl) (nt (jf (sk (sr (Kz (.agg #[vI 2, .string ⟨y6 ([97])⟩, .string ⟨y6 ([49])⟩, .string ⟨y6 ([])⟩, .string ⟨y6 ([])⟩,vI 0]) (Kz (.agg #[vI 2, .string ⟨y6 ([122])⟩, .string ⟨y6 ([50])⟩, .string ⟨y6 ([])⟩, .string ⟨y6 ([])⟩,vI 0]) ?_))))))))))))
 refine kL [vI 2, .string ⟨y6 ([97])⟩, .string ⟨y6 ([49])⟩, .string ⟨y6 ([])⟩, .string ⟨y6 ([])⟩,vI 0,vI 2, .string ⟨y6 ([122])⟩, .string ⟨y6 ([50])⟩, .string ⟨y6 ([])⟩, .string ⟨y6 ([])⟩,vI 0] 72 6 2 jH ?_
 intro aD lm bD
 replace bD:=Gs (y:=row aD 2 2 (q6 bv.cells ([(bv.mk 2 ([97]) ([49]) ([]) ([]) 0),(bv.mk 2 ([122]) ([50]) ([]) ([]) 0)])) 72 6) rfl bD
 refine Kz (.agg (gD 1 11 0 0 0 0 1 1 0 0 0 0 0 0 0 false ([]) ([]) aD 2 2 none 0 0 none 0 0).toArray) ?_
 refine dM (gD 0 0 0 0 0 0 0 0 0 0 0 0 0 0 0 false ([]) ([]) none 0 0 none 0 0 none 0 0) 42 bD ?_
 intro gH lq gI
 refine dN (gD 1 11 0 0 0 0 1 1 0 0 0 0 0 0 0 false ([]) ([]) aD 2 2 none 0 0 none 0 0) 0 gI M5 ?_
 intro lu dm
 refine ns (Mz rfl (La (gD 1 11 0 0 0 0 1 1 0 0 0 0 0 0 0 false ([]) ([]) aD 2 2 none 0 0 none 0 0) dm 0 M4 M5 ?_))
 have gJ:=dm.pf [2]
 obtain⟨⟨aj,dn,Z⟩,l⟩:∃ q:jW × Int × aB,eF aJ (bM.mk 1 11 0 0 0 0 1 1 0 0 0 0 0 0 0 false (bI.mk ([]) ([])) (E4 ([(bv.mk 2 ([97]) ([49]) ([]) ([]) 0),(bv.mk 2 ([122]) ([50]) ([]) ([]) 0)])) (E4 ([])) (E4 ([])))=q:=⟨_,rfl⟩
 obtain⟨lv,ed,jI,ek,eu⟩:=Gq gJ
 refine cl U0 (jK _ _ U aJ (bM.mk 1 11 0 0 0 0 1 1 0 0 0 0 0 0 0 false (bI.mk ([]) ([])) (E4 ([(bv.mk 2 ([97]) ([49]) ([]) ([]) 0),(bv.mk 2 ([122]) ([50]) ([]) ([]) 0)])) (E4 ([])) (E4 ([]))) aD 2 2 none 0 0 [] none 0 0 aj dn Z ed rfl (eu _ 1 _ rfl aP) f2 rfl rfl (fun _ _=>bA.nil _ _ _) f2 (fun _ h9=>absurd h9 B3) rfl (fun _ _=>bA.nil _ _ _) f2 f9 f4 l) ?_
 rintro _ lw ⟨V,aZ,gK,rfl,eB,bE,bG,bH⟩
 have dw:=ek _ _ eB
 have jJ:=az bE
 have jM:=dw.rowC (i:=0) rfl
 replace bG:Z.aa.ag.ls.length=aJ.aa.ag.ls.length∧Z.aa.av=aJ.aa.av∧Z.au.ls.length+Z.aa.ak.ls.length≤8∧Z.aa.aJ.ls.length≤aJ.aa.aJ.ls.length+1:=bG
 replace bH:Mk Z:=bH
 refine Mz rfl (Kz (.agg #[.slice V aj.eO.ls.length aZ, .bool aj.iQ]) (Kz (vI dn) ?_))
 refine dM [.slice none 0 0, .bool false] 47 dw ?_
 intro bJ lC gL
 refine dN [.slice V aj.eO.ls.length aZ, .bool aj.iQ] 0 gL S3 ?_
 intro lD gM
 refine Ar rfl ?_
 refine WL.do rfl (Ha (x0:=(ae.mk false ([]) (H3 none 0 ([])))) (z:= .agg #[.bool false, .string ⟨y6 ([])⟩, .slice none 0 0]) (k:=1) (size:=3) (bytes:=48) ae.len f3 rfl Tryz.underlying40 e7 gM rfl rfl e6 (by unfold maxLen; omega) ?_)
 intro aU gN gP
 have aX:List.map ae.abs (s0 1 (ae.mk false ([]) (H3 none 0 ([]))))=(s0 1 (aS.mk false ([]) (E4 ([])))):=List.map_replicate
 have gQ:Own w D gN (sepL (q6 ae.own (s0 1 (ae.mk false ([]) (H3 none 0 ([])))))::_):=gP.free (uC (wQ (fB 153 2)))
 have jN:s2 (s0 1 (ae.mk false ([]) (H3 none 0 ([]))))=1:=H6
 have jO:s2 (s0 1 (aS.mk false ([]) (E4 ([]))))=1:=H6
 refine Kz (.agg (gD 4 1 0 0 3 0 0 0 4294967297 0 0 0 0 0 0 false ([]) ([]) none 0 0 aU 1 1 none 0 0).toArray) ?_
 refine dM (gD 0 0 0 0 0 0 0 0 0 0 0 0 0 0 0 false ([]) ([]) none 0 0 none 0 0 none 0 0) 42 gQ ?_
 intro gT lF gU
 refine dN (gD 4 1 0 0 3 0 0 0 4294967297 0 0 0 0 0 0 false ([]) ([]) none 0 0 aU 1 1 none 0 0) 0 gU M5 ?_
 intro lG dx
 refine ns (Mz rfl (La (gD 4 1 0 0 3 0 0 0 4294967297 0 0 0 0 0 0 false ([]) ([]) none 0 0 aU 1 1 none 0 0) dx 0 M4 M5 ?_))
 have dz:=dx.pf [6]
 obtain⟨⟨T,dA,aa⟩,n⟩:∃ q:jW × Int × aB,eF Z (bM.mk 4 1 0 0 3 0 0 0 4294967297 0 0 0 0 0 0 false (bI.mk ([]) ([])) (E4 ([])) (E4 (s0 1 (aS.mk false ([]) (E4 ([]))))) (E4 ([])))=q:=⟨_,rfl⟩
 obtain⟨lH,eD,jP,eG,bK⟩:=Gq dz
 refine cl U0 (jK _ _ U Z (bM.mk 4 1 0 0 3 0 0 0 4294967297 0 0 0 0 0 0 false (bI.mk ([]) ([])) (E4 ([])) (E4 (s0 1 (aS.mk false ([]) (E4 ([]))))) (E4 ([]))) none 0 0 aU 1 1 (s0 1 (ae.mk false ([]) (H3 none 0 ([])))) none 0 0 T dA aa eD rfl (fun _ _=>bA.nil _ _ _) f2 aX f0 (fun w9 h9=>pg (az aX) ((bK _ 2 _ rfl aP) w9 h9)) (show s2 (s0 1 (aS.mk false ([]) (E4 ([]))))≤1∧s2 (s0 1 (aS.mk false ([]) (E4 ([]))))≤9223372036854775807 from by omega) (fun x9 h9=>⟨bK _ 1 _ rfl (ax (P2.2 ⟨x9,h9,b1⟩) aP),aY (φ:=fun _=>_) dz (i:=2) rfl (ax (P2.2 ⟨x9,h9,b1⟩) aV)⟩) rfl (fun _ _=>bA.nil _ _ _) f2 f9 f4 n) ?_
 rintro _ lI ⟨bL,bN,lJ,rfl,eH,eO,bO,bP⟩
 have dB:=eG _ _ eH
 have jR:=az eO
 have jS:=dB.rowC (i:=0) rfl
 replace bO:aa.aa.ag.ls.length=Z.aa.ag.ls.length∧aa.aa.av=Z.aa.av∧aa.au.ls.length+aa.aa.ak.ls.length≤8∧aa.aa.aJ.ls.length≤Z.aa.aJ.ls.length+1:=bO
 replace bP:Mk aa:=bP
 refine Mz rfl (Kz (.agg #[.slice bL T.eO.ls.length bN, .bool T.iQ]) (Kz (vI dA) ?_))
 refine dM [.slice none 0 0, .bool false] 47 dB ?_
 intro dC lK gW
 refine dN [.slice bL T.eO.ls.length bN, .bool T.iQ] 0 gW S3 ?_
 intro lL gX
 refine Ar rfl (Kz (vP gT 1) ?_)
 have gY:=gX.pf [4]
 refine dN [vI 2] 1 gY Tryz.sizeOf3 ?_
 intro lM dD
 refine ns (Mz rfl (La (gD 4 2 0 0 3 0 0 0 4294967297 0 0 0 0 0 0 false ([]) ([]) none 0 0 aU 1 1 none 0 0) dD 0 M4 M5 ?_))
 have dE:=dD.pf [4]
 obtain⟨⟨P,dG,af⟩,o⟩:∃ q:jW × Int × aB,eF aa (bM.mk 4 2 0 0 3 0 0 0 4294967297 0 0 0 0 0 0 false (bI.mk ([]) ([])) (E4 ([])) (E4 (s0 1 (aS.mk false ([]) (E4 ([]))))) (E4 ([])))=q:=⟨_,rfl⟩
 obtain⟨lN,eP,jT,eQ,bQ⟩:=Gq dE
 refine cl U0 (jK _ _ U aa (bM.mk 4 2 0 0 3 0 0 0 4294967297 0 0 0 0 0 0 false (bI.mk ([]) ([])) (E4 ([])) (E4 (s0 1 (aS.mk false ([]) (E4 ([]))))) (E4 ([]))) none 0 0 aU 1 1 (s0 1 (ae.mk false ([]) (H3 none 0 ([])))) none 0 0 P dG af eP rfl (fun _ _=>bA.nil _ _ _) f2 aX f0 (fun w9 h9=>pg (az aX) ((bQ _ 5 _ rfl aP) w9 h9)) (show s2 (s0 1 (aS.mk false ([]) (E4 ([]))))≤1∧s2 (s0 1 (aS.mk false ([]) (E4 ([]))))≤9223372036854775807 from by omega) (fun x9 h9=>⟨bQ _ 4 _ rfl (ax (P2.2 ⟨x9,h9,b1⟩) aP),aY (φ:=fun _=>_) dE (i:=5) rfl (ax (P2.2 ⟨x9,h9,b1⟩) aV)⟩) rfl (fun _ _=>bA.nil _ _ _) f2 f9 f4 o) ?_
 rintro _ lQ ⟨W,bf,dH,rfl,eT,bg,bR,bS⟩
 have dI:=eQ _ _ eT
 have jU:=az bg
 have jV:=dI.rowC (i:=0) rfl
 replace bR:af.aa.ag.ls.length=aa.aa.ag.ls.length∧af.aa.av=aa.aa.av∧af.au.ls.length+af.aa.ak.ls.length≤8∧af.aa.aJ.ls.length≤aa.aa.aJ.ls.length+1:=bR
 replace bS:Mk af:=bS
 refine Mz rfl (Kz (.agg #[.slice W P.eO.ls.length bf, .bool P.iQ]) (Kz (vI dG) ?_))
 refine dM [.slice none 0 0, .bool false] 47 dI ?_
 intro bn lS gZ
 refine dN [.slice W P.eO.ls.length bf, .bool P.iQ] 0 gZ S3 ?_
 intro lT ib
 refine An rfl (FW ?_)
 have dJ:=ib.px [] [4,8,9] []
 refine FV (Mz rfl (La (gD 1 11 0 0 0 0 1 1 0 0 0 0 0 0 0 false ([]) ([]) aD 2 2 none 0 0 none 0 0) dJ 10 M4 M5 ?_))
 have ic:=dJ.pf [3]
 obtain⟨⟨ak,dL,ag⟩,p⟩:∃ q:jW × Int × aB,eF af (bM.mk 1 11 0 0 0 0 1 1 0 0 0 0 0 0 0 false (bI.mk ([]) ([])) (E4 ([(bv.mk 2 ([97]) ([49]) ([]) ([]) 0),(bv.mk 2 ([122]) ([50]) ([]) ([]) 0)])) (E4 ([])) (E4 ([])))=q:=⟨_,rfl⟩
 obtain⟨lU,eU,jX,eX,eY⟩:=Gq ic
 refine cl U0 (jK _ _ U af (bM.mk 1 11 0 0 0 0 1 1 0 0 0 0 0 0 0 false (bI.mk ([]) ([])) (E4 ([(bv.mk 2 ([97]) ([49]) ([]) ([]) 0),(bv.mk 2 ([122]) ([50]) ([]) ([]) 0)])) (E4 ([])) (E4 ([]))) aD 2 2 none 0 0 [] none 0 0 ak dL ag eU rfl (eY _ 10 _ rfl aP) f2 rfl rfl (fun _ _=>bA.nil _ _ _) f2 (fun _ h9=>absurd h9 B3) rfl (fun _ _=>bA.nil _ _ _) f2 f9 f4 p) ?_
 rintro _ lV ⟨aG,bq,ig,rfl,eZ,bT,bU,bV⟩
 have dO:=eX _ _ eZ
 have jY:=az bT
 have j3:=dO.rowC (i:=0) rfl
 replace bU:ag.aa.ag.ls.length=af.aa.ag.ls.length∧ag.aa.av=af.aa.av∧ag.au.ls.length+ag.aa.ak.ls.length≤8∧ag.aa.aJ.ls.length≤af.aa.aJ.ls.length+1:=bU
 replace bV:Mk ag:=bV
 refine Mz rfl (Kz (.agg #[.slice aG ak.eO.ls.length bq, .bool ak.iQ]) (Kz (vI dL) ?_))
 refine dM [.slice none 0 0, .bool false] 47 dO ?_
 intro dP lW ik
 refine dN [.slice aG ak.eO.ls.length bq, .bool ak.iQ] 0 ik S3 ?_
 intro lX il
 refine Ar rfl (Kz (vP gH 7) ?_)
 have iq:=il.pf [13]
 refine dN [.int .u64 0] 7 iq M6 ?_
 intro lZ dQ
 refine ns (Mz rfl (La (gD 1 11 0 0 0 0 1 0 0 0 0 0 0 0 0 false ([]) ([]) aD 2 2 none 0 0 none 0 0) dQ 0 M4 M5 ?_))
 have iw:=dQ.pf [4]
 obtain⟨⟨au,dS,ah⟩,r⟩:∃ q:jW × Int × aB,eF ag (bM.mk 1 11 0 0 0 0 1 0 0 0 0 0 0 0 0 false (bI.mk ([]) ([])) (E4 ([(bv.mk 2 ([97]) ([49]) ([]) ([]) 0),(bv.mk 2 ([122]) ([50]) ([]) ([]) 0)])) (E4 ([])) (E4 ([])))=q:=⟨_,rfl⟩
 obtain⟨l5,fe,j4,fq,fu⟩:=Gq iw
 refine cl U0 (jK _ _ U ag (bM.mk 1 11 0 0 0 0 1 0 0 0 0 0 0 0 0 false (bI.mk ([]) ([])) (E4 ([(bv.mk 2 ([97]) ([49]) ([]) ([]) 0),(bv.mk 2 ([122]) ([50]) ([]) ([]) 0)])) (E4 ([])) (E4 ([]))) aD 2 2 none 0 0 [] none 0 0 au dS ah fe rfl (fu _ 13 _ rfl aP) f2 rfl rfl (fun _ _=>bA.nil _ _ _) f2 (fun _ h9=>absurd h9 B3) rfl (fun _ _=>bA.nil _ _ _) f2 f9 f4 r) ?_
 rintro _ l6 ⟨aH,bu,iy,rfl,fE,bW,bY,bZ⟩
 have dU:=fq _ _ fE
 have j5:=az bW
 have j6:=dU.rowC (i:=0) rfl
 replace bY:ah.aa.ag.ls.length=ag.aa.ag.ls.length∧ah.aa.av=ag.aa.av∧ah.au.ls.length+ah.aa.ak.ls.length≤8∧ah.aa.aJ.ls.length≤ag.aa.aJ.ls.length+1:=bY
 replace bZ:Mk ah:=bZ
 refine Mz rfl (Kz (.agg #[.slice aH au.eO.ls.length bu, .bool au.iQ]) (Kz (vI dS) ?_))
 refine dM [.slice none 0 0, .bool false] 47 dU ?_
 intro dV l7 iA
 refine dN [.slice aH au.eO.ls.length bu, .bool au.iQ] 0 iA S3 ?_
 intro l8 iB
 refine An rfl (FW ?_)
 have iC:=iB.px [] [4,17] []
 refine FV (Mz rfl (Kz (.agg (gD 7 1 0 0 0 0 0 0 99 0 0 0 0 0 0 false ([]) ([]) none 0 0 none 0 0 none 0 0).toArray) ?_))
 have iD:=iC.pf [3]
 obtain⟨⟨av,dW,aK⟩,s⟩:∃ q:jW × Int × aB,eF ah (bM.mk 7 1 0 0 0 0 0 0 99 0 0 0 0 0 0 false (bI.mk ([]) ([])) (E4 ([])) (E4 ([])) (E4 ([])))=q:=⟨_,rfl⟩
 obtain⟨l9,fF,kg,fG,ko⟩:=Gq iD
 refine cl U0 (jK _ _ U ah (bM.mk 7 1 0 0 0 0 0 0 99 0 0 0 0 0 0 false (bI.mk ([]) ([])) (E4 ([])) (E4 ([])) (E4 ([]))) none 0 0 none 0 0 [] none 0 0 av dW aK fF rfl (fun _ _=>bA.nil _ _ _) f2 rfl rfl (fun _ _=>bA.nil _ _ _) f2 (fun _ h9=>absurd h9 B3) rfl (fun _ _=>bA.nil _ _ _) f2 f9 f4 s) ?_
 rintro _ ma ⟨aI,bB,iF,rfl,fH,cu,cz,cB⟩
 have dY:=fG _ _ fH
 have kr:=az cu
 have ku:=dY.rowC (i:=0) rfl
 replace cz:aK.aa.ag.ls.length=ah.aa.ag.ls.length∧aK.aa.av=ah.aa.av∧aK.au.ls.length+aK.aa.ak.ls.length≤8∧aK.aa.aJ.ls.length≤ah.aa.aJ.ls.length+1:=cz
 replace cB:Mk aK:=cB
 refine Mz rfl (Kz (.agg #[.slice aI av.eO.ls.length bB, .bool av.iQ]) (Kz (vI dW) ?_))
 refine dM [.slice none 0 0, .bool false] 47 dY ?_
 intro dZ mf iG
 refine dN [.slice aI av.eO.ls.length bB, .bool av.iQ] 0 iG S3 ?_
 intro mg iH
 refine An rfl (FW ?_)
 have a:=iH.px [] [3] []
 refine FV (Kz (vP bJ 0) (Lz (.slice V aj.eO.ls.length aZ) a 15 S9 (Kz (vJ aj.eO.ls.length) (Kz (.bool (decide (((aj.eO.ls.length:Nat):Int)=2))) (Mz rfl ?_)))))
 by_cases b:((aj.eO.ls.length:Nat):Int)=2
 refine Gz (vP bJ 0) (dT b) (Gl (.slice V aj.eO.ls.length aZ) (dT b) a 15 S9 ?_)
 obtain⟨u,aF⟩:=dK (ls:=gK) (i:=1) bC.len f3 (a.rds (i:=16) rfl) e9
 have B:=fo bE aF
 have kv:u.aF.ls.length≤u.aF.c∧u.aF.ls.length≤9223372036854775807:=aY a (i:=17) rfl (φ:=fun _=>_) (ax (P2.2 ⟨u,E0 aF,b1⟩) aV)
 have kw:u.ah.ls.length≤u.ah.c∧u.ah.ls.length≤9223372036854775807:=aY a (i:=17) rfl (φ:=fun _=>_) (ax (P2.2 ⟨u,E0 aF, .tail _ b1⟩) aV)
 have ky:u.ag.ls.length≤u.ag.c∧u.ag.ls.length≤9223372036854775807:=aY a (i:=17) rfl (φ:=fun _=>_) (ax (P2.2 ⟨u,E0 aF, .tail _ b2⟩) aV)
 refine gw (.pointer (some ⟨ab V,ao V+1 *21,none⟩)) (dT b) (F4 (uD) rfl rfl ((a.rds (i:=16) rfl).addr (i:=1) e6) e6) (Gz (.pointer (some ⟨ab V,ao V+1 *21,none⟩)) (dT b) (gw (vI u.aG) (dT b) (F7 rfl (bX.one C6 (((a.rds (i:=16) rfl).elem bC.len aF f3).at_ (k:=0) rfl))) (Gz (.bool (decide (u.aG=3))) (dT b) (fw (.bool (decide (u.aG=3))) (Gd rfl (dT b) rfl) (Mz rfl ?_)))))
 by_cases d:u.aG=3
 refine Gz (vP bJ 0) (dT d) (Gl (.slice V aj.eO.ls.length aZ) (dT d) a 15 S9 (gw (.pointer (some ⟨ab V,ao V+1 *21,none⟩)) (dT d) (F4 (uD) rfl rfl ((a.rds (i:=16) rfl).addr (i:=1) e6) e6) (Gz (.pointer (some ⟨ab V,ao V+1 *21+8,none⟩)) (dT d) (gw (vU u.aU) (dT d) (F7 rfl (bX.one E1 (((a.rds (i:=16) rfl).elem bC.len aF f3).at_ (k:=8) rfl))) (Gz (.bool (decide (((u.aU:Nat):Int)=4294967297))) (dT d) (fw (.bool (decide (((u.aU:Nat):Int)=4294967297))) (Gd rfl (dT d) rfl) (Mz rfl ?_)))))))
 by_cases h:((u.aU:Nat):Int)=4294967297
 refine Gz (vP dC 0) (dT h) (Gl (.slice bL T.eO.ls.length bN) (dT h) a 12 S9 (Gz (vJ T.eO.ls.length) (dT h) (Gz (.bool (decide (((T.eO.ls.length:Nat):Int)=0))) (dT h) (fw (.bool (decide (((T.eO.ls.length:Nat):Int)=0))) (Gd rfl (dT h) rfl) (Mz rfl ?_)))))
 by_cases x:((T.eO.ls.length:Nat):Int)=0
 refine Gz (vP dC 1) (dT x) (Gl (.bool T.iQ) (dT x) a 12 M2 (Gz (.bool (!T.iQ)) (dT x) (fw (.bool (!T.iQ)) (Gd rfl (dT x) rfl) (Mz rfl ?_))))
 rcases JS (T.iQ) with j | j
 refine Sz (cn j) (Sz (cn j) (Sz (cn j) (Sz (cn j) (fw (.bool false) (FZ rfl (cn j) rfl) (Mz rfl (Sz rfl (Sz rfl (Sz rfl (Sz rfl (Sz rfl (Sz rfl (fw (.bool false) (FZ rfl rfl rfl) (Mz rfl (Sz rfl (Sz rfl (Sz rfl (Sz rfl (Sz rfl (fw (.bool false) (FZ rfl rfl rfl) (Mz rfl (Sz rfl (Sz rfl (fw (.bool false) (FZ rfl rfl rfl) (Mz rfl (Sz rfl (Sz rfl (Sz rfl (Sz rfl (fw (.bool false) (FZ rfl rfl rfl) (Mz rfl (Sz rfl (Sz rfl (Sz rfl (Sz rfl (Sz rfl (Sz rfl (fw (.bool false) (FZ rfl rfl rfl) (Mz rfl (Sz rfl ?_)))))))))))))))))))))))))))))))))))))))
 refine Sz rfl (Sz rfl (Sz rfl (fw (.bool false) (FZ rfl rfl rfl) (Mz rfl (Sz rfl (Sz rfl (Sz rfl (Sz rfl (Sz rfl (Sz rfl (fw (.bool false) (FZ rfl rfl rfl) (Mz rfl (Sz rfl (Sz rfl (Sz rfl (Sz rfl (fw (.bool false) (FZ rfl rfl rfl) (Mz rfl (Sz rfl (Sz rfl (Sz rfl (Sz rfl (Sz rfl (Sz rfl (fw (.bool false) (FZ rfl rfl rfl) (An rfl (rt (rs ?_))))))))))))))))))))))))))))
 have iI:=a.pk []
 obtain rfl:_=false:=hr.symm.trans (et (ai F) (et (ip O) (et (ai G) (et (ai I) (et (ai l) (et (ai n) (et (ai o) (et (ai p) (et (ai r) (et (ai s) (et (ip b) (et (ai (bF B)) (et (ip d) (et (ip h) (et (ip x) (ip j))))))))))))))))
 exact⟨rfl,iI⟩
 refine Gz (vP bn 0) (cn j) (Gl (.slice W P.eO.ls.length bf) (cn j) a 9 S9 (Gz (vJ P.eO.ls.length) (cn j) (Gz (.bool (decide (((P.eO.ls.length:Nat):Int)=3))) (cn j) (fw (.bool (decide (((P.eO.ls.length:Nat):Int)=3))) (Gd rfl (cn j) rfl) (Mz rfl ?_)))))
 by_cases g:((P.eO.ls.length:Nat):Int)=3
 refine Gz (vP bn 0) (dT g) (Gl (.slice W P.eO.ls.length bf) (dT g) a 9 S9 ?_)
 obtain⟨J,aL⟩:=dK (ls:=dH) (i:=0) bC.len f3 (a.rds (i:=10) rfl) e9
 have Y:=fo bg aL
 have kz:J.aF.ls.length≤J.aF.c∧J.aF.ls.length≤9223372036854775807:=aY a (i:=11) rfl (φ:=fun _=>_) (ax (P2.2 ⟨J,E0 aL,b1⟩) aV)
 have kC:J.ah.ls.length≤J.ah.c∧J.ah.ls.length≤9223372036854775807:=aY a (i:=11) rfl (φ:=fun _=>_) (ax (P2.2 ⟨J,E0 aL, .tail _ b1⟩) aV)
 have kD:J.ag.ls.length≤J.ag.c∧J.ag.ls.length≤9223372036854775807:=aY a (i:=11) rfl (φ:=fun _=>_) (ax (P2.2 ⟨J,E0 aL, .tail _ b2⟩) aV)
 refine gw (.pointer (some ⟨ab W,ao W+0 *21,none⟩)) (dT g) (F4 (uD) rfl rfl ((a.rds (i:=10) rfl).addr (i:=0) e6) e6) (Gz (.pointer (some ⟨ab W,ao W+0 *21+4,none⟩)) (dT g) (gw (vI J.cZ) (dT g) (F7 rfl (bX.one C6 (((a.rds (i:=10) rfl).elem bC.len aL f3).at_ (k:=4) rfl))) (Gz (.bool (decide (J.cZ=1))) (dT g) (fw (.bool (decide (J.cZ=1))) (Gd rfl (dT g) rfl) (Mz rfl ?_)))))
 by_cases t:J.cZ=1
 refine Gz (vP bn 0) (dT t) (Gl (.slice W P.eO.ls.length bf) (dT t) a 9 S9 ?_)
 obtain⟨Q,aM⟩:=dK (ls:=dH) (i:=2) bC.len f3 (a.rds (i:=10) rfl) e9
 have ay:=fo bg aM
 have kE:Q.aF.ls.length≤Q.aF.c∧Q.aF.ls.length≤9223372036854775807:=aY a (i:=11) rfl (φ:=fun _=>_) (ax (P2.2 ⟨Q,E0 aM,b1⟩) aV)
 have kF:Q.ah.ls.length≤Q.ah.c∧Q.ah.ls.length≤9223372036854775807:=aY a (i:=11) rfl (φ:=fun _=>_) (ax (P2.2 ⟨Q,E0 aM, .tail _ b1⟩) aV)
 have kG:Q.ag.ls.length≤Q.ag.c∧Q.ag.ls.length≤9223372036854775807:=aY a (i:=11) rfl (φ:=fun _=>_) (ax (P2.2 ⟨Q,E0 aM, .tail _ b2⟩) aV)
 refine gw (.pointer (some ⟨ab W,ao W+2 *21,none⟩)) (dT t) (F4 (uD) rfl rfl ((a.rds (i:=10) rfl).addr (i:=2) e6) e6) (Gz (.pointer (some ⟨ab W,ao W+2 *21+15,none⟩)) (dT t) (gw (.bool Q.d9) (dT t) (F7 rfl (bX.one M2 (((a.rds (i:=10) rfl).elem bC.len aM f3).at_ (k:=15) rfl))) (fw (.bool Q.d9) (Gd rfl (dT t) rfl) (Mz rfl ?_))))
 rcases JS (Q.d9) with R | R
 refine Gz (vP bn 1) R (Gl (.bool P.iQ) R a 9 M2 (fw (.bool P.iQ) (Gd rfl R rfl) (Mz rfl ?_)))
 rcases JS (P.iQ) with C | C
 refine Gz (vP dP 0) C (Gl (.slice aG ak.eO.ls.length bq) C a 6 S9 (Gz (vJ ak.eO.ls.length) C (Gz (.bool (decide (((ak.eO.ls.length:Nat):Int)=1))) C (fw (.bool (decide (((ak.eO.ls.length:Nat):Int)=1))) (Gd rfl C rfl) (Mz rfl ?_)))))
 by_cases A:((ak.eO.ls.length:Nat):Int)=1
 refine Gz (vP dP 0) (dT A) (Gl (.slice aG ak.eO.ls.length bq) (dT A) a 6 S9 ?_)
 obtain⟨K,aN⟩:=dK (ls:=ig) (i:=0) bC.len f3 (a.rds (i:=7) rfl) e9
 have aO:=fo bT aN
 have kH:K.aF.ls.length≤K.aF.c∧K.aF.ls.length≤9223372036854775807:=aY a (i:=8) rfl (φ:=fun _=>_) (ax (P2.2 ⟨K,E0 aN,b1⟩) aV)
 have kI:K.ah.ls.length≤K.ah.c∧K.ah.ls.length≤9223372036854775807:=aY a (i:=8) rfl (φ:=fun _=>_) (ax (P2.2 ⟨K,E0 aN, .tail _ b1⟩) aV)
 have kJ:K.ag.ls.length≤K.ag.c∧K.ag.ls.length≤9223372036854775807:=aY a (i:=8) rfl (φ:=fun _=>_) (ax (P2.2 ⟨K,E0 aN, .tail _ b2⟩) aV)
 refine gw (.pointer (some ⟨ab aG,ao aG+0 *21,none⟩)) (dT A) (F4 (uD) rfl rfl ((a.rds (i:=7) rfl).addr (i:=0) e6) e6) (Gz (.pointer (some ⟨ab aG,ao aG+0 *21+4,none⟩)) (dT A) (gw (vI K.cZ) (dT A) (F7 rfl (bX.one C6 (((a.rds (i:=7) rfl).elem bC.len aN f3).at_ (k:=4) rfl))) (Gz (.bool (decide (K.cZ=1))) (dT A) (fw (.bool (decide (K.cZ=1))) (Gd rfl (dT A) rfl) (Mz rfl ?_)))))
 by_cases S:K.cZ=1
 refine Gz (vP dV 0) (dT S) (Gl (.slice aH au.eO.ls.length bu) (dT S) a 3 S9 (Gz (vJ au.eO.ls.length) (dT S) (Gz (.bool (decide (((au.eO.ls.length:Nat):Int)=1))) (dT S) (fw (.bool (decide (((au.eO.ls.length:Nat):Int)=1))) (Gd rfl (dT S) rfl) (Mz rfl ?_)))))
 by_cases E:((au.eO.ls.length:Nat):Int)=1
 refine Gz (vP dV 0) (dT E) (Gl (.slice aH au.eO.ls.length bu) (dT E) a 3 S9 ?_)
 obtain⟨L,aQ⟩:=dK (ls:=iy) (i:=0) bC.len f3 (a.rds (i:=4) rfl) e9
 have bi:=fo bW aQ
 have kK:L.aF.ls.length≤L.aF.c∧L.aF.ls.length≤9223372036854775807:=aY a (i:=5) rfl (φ:=fun _=>_) (ax (P2.2 ⟨L,E0 aQ,b1⟩) aV)
 have kM:L.ah.ls.length≤L.ah.c∧L.ah.ls.length≤9223372036854775807:=aY a (i:=5) rfl (φ:=fun _=>_) (ax (P2.2 ⟨L,E0 aQ, .tail _ b1⟩) aV)
 have kN:L.ag.ls.length≤L.ag.c∧L.ag.ls.length≤9223372036854775807:=aY a (i:=5) rfl (φ:=fun _=>_) (ax (P2.2 ⟨L,E0 aQ, .tail _ b2⟩) aV)
 refine gw (.pointer (some ⟨ab aH,ao aH+0 *21,none⟩)) (dT E) (F4 (uD) rfl rfl ((a.rds (i:=4) rfl).addr (i:=0) e6) e6) (Gz (.pointer (some ⟨ab aH,ao aH+0 *21+4,none⟩)) (dT E) (gw (vI L.cZ) (dT E) (F7 rfl (bX.one C6 (((a.rds (i:=4) rfl).elem bC.len aQ f3).at_ (k:=4) rfl))) (Gz (.bool (decide (L.cZ=2))) (dT E) (fw (.bool (decide (L.cZ=2))) (Gd rfl (dT E) rfl) (Mz rfl ?_)))))
 by_cases X:L.cZ=2
 refine Gz (vP dZ 0) (dT X) (Gl (.slice aI av.eO.ls.length bB) (dT X) a 0 S9 (Gz (vJ av.eO.ls.length) (dT X) (Gz (.bool (decide (((av.eO.ls.length:Nat):Int)=1))) (dT X) (fw (.bool (decide (((av.eO.ls.length:Nat):Int)=1))) (Gd rfl (dT X) rfl) (Mz rfl ?_)))))
 by_cases M:((av.eO.ls.length:Nat):Int)=1
 refine Gz (vP dZ 0) (dT M) (Gl (.slice aI av.eO.ls.length bB) (dT M) a 0 S9 ?_)
 obtain⟨N,aR⟩:=dK (ls:=iF) (i:=0) bC.len f3 (a.rds (i:=1) rfl) e9
 have fI:=fo cu aR
 have kP:N.aF.ls.length≤N.aF.c∧N.aF.ls.length≤9223372036854775807:=aY a (i:=2) rfl (φ:=fun _=>_) (ax (P2.2 ⟨N,E0 aR,b1⟩) aV)
 have kQ:N.ah.ls.length≤N.ah.c∧N.ah.ls.length≤9223372036854775807:=aY a (i:=2) rfl (φ:=fun _=>_) (ax (P2.2 ⟨N,E0 aR, .tail _ b1⟩) aV)
 have kR:N.ag.ls.length≤N.ag.c∧N.ag.ls.length≤9223372036854775807:=aY a (i:=2) rfl (φ:=fun _=>_) (ax (P2.2 ⟨N,E0 aR, .tail _ b2⟩) aV)
 refine gw (.pointer (some ⟨ab aI,ao aI+0 *21,none⟩)) (dT M) (F4 (uD) rfl rfl ((a.rds (i:=1) rfl).addr (i:=0) e6) e6) (Gz (.pointer (some ⟨ab aI,ao aI+0 *21+15,none⟩)) (dT M) (gw (.bool N.d9) (dT M) (F7 rfl (bX.one M2 (((a.rds (i:=1) rfl).elem bC.len aR f3).at_ (k:=15) rfl))) (Gz (.bool (!N.d9)) (dT M) (fw (.bool (!N.d9)) (Gd rfl (dT M) rfl) (An rfl (rt (rs ?_)))))))
 have iJ:=a.pk []
 obtain rfl:_= !N.d9:=hr.symm.trans (et (ai F) (et (ip O) (et (ai G) (et (ai I) (et (ai l) (et (ai n) (et (ai o) (et (ai p) (et (ai r) (et (ai s) (et (ip b) (et (ai (bF B)) (et (ip d) (et (ip h) (et (ip x) (et (gB j) (et (ip g) (et (ai (bF Y)) (et (ip t) (et (ai (bF ay)) (et (ip R) (et (ip C) (et (ip A) (et (ai (bF aO)) (et (ip S) (et (ip E) (et (ai (bF bi)) (et (ip X) (et (ip M) (ai (bF fI)))))))))))))))))))))))))))))))
 exact⟨rfl,iJ⟩
 refine Sz (dF M) (Sz (dF M) (Sz (dF M) (Sz (dF M) (Sz (dF M) (Sz (dF M) (fw (.bool false) (FZ rfl (dF M) rfl) (An rfl (rt (rs ?_)))))))))
 have iK:=a.pk []
 obtain rfl:_=false:=hr.symm.trans (et (ai F) (et (ip O) (et (ai G) (et (ai I) (et (ai l) (et (ai n) (et (ai o) (et (ai p) (et (ai r) (et (ai s) (et (ip b) (et (ai (bF B)) (et (ip d) (et (ip h) (et (ip x) (et (gB j) (et (ip g) (et (ai (bF Y)) (et (ip t) (et (ai (bF ay)) (et (ip R) (et (ip C) (et (ip A) (et (ai (bF aO)) (et (ip S) (et (ip E) (et (ai (bF bi)) (et (ip X) (iN M)))))))))))))))))))))))))))))
 exact⟨rfl,iK⟩
 refine Sz (dF X) (Sz (dF X) (Sz (dF X) (Sz (dF X) (fw (.bool false) (FZ rfl (dF X) rfl) (Mz rfl (Sz rfl (Sz rfl (Sz rfl (Sz rfl (Sz rfl (Sz rfl (fw (.bool false) (FZ rfl rfl rfl) (An rfl (rt (rs ?_)))))))))))))))
 have iL:=a.pk []
 obtain rfl:_=false:=hr.symm.trans (et (ai F) (et (ip O) (et (ai G) (et (ai I) (et (ai l) (et (ai n) (et (ai o) (et (ai p) (et (ai r) (et (ai s) (et (ip b) (et (ai (bF B)) (et (ip d) (et (ip h) (et (ip x) (et (gB j) (et (ip g) (et (ai (bF Y)) (et (ip t) (et (ai (bF ay)) (et (ip R) (et (ip C) (et (ip A) (et (ai (bF aO)) (et (ip S) (et (ip E) (et (ai (bF bi)) (iN X))))))))))))))))))))))))))))
 exact⟨rfl,iL⟩
 refine Sz (dF E) (Sz (dF E) (Sz (dF E) (Sz (dF E) (Sz (dF E) (Sz (dF E) (fw (.bool false) (FZ rfl (dF E) rfl) (Mz rfl (Sz rfl (Sz rfl (Sz rfl (Sz rfl (fw (.bool false) (FZ rfl rfl rfl) (Mz rfl (Sz rfl (Sz rfl (Sz rfl (Sz rfl (Sz rfl (Sz rfl (fw (.bool false) (FZ rfl rfl rfl) (An rfl (rt (rs ?_)))))))))))))))))))))))
 have iM:=a.pk []
 obtain rfl:_=false:=hr.symm.trans (et (ai F) (et (ip O) (et (ai G) (et (ai I) (et (ai l) (et (ai n) (et (ai o) (et (ai p) (et (ai r) (et (ai s) (et (ip b) (et (ai (bF B)) (et (ip d) (et (ip h) (et (ip x) (et (gB j) (et (ip g) (et (ai (bF Y)) (et (ip t) (et (ai (bF ay)) (et (ip R) (et (ip C) (et (ip A) (et (ai (bF aO)) (et (ip S) (iN E))))))))))))))))))))))))))
 exact⟨rfl,iM⟩
 refine Sz (dF S) (Sz (dF S) (Sz (dF S) (Sz (dF S) (fw (.bool false) (FZ rfl (dF S) rfl) (Mz rfl (Sz rfl (Sz rfl (Sz rfl (Sz rfl (Sz rfl (Sz rfl (fw (.bool false) (FZ rfl rfl rfl) (Mz rfl (Sz rfl (Sz rfl (Sz rfl (Sz rfl (fw (.bool false) (FZ rfl rfl rfl) (Mz rfl (Sz rfl (Sz rfl (Sz rfl (Sz rfl (Sz rfl (Sz rfl (fw (.bool false) (FZ rfl rfl rfl) (An rfl (rt (rs ?_)))))))))))))))))))))))))))))
 have iO:=a.pk []
 obtain rfl:_=false:=hr.symm.trans (et (ai F) (et (ip O) (et (ai G) (et (ai I) (et (ai l) (et (ai n) (et (ai o) (et (ai p) (et (ai r) (et (ai s) (et (ip b) (et (ai (bF B)) (et (ip d) (et (ip h) (et (ip x) (et (gB j) (et (ip g) (et (ai (bF Y)) (et (ip t) (et (ai (bF ay)) (et (ip R) (et (ip C) (et (ip A) (et (ai (bF aO)) (iN S)))))))))))))))))))))))))
 exact⟨rfl,iO⟩
 refine Sz (dF A) (Sz (dF A) (Sz (dF A) (Sz (dF A) (Sz (dF A) (Sz (dF A) (fw (.bool false) (FZ rfl (dF A) rfl) (Mz rfl (Sz rfl (Sz rfl (Sz rfl (Sz rfl (fw (.bool false) (FZ rfl rfl rfl) (Mz rfl (Sz rfl (Sz rfl (Sz rfl (Sz rfl (Sz rfl (Sz rfl (fw (.bool false) (FZ rfl rfl rfl) (Mz rfl (Sz rfl (Sz rfl (Sz rfl (Sz rfl (fw (.bool false) (FZ rfl rfl rfl) (Mz rfl (Sz rfl (Sz rfl (Sz rfl (Sz rfl (Sz rfl (Sz rfl (fw (.bool false) (FZ rfl rfl rfl) (An rfl (rt (rs ?_)))))))))))))))))))))))))))))))))))))
 have iP:=a.pk []
 obtain rfl:_=false:=hr.symm.trans (et (ai F) (et (ip O) (et (ai G) (et (ai I) (et (ai l) (et (ai n) (et (ai o) (et (ai p) (et (ai r) (et (ai s) (et (ip b) (et (ai (bF B)) (et (ip d) (et (ip h) (et (ip x) (et (gB j) (et (ip g) (et (ai (bF Y)) (et (ip t) (et (ai (bF ay)) (et (ip R) (et (ip C) (iN A)))))))))))))))))))))))
 exact⟨rfl,iP⟩
 refine Sz C (Sz C (Sz C (Sz C (fw (.bool false) (FZ rfl C rfl) (Mz rfl (Sz rfl (Sz rfl (Sz rfl (Sz rfl (Sz rfl (Sz rfl (fw (.bool false) (FZ rfl rfl rfl) (Mz rfl (Sz rfl (Sz rfl (Sz rfl (Sz rfl (fw (.bool false) (FZ rfl rfl rfl) (Mz rfl (Sz rfl (Sz rfl (Sz rfl (Sz rfl (Sz rfl (Sz rfl (fw (.bool false) (FZ rfl rfl rfl) (Mz rfl (Sz rfl (Sz rfl (Sz rfl (Sz rfl (fw (.bool false) (FZ rfl rfl rfl) (Mz rfl (Sz rfl (Sz rfl (Sz rfl (Sz rfl (Sz rfl (Sz rfl ?_)))))))))))))))))))))))))))))))))))))))
 refine fw (.bool false) (FZ rfl rfl rfl) (An rfl (rt (rs ?_)))
 have iQ:=a.pk []
 obtain rfl:_=false:=hr.symm.trans (et (ai F) (et (ip O) (et (ai G) (et (ai I) (et (ai l) (et (ai n) (et (ai o) (et (ai p) (et (ai r) (et (ai s) (et (ip b) (et (ai (bF B)) (et (ip d) (et (ip h) (et (ip x) (et (gB j) (et (ip g) (et (ai (bF Y)) (et (ip t) (et (ai (bF ay)) (et (ip R) (gB C))))))))))))))))))))))
 exact⟨rfl,iQ⟩
 refine Sz R (Sz R (fw (.bool false) (FZ rfl R rfl) (Mz rfl (Sz rfl (Sz rfl (Sz rfl (Sz rfl (fw (.bool false) (FZ rfl rfl rfl) (Mz rfl (Sz rfl (Sz rfl (Sz rfl (Sz rfl (Sz rfl (Sz rfl (fw (.bool false) (FZ rfl rfl rfl) (Mz rfl (Sz rfl (Sz rfl (Sz rfl (Sz rfl (fw (.bool false) (FZ rfl rfl rfl) (Mz rfl (Sz rfl (Sz rfl (Sz rfl (Sz rfl (Sz rfl (Sz rfl (fw (.bool false) (FZ rfl rfl rfl) (Mz rfl (Sz rfl (Sz rfl (Sz rfl (Sz rfl (fw (.bool false) (FZ rfl rfl rfl) (Mz rfl (Sz rfl (Sz rfl ?_)))))))))))))))))))))))))))))))))))))))
 refine Sz rfl (Sz rfl (Sz rfl (Sz rfl (fw (.bool false) (FZ rfl rfl rfl) (An rfl (rt (rs ?_)))))))
 have iR:=a.pk []
 obtain rfl:_=false:=hr.symm.trans (et (ai F) (et (ip O) (et (ai G) (et (ai I) (et (ai l) (et (ai n) (et (ai o) (et (ai p) (et (ai r) (et (ai s) (et (ip b) (et (ai (bF B)) (et (ip d) (et (ip h) (et (ip x) (et (gB j) (et (ip g) (et (ai (bF Y)) (et (ip t) (et (ai (bF ay)) (gB R)))))))))))))))))))))
 exact⟨rfl,iR⟩
 refine Sz (dF t) (Sz (dF t) (Sz (dF t) (Sz (dF t) (Sz (dF t) (fw (.bool false) (FZ rfl (dF t) rfl) (Mz rfl (Sz rfl (Sz rfl (fw (.bool false) (FZ rfl rfl rfl) (Mz rfl (Sz rfl (Sz rfl (Sz rfl (Sz rfl (fw (.bool false) (FZ rfl rfl rfl) (Mz rfl (Sz rfl (Sz rfl (Sz rfl (Sz rfl (Sz rfl (Sz rfl (fw (.bool false) (FZ rfl rfl rfl) (Mz rfl (Sz rfl (Sz rfl (Sz rfl (Sz rfl (fw (.bool false) (FZ rfl rfl rfl) (Mz rfl (Sz rfl (Sz rfl (Sz rfl (Sz rfl (Sz rfl (Sz rfl (fw (.bool false) (FZ rfl rfl rfl) (Mz rfl (Sz rfl ?_)))))))))))))))))))))))))))))))))))))))
 refine Sz rfl (Sz rfl (Sz rfl (fw (.bool false) (FZ rfl rfl rfl) (Mz rfl (Sz rfl (Sz rfl (Sz rfl (Sz rfl (Sz rfl (Sz rfl (fw (.bool false) (FZ rfl rfl rfl) (An rfl (rt (rs ?_))))))))))))))
 have iT:=a.pk []
 obtain rfl:_=false:=hr.symm.trans (et (ai F) (et (ip O) (et (ai G) (et (ai I) (et (ai l) (et (ai n) (et (ai o) (et (ai p) (et (ai r) (et (ai s) (et (ip b) (et (ai (bF B)) (et (ip d) (et (ip h) (et (ip x) (et (gB j) (et (ip g) (et (ai (bF Y)) (iN t)))))))))))))))))))
 exact⟨rfl,iT⟩
 refine Sz (dF g) (Sz (dF g) (Sz (dF g) (Sz (dF g) (Sz (dF g) (Sz (dF g) (fw (.bool false) (FZ rfl (dF g) rfl) (Mz rfl (Sz rfl (Sz rfl (Sz rfl (Sz rfl (Sz rfl (fw (.bool false) (FZ rfl rfl rfl) (Mz rfl (Sz rfl (Sz rfl (fw (.bool false) (FZ rfl rfl rfl) (Mz rfl (Sz rfl (Sz rfl (Sz rfl (Sz rfl (fw (.bool false) (FZ rfl rfl rfl) (Mz rfl (Sz rfl (Sz rfl (Sz rfl (Sz rfl (Sz rfl (Sz rfl (fw (.bool false) (FZ rfl rfl rfl) (Mz rfl (Sz rfl (Sz rfl (Sz rfl (Sz rfl (fw (.bool false) (FZ rfl rfl rfl) (Mz rfl (Sz rfl ?_)))))))))))))))))))))))))))))))))))))))
 refine Sz rfl (Sz rfl (Sz rfl (Sz rfl (Sz rfl (fw (.bool false) (FZ rfl rfl rfl) (Mz rfl (Sz rfl (Sz rfl (Sz rfl (Sz rfl (fw (.bool false) (FZ rfl rfl rfl) (Mz rfl (Sz rfl (Sz rfl (Sz rfl (Sz rfl (Sz rfl (Sz rfl (fw (.bool false) (FZ rfl rfl rfl) (An rfl (rt (rs ?_))))))))))))))))))))))
 have iU:=a.pk []
 obtain rfl:_=false:=hr.symm.trans (et (ai F) (et (ip O) (et (ai G) (et (ai I) (et (ai l) (et (ai n) (et (ai o) (et (ai p) (et (ai r) (et (ai s) (et (ip b) (et (ai (bF B)) (et (ip d) (et (ip h) (et (ip x) (et (gB j) (iN g)))))))))))))))))
 exact⟨rfl,iU⟩
 refine Sz (dF x) (Sz (dF x) (Sz (dF x) (fw (.bool false) (FZ rfl (dF x) rfl) (Mz rfl (Sz rfl (Sz rfl (Sz rfl (Sz rfl (fw (.bool false) (FZ rfl rfl rfl) (Mz rfl (Sz rfl (Sz rfl (Sz rfl (Sz rfl (Sz rfl (Sz rfl (fw (.bool false) (FZ rfl rfl rfl) (Mz rfl (Sz rfl (Sz rfl (Sz rfl (Sz rfl (Sz rfl (fw (.bool false) (FZ rfl rfl rfl) (Mz rfl (Sz rfl (Sz rfl (fw (.bool false) (FZ rfl rfl rfl) (Mz rfl (Sz rfl (Sz rfl (Sz rfl (Sz rfl (fw (.bool false) (FZ rfl rfl rfl) (Mz rfl (Sz rfl (Sz rfl (Sz rfl (Sz rfl ?_)))))))))))))))))))))))))))))))))))))))
 refine Sz rfl (Sz rfl (fw (.bool false) (FZ rfl rfl rfl) (Mz rfl (Sz rfl (Sz rfl (Sz rfl (Sz rfl (fw (.bool false) (FZ rfl rfl rfl) (Mz rfl (Sz rfl (Sz rfl (Sz rfl (Sz rfl (Sz rfl (Sz rfl (fw (.bool false) (FZ rfl rfl rfl) (Mz rfl (Sz rfl (Sz rfl (Sz rfl (Sz rfl (fw (.bool false) (FZ rfl rfl rfl) (Mz rfl (Sz rfl (Sz rfl (Sz rfl (Sz rfl (Sz rfl (Sz rfl (fw (.bool false) (FZ rfl rfl rfl) (An rfl (rt (rs ?_)))))))))))))))))))))))))))))))))
 have iV:=a.pk []
 obtain rfl:_=false:=hr.symm.trans (et (ai F) (et (ip O) (et (ai G) (et (ai I) (et (ai l) (et (ai n) (et (ai o) (et (ai p) (et (ai r) (et (ai s) (et (ip b) (et (ai (bF B)) (et (ip d) (et (ip h) (iN x)))))))))))))))
 exact⟨rfl,iV⟩
 refine Sz (dF h) (Sz (dF h) (Sz (dF h) (Sz (dF h) (fw (.bool false) (FZ rfl (dF h) rfl) (Mz rfl (Sz rfl (Sz rfl (Sz rfl (fw (.bool false) (FZ rfl rfl rfl) (Mz rfl (Sz rfl (Sz rfl (Sz rfl (Sz rfl (fw (.bool false) (FZ rfl rfl rfl) (Mz rfl (Sz rfl (Sz rfl (Sz rfl (Sz rfl (Sz rfl (Sz rfl (fw (.bool false) (FZ rfl rfl rfl) (Mz rfl (Sz rfl (Sz rfl (Sz rfl (Sz rfl (Sz rfl (fw (.bool false) (FZ rfl rfl rfl) (Mz rfl (Sz rfl (Sz rfl (fw (.bool false) (FZ rfl rfl rfl) (Mz rfl (Sz rfl (Sz rfl (Sz rfl (Sz rfl ?_)))))))))))))))))))))))))))))))))))))))
 refine fw (.bool false) (FZ rfl rfl rfl) (Mz rfl (Sz rfl (Sz rfl (Sz rfl (Sz rfl (Sz rfl (Sz rfl (fw (.bool false) (FZ rfl rfl rfl) (Mz rfl (Sz rfl (Sz rfl (Sz rfl (Sz rfl (fw (.bool false) (FZ rfl rfl rfl) (Mz rfl (Sz rfl (Sz rfl (Sz rfl (Sz rfl (Sz rfl (Sz rfl (fw (.bool false) (FZ rfl rfl rfl) (Mz rfl (Sz rfl (Sz rfl (Sz rfl (Sz rfl (fw (.bool false) (FZ rfl rfl rfl) (Mz rfl (Sz rfl (Sz rfl (Sz rfl (Sz rfl (Sz rfl (Sz rfl (fw (.bool false) (FZ rfl rfl rfl) (An rfl ?_)))))))))))))))))))))))))))))))))))))
 refine rt (rs ?_)
 have iW:=a.pk []
 obtain rfl:_=false:=hr.symm.trans (et (ai F) (et (ip O) (et (ai G) (et (ai I) (et (ai l) (et (ai n) (et (ai o) (et (ai p) (et (ai r) (et (ai s) (et (ip b) (et (ai (bF B)) (et (ip d) (iN h))))))))))))))
 exact⟨rfl,iW⟩
 refine Sz (dF d) (Sz (dF d) (Sz (dF d) (Sz (dF d) (Sz (dF d) (Sz (dF d) (fw (.bool false) (FZ rfl (dF d) rfl) (Mz rfl (Sz rfl (Sz rfl (Sz rfl (Sz rfl (fw (.bool false) (FZ rfl rfl rfl) (Mz rfl (Sz rfl (Sz rfl (Sz rfl (fw (.bool false) (FZ rfl rfl rfl) (Mz rfl (Sz rfl (Sz rfl (Sz rfl (Sz rfl (fw (.bool false) (FZ rfl rfl rfl) (Mz rfl (Sz rfl (Sz rfl (Sz rfl (Sz rfl (Sz rfl (Sz rfl (fw (.bool false) (FZ rfl rfl rfl) (Mz rfl (Sz rfl (Sz rfl (Sz rfl (Sz rfl (Sz rfl (fw (.bool false) (FZ rfl rfl rfl) (Mz rfl ?_)))))))))))))))))))))))))))))))))))))))
 refine Sz rfl (Sz rfl (fw (.bool false) (FZ rfl rfl rfl) (Mz rfl (Sz rfl (Sz rfl (Sz rfl (Sz rfl (fw (.bool false) (FZ rfl rfl rfl) (Mz rfl (Sz rfl (Sz rfl (Sz rfl (Sz rfl (Sz rfl (Sz rfl (fw (.bool false) (FZ rfl rfl rfl) (Mz rfl (Sz rfl (Sz rfl (Sz rfl (Sz rfl (fw (.bool false) (FZ rfl rfl rfl) (Mz rfl (Sz rfl (Sz rfl (Sz rfl (Sz rfl (Sz rfl (Sz rfl (fw (.bool false) (FZ rfl rfl rfl) (Mz rfl (Sz rfl (Sz rfl (Sz rfl (Sz rfl (fw (.bool false) (FZ rfl rfl rfl) (Mz rfl (Sz rfl (Sz rfl ?_)))))))))))))))))))))))))))))))))))))))
 refine Sz rfl (Sz rfl (Sz rfl (Sz rfl (fw (.bool false) (FZ rfl rfl rfl) (An rfl (rt (rs ?_)))))))
 have iX:=a.pk []
 obtain rfl:_=false:=hr.symm.trans (et (ai F) (et (ip O) (et (ai G) (et (ai I) (et (ai l) (et (ai n) (et (ai o) (et (ai p) (et (ai r) (et (ai s) (et (ip b) (et (ai (bF B)) (iN d)))))))))))))
 exact⟨rfl,iX⟩
 refine Sz (dF b) (Sz (dF b) (Sz (dF b) (Sz (dF b) (Sz (dF b) (Sz (dF b) (fw (.bool false) (FZ rfl (dF b) rfl) (Mz rfl (Sz rfl (Sz rfl (Sz rfl (Sz rfl (Sz rfl (Sz rfl (fw (.bool false) (FZ rfl rfl rfl) (Mz rfl (Sz rfl (Sz rfl (Sz rfl (Sz rfl (fw (.bool false) (FZ rfl rfl rfl) (Mz rfl (Sz rfl (Sz rfl (Sz rfl (fw (.bool false) (FZ rfl rfl rfl) (Mz rfl (Sz rfl (Sz rfl (Sz rfl (Sz rfl (fw (.bool false) (FZ rfl rfl rfl) (Mz rfl (Sz rfl (Sz rfl (Sz rfl (Sz rfl (Sz rfl (Sz rfl (fw (.bool false) (FZ rfl rfl rfl) ?_)))))))))))))))))))))))))))))))))))))))
 refine Mz rfl (Sz rfl (Sz rfl (Sz rfl (Sz rfl (Sz rfl (fw (.bool false) (FZ rfl rfl rfl) (Mz rfl (Sz rfl (Sz rfl (fw (.bool false) (FZ rfl rfl rfl) (Mz rfl (Sz rfl (Sz rfl (Sz rfl (Sz rfl (fw (.bool false) (FZ rfl rfl rfl) (Mz rfl (Sz rfl (Sz rfl (Sz rfl (Sz rfl (Sz rfl (Sz rfl (fw (.bool false) (FZ rfl rfl rfl) (Mz rfl (Sz rfl (Sz rfl (Sz rfl (Sz rfl (fw (.bool false) (FZ rfl rfl rfl) (Mz rfl (Sz rfl (Sz rfl (Sz rfl (Sz rfl (Sz rfl (Sz rfl (fw (.bool false) (FZ rfl rfl rfl) (Mz rfl ?_)))))))))))))))))))))))))))))))))))))))
 refine Sz rfl (Sz rfl (Sz rfl (Sz rfl (fw (.bool false) (FZ rfl rfl rfl) (Mz rfl (Sz rfl (Sz rfl (Sz rfl (Sz rfl (Sz rfl (Sz rfl (fw (.bool false) (FZ rfl rfl rfl) (An rfl (rt (rs ?_)))))))))))))))
 have iY:=a.pk []
 obtain rfl:_=false:=hr.symm.trans (et (ai F) (et (ip O) (et (ai G) (et (ai I) (et (ai l) (et (ai n) (et (ai o) (et (ai p) (et (ai r) (et (ai s) (iN b)))))))))))
 exact⟨rfl,iY⟩
 refine Sz (dT O) (Sz (dT O) (Sz (dT O) (fw (.bool true) (Gd rfl (dT O) rfl) (nt (jt (sr (Az rfl (An rfl (rt (tR (Fin.res (lY rfl rfl rfl) (Mz rfl (Kz (.pointer none) (Kz (vI 1) (Az rfl (An rfl (FW (FW ?_))))))))))))))))))
 have iZ:=cO.pk []
 refine FV (Mz rfl (Kz (.bool true) (Mz rfl (Sz rfl (Sz rfl (fw (.bool true) (Gd rfl rfl rfl) (nt (jt (sr (An rfl (rt (tR (rs ?_)))))))))))))
 have ja:=iZ.pk []
 obtain rfl:_=false:=hr.symm.trans (et (ai F) (iN O))
 exact⟨rfl,ja⟩
end Go.Proofs.YtbkagebjhbphaaaGreat
