/-
 record: the coordinator's state as bytes.
-/
import Derived.Test.YtbkagebjhbphaaaGreatRb
namespace Go.Proofs.YtbkagebjhbphaaaGreat
open Int renaming toNat→D2
open IntKind renaming i64→C7,u64→D3
open List renaming drop→r6,flatMap→q6,length→s2,length_map→s6,map→s8,mem_of_getElem?→E0
open Ll renaming mk→E4
open _root_.Go.Proofs.Tryz renaming call77→N6,call79→N8,func77→N7,isAgg28→E1,sizeOf56→O1,sizeOf60→O0,sizeOf89→N9
open WL renaming nil→D0
open Wp renaming exit→D1
set_option maxRecDepth 100000
open Go.RowKit
set_option linter.unusedVariables false
set_option linter.unusedSectionVars false
set_option linter.unusedSimpArgs false
def jH (e:di):List aW→List UInt8→(List UInt8)
  | [],a=>a
  | c::d,a=>bnd (oK (dJ.mk (E4 a)) c) fun b=>jH e d b.xb.ls
def jI (e:di):List bJ→List UInt8→(List UInt8)
  | [],b=>b
  | a::d,b=>bnd (nu (dJ.mk (E4 b)) (bJ.mk a.aU a.aN a.ay a.aO (E4 a.av.ls))) fun c=>jI e d c.xb.ls
def jJ:List fE→List UInt8→(List UInt8)
  | [],b=>b
  | a::d,b=>bnd (oW (dJ.mk (E4 b)) (fE.mk a.aN a.ay a.aO (E4 a.ah.ls))) fun c=>jJ d c.xb.ls
def eD (a:di):(List UInt8) × Int:=
 bnd (jc a) fun b=>if b=0 then bnd (bV (dJ.mk (E4 ([67]))) (D2 (D3.wrap a.av))) fun g=>bnd (bV g a.ay) fun h=>bnd (bV h a.aX) fun i=>bnd (bV i a.aL) fun c=>bnd (bV c a.ag.ls.length) fun d=>bnd (jH a a.ag.ls d.xb.ls) fun sLrbtbbbbbL=>bnd (bV (dJ.mk (E4 sLrbtbbbbbL)) a.ak.ls.length) fun e=>bnd (jI a a.ak.ls e.xb.ls) fun sLrbtbbbbbLabL=>bnd (bV (dJ.mk (E4 sLrbtbbbbbLabL)) a.aJ.ls.length) fun f=>bnd (jJ a.aJ.ls f.xb.ls) fun sLrbtbbbbbLabLabL=>(sLrbtbbbbbLabLabL,0) else(([]:List UInt8),b)
set_option maxHeartbeats 4000000 in
theorem kg (w D) (a:di) (n bU s o bW t aa p bY u af r0 r1) (H:Own w D w []) (dE:bU=a.ag.ls.length) (U:Ro w D fun w'=>bA w' 2 n a.ag.ls.length (q6 aW.cells a.ag.ls)) (iL:a.ag.ls.length≤s∧a.ag.ls.length≤9223372036854775807) (aB:s8 aA.abs aa=a.ak.ls) (dG:bW=a.ak.ls.length) (V:Ro w D fun w'=>bA w' 5 o a.ak.ls.length (q6 aA.cells aa)) (iM:a.ak.ls.length≤t∧a.ak.ls.length≤9223372036854775807) (W:∀ x ∈ aa,Ro w D (fun w'=>bA w' 1 x.av.A x.av.ls.length (q6 (eI .i64) x.av.ls))∧(x.av.ls.length≤x.av.c∧x.av.ls.length≤9223372036854775807)) (aC:s8 aT.abs af=a.aJ.ls) (dH:bY=a.aJ.ls.length) (X:Ro w D fun w'=>bA w' 4 p a.aJ.ls.length (q6 aT.cells af)) (iO:a.aJ.ls.length≤u∧a.aJ.ls.length≤9223372036854775807) (C:∀ x ∈ af,Ro w D (fun w'=>bA w' 3 x.ah.A x.ah.ls.length (q6 ae.cells x.ah.ls))∧(x.ah.ls.length≤x.ah.c∧x.ah.ls.length≤9223372036854775807)∧(∀ y1 ∈ x.ah.ls,Ro w D (fun w'=>bA w' 2 y1.aj.A y1.aj.ls.length (q6 aI.cells y1.aj.ls))∧(y1.aj.ls.length≤y1.aj.c∧y1.aj.ls.length≤9223372036854775807))) (lm:a.ag.ls.length≤140737488355328∧a.ak.ls.length≤140737488355328∧a.aJ.ls.length≤140737488355328) (iP:EC a) (hr:eD a=(r0,r1)):
    Calls Tryz.prog 54 #[.agg #[vI a.av,vU a.ay,vU a.aX,vU a.aL, .slice n bU s, .slice o bW t, .slice p bY u]] w (dR fun v w'=> ∃ B0 b0,v= .tuple #[.slice B0 r0.length b0,vI r1]∧Own w D w' [row B0 r0.length b0 (q6 eB r0) 5 1]∧(r0.length≤100000)):=by
 subst dE dG dH
 have iJ:=az aB
 have iK:=az aC
 refine cb Tryz.func54 ?_
 refine sr ?_
 refine dM [vI a.av,vU a.ay,vU a.aX,vU a.aL, .slice n a.ag.ls.length s, .slice o a.ak.ls.length t, .slice p a.aJ.ls.length u] 33 H ?_
 intro I lq fI
 refine Az rfl (An rfl (FW (sr (La ([vI a.av,vU a.ay,vU a.aX,vU a.aL, .slice n a.ag.ls.length s, .slice o a.ak.ls.length t, .slice p a.aJ.ls.length u]) fI 0 Tryz.isAgg33 Tryz.sizeOf33 ?_))))
 obtain⟨aL,aJ⟩:∃ q,jc a=q:=⟨_,rfl⟩
 obtain⟨lu,fJ,L,fK,jS⟩:=F3 fI
 refine cl Tryz.call19 (nY _ _ a n a.ag.ls.length s o a.ak.ls.length t aa p a.aJ.ls.length u af aL fJ rfl (L _ U) (show a.ag.ls.length≤s∧a.ag.ls.length≤9223372036854775807 from by omega) aB rfl (L _ V) (show a.ak.ls.length≤t∧a.ak.ls.length≤9223372036854775807 from by omega) (fun x9 h9=>⟨L _ (W x9 h9).1,(W x9 h9).2⟩) aC rfl (L _ X) (show a.aJ.ls.length≤u∧a.aJ.ls.length≤9223372036854775807 from by omega) (fun x9 h9=>⟨L _ (C x9 h9).1,(C x9 h9).2.1,(fun y1 k1=>⟨L _ ((C x9 h9).2.2 y1 k1).1,((C x9 h9).2.2 y1 k1).2⟩)⟩) e8 aJ) ?_
 rintro _ iQ ⟨rfl,fM⟩
 have fO:=fK _ _ fM
 refine Ar rfl (Mz rfl (fw (.bool (decide (¬ (aL=0)))) (Gm (e:= !(decide (aL=0))) yk decide_not.symm) (nt ?_)))
 by_cases bQ:aL=0
 refine jF (dF (JR bQ)) (sk (sr ?_))
 have B:=EK (by rw [aJ]; omega) iP
 have jV:a.ag.ls.length≤6:=B.1
 have jW:a.ak.ls.length≤8:=B.2.2.1
 have jX:a.aJ.ls.length≤4:=B.2.2.2.2.1
 have jY:a.ay≤18446744073709551615:=B.2.2.2.2.2.2.1
 have jZ:a.aX≤18446744073709551615:=B.2.2.2.2.2.2.2.1
 have j3:a.aL≤18446744073709551615:=B.2.2.2.2.2.2.2.2
 refine kL [.int .u8 67] 5 1 1 fO ?_
 intro bR lv dI
 replace dI:=Gs (y:=row bR 1 1 (q6 eB ([67])) 5 1) rfl dI
 refine Kz (.agg #[.slice bR 1 1]) ?_
 refine dM [.slice bR 1 1] 159 dI ?_
 intro f lw fP
 refine Ar rfl (Mz rfl (Kz (vP I 0) (Lz (vI a.av) fP 2 Tryz.isAgg3 ?_)))
 refine WL.do rfl (Gg N6 rfl ?_ (fun _ _ k=>k))
 refine cb N7 ?_
 refine FV (Mz rfl (Mz rfl ?_))
 have j4:D2 (D3.wrap a.av)≤18446744073709551615:=mh _
 refine fw (vU (D2 (D3.wrap a.av))) (FX (e:=D3.wrap a.av) yk (fC _)) ?_
 obtain⟨aM,bZ⟩:∃ q,bV (dJ.mk (E4 ([67]))) (D2 (D3.wrap a.av))=q:=⟨_,rfl⟩
 obtain⟨lC,fQ,j5,fT,j6⟩:=Gp fP
 refine cl N8 (dQ _ _ f (dJ.mk (E4 ([67]))) bR 1 (D2 (D3.wrap a.av)) aM fQ f6 bZ) ?_
 rintro _ lD ⟨iR,iT,rfl,fU,cu⟩
 have aN:=fT _ _ fU
 have ko:=aN.rowC (i:=1) rfl
 replace cu:aM.xb.ls.length≤1+10:=cu
 refine D0 (Gh (res0 rfl) (ns (Mz rfl (Kz (.func (.func 79) #[vP f 0] #[]) (Kz (vP I 1) (Lz (vU a.ay) aN 2 E1 (Kz (vP I 2) (Lz (vU a.aX) aN 2 E1 (Kz (vP I 3) (Lz (vU a.aL) aN 2 E1 ?_))))))))))
 refine kL [vU a.ay,vU a.aX,vU a.aL] 28 1 3 aN ?_
 intro E lF aP
 replace aP:=Gs (y:=row E 3 3 (q6 (eN .u64) ([a.ay,a.aX,a.aL])) 28 1) rfl aP
 refine WL.do rfl (Gg Tryz.call78 rfl ?_ (fun _ _ k=>k))
 refine cb Tryz.func78 ?_
 refine sr (Mz rfl (Kz (vI 3) (Mn rfl (bo (Hu 200 (sr (Kz (.bool true) (nt (FW (jt (sk (FW (bo (sr ?_))))))))))))))
 have fV:([a.ay,a.aX,a.aL]:List Nat)[0]? =some a.ay:=rfl
 refine fw (.pointer (some ⟨ab E,ao E+0 *1,none⟩)) (F4 (uE) rfl rfl ((aP.rds (i:=0) rfl).addr (i:=0) e6) e6) (fw (vU a.ay) (F7 rfl (bX.one E1 (((aP.rds (i:=0) rfl).elem pG fV f3).at_ (k:=0) rfl))) (An rfl (FV (Mz rfl (Mz rfl ?_)))))
 have iU:=aP.pb [0,3]
 obtain⟨aQ,cz⟩:∃ q,bV aM a.ay=q:=⟨_,rfl⟩
 obtain⟨lG,fZ,kr,gp,ku⟩:=Gp iU
 refine WL.do rfl (Gr N8 rfl rfl (dQ _ _ f aM iR iT a.ay aQ fZ f6 cz) ?_)
 rintro _ lH ⟨iV,iW,rfl,gq,cB⟩
 have bS:=gp _ _ gq
 have kv:=bS.rowC (i:=1) rfl
 replace cB:aQ.xb.ls.length≤aM.xb.ls.length+10:=cB
 refine D0 (bN (FY (FV (Kz (vI 1) (Mz rfl (D0 (GN [(8,vI 1),(7,vI 3),(6, .slice E 3 3),(0, .func (.func 79) #[vP f 0] #[])] ⟨rfl,rfl,rfl,rfl,trivial⟩ (sr (Kz (.bool true) (nt (FW (jt (sk (FW (bo (sr ?_))))))))))))))))
 have gu:([a.ay,a.aX,a.aL]:List Nat)[1]? =some a.aX:=rfl
 refine fw (.pointer (some ⟨ab E,ao E+1 *1,none⟩)) (F4 (uE) rfl rfl ((bS.rds (i:=2) rfl).addr (i:=1) e6) e6) (fw (vU a.aX) (F7 rfl (bX.one E1 (((bS.rds (i:=2) rfl).elem pG gu f3).at_ (k:=0) rfl))) (An rfl (FV (Mz rfl (Mz rfl ?_)))))
 obtain⟨aR,cK⟩:∃ q,bV aQ a.aX=q:=⟨_,rfl⟩
 obtain⟨lI,gy,kw,gz,ky⟩:=Gp bS
 refine WL.do rfl (Gr N8 rfl rfl (dQ _ _ f aQ iV iW a.aX aR gy f6 cK) ?_)
 rintro _ lJ ⟨iX,iY,rfl,gB,cO⟩
 have bT:=gz _ _ gB
 have kz:=bT.rowC (i:=1) rfl
 replace cO:aR.xb.ls.length≤aQ.xb.ls.length+10:=cO
 refine D0 (bN (FY (FV (Kz (vI 2) (Mz rfl (D0 (GN [(8,vI 2),(7,vI 3),(6, .slice E 3 3),(0, .func (.func 79) #[vP f 0] #[])] ⟨rfl,rfl,rfl,rfl,trivial⟩ (sr (Kz (.bool true) (nt (FW (jt (sk (FW (bo (sr ?_))))))))))))))))
 have gD:([a.ay,a.aX,a.aL]:List Nat)[2]? =some a.aL:=rfl
 refine fw (.pointer (some ⟨ab E,ao E+2 *1,none⟩)) (F4 (uE) rfl rfl ((bT.rds (i:=2) rfl).addr (i:=2) e6) e6) (fw (vU a.aL) (F7 rfl (bX.one E1 (((bT.rds (i:=2) rfl).elem pG gD f3).at_ (k:=0) rfl))) (An rfl (FV (Mz rfl (Mz rfl ?_)))))
 obtain⟨ag,aS⟩:∃ q,bV aR a.aL=q:=⟨_,rfl⟩
 obtain⟨lK,gF,iZ,dL,ja⟩:=Gp bT
 refine WL.do rfl (Gr N8 rfl rfl (dQ _ _ f aR iX iY a.aL ag gF f6 aS) ?_)
 rintro _ kC ⟨gG,gH,rfl,dO,aV⟩
 have aX:=dL _ _ dO
 have jb:=aX.rowC (i:=1) rfl
 replace aV:ag.xb.ls.length≤aR.xb.ls.length+10:=aV
 refine D0 (bN (FY (FV (Kz (vI 3) (Mz rfl (D0 (GN [(8,vI 3),(7,vI 3),(6, .slice E 3 3),(0, .func (.func 79) #[vP f 0] #[])] ⟨rfl,rfl,rfl,rfl,trivial⟩ (sr (Kz (.bool false) (nt (FW (jf (D1 (F6 (F6 (Gi (Gh (res0 rfl) (ns (Mz rfl (Kz (vP I 4) (Lz (.slice n a.ag.ls.length s) aX 3 Tryz.isAgg29 (Mz rfl (Kz (.func (.func 81) #[vP f 0] #[]) ?_)))))))))))))))))))))))
 refine WL.do rfl (Gg Tryz.call80 rfl ?_ (fun _ _ k=>k))
 refine cb Tryz.func80 ?_
 refine sr (Mz rfl (Mz rfl (Kz (vJ a.ag.ls.length) ?_)))
 refine WL.do rfl (Gg N6 rfl ?_ (fun _ _ k=>k))
 refine cb N7 ?_
 refine FV (Mz rfl (Mz rfl (fw (vU a.ag.ls.length) (FX (e:=D3.wrap ((a.ag.ls.length:Nat):Int)) yk (IntWalk.u64_in _ e6)) ?_)))
 obtain⟨M,aY⟩:∃ q,bV ag a.ag.ls.length=q:=⟨_,rfl⟩
 obtain⟨kD,dP,jd,dS,je⟩:=Gp aX
 refine cl N8 (dQ _ _ f ag gG gH a.ag.ls.length M dP f6 aY) ?_
 rintro _ kE ⟨gI,gJ,rfl,dU,aZ⟩
 have cZ:=dS _ _ dU
 have jg:=cZ.rowC (i:=1) rfl
 replace aZ:M.xb.ls.length≤ag.xb.ls.length+10:=aZ
 refine D0 (Gh (res0 rfl) (nt (FV (Mz rfl (Mz rfl ?_)))))
 refine WL.do rfl (Gg Tryz.call118 rfl ?_ (fun _ _ k=>k))
 refine cb Tryz.func118 ?_
 refine sr (Mz rfl (Kz (vJ a.ag.ls.length) (Mn rfl (bo ?_))))
 have gK:=cZ.pb [1]
 obtain⟨gL,aD⟩:=rZ fun (g:Nat) aj (ak:Nat) l w'=>Own w D w' [blk f [.slice aj l.length ak] 159,row E 3 3 (q6 (eN .u64) ([a.ay,a.aX,a.aL])) 28 1,blk I [vI a.av,vU a.ay,vU a.aX,vU a.aL, .slice n a.ag.ls.length s, .slice o a.ak.ls.length t, .slice p a.aJ.ls.length u] 33,row aj l.length ak (q6 eB l) 5 1]∧g≤a.ag.ls.length∧((l.length:Nat):Int)≤((M.xb.ls.length:Nat):Int)+40 *((g:Nat):Int)∧jH a a.ag.ls M.xb.ls=jH a (r6 g a.ag.ls) l
 refine Wp.loop (fun i:Nat × (Option Addr) × Nat × (List UInt8)=> [(8,vJ i.1),(7,vJ a.ag.ls.length),(6, .slice n a.ag.ls.length s),(0, .func (.func 81) #[vP f 0] #[])]) gL (fun i=>a.ag.ls.length - i.1) (0,gI,gJ,M.xb.ls) ⟨rfl,rfl,rfl,rfl,trivial⟩ (aD.2 ⟨gK,e6,e6,rfl⟩) ?_
 rintro ⟨g,aj,ak,l⟩ kF dV
 obtain⟨N,jh,ji,bf⟩:=aD.1 dV
 refine sr (Kz (.bool (decide (((g:Nat):Int) < ((a.ag.ls.length:Nat):Int)))) (nt (FW ?_)))
 by_cases df:((g:Nat):Int) < ((a.ag.ls.length:Nat):Int)
 obtain⟨J,aF⟩:=dK (ls:=a.ag.ls) (i:=g) aW.len f3 (N.ro U) e9
 have dW:J.bG.length≤12:=B.2.1 _ (E0 aF)
 have dX:=drop_at aF
 refine jT (dT df) (sk (FW (bo (sr (fw (.pointer (some ⟨ab n,ao n+g *2,none⟩)) (F4 (qA) rfl rfl ((N.ro U).addr (i:=g) e6) e6) (fw (.agg (aW.cells J).toArray) (F7 rfl (Gf (cs:=(aW.cells J)) Tryz.isAgg89 N9 ((N.ro U).elem aW.len aF f3))) ?_))))))
 refine dM [.string ⟨List.toArray ([])⟩,vI 0] 89 N ?_
 intro kH kI gM
 refine dN (aW.cells J) 0 gM N9 ?_
 intro kJ dh
 refine nt (FV (Mz rfl (La (aW.cells J) dh 0 Tryz.isAgg89 N9 ?_)))
 have gN:=dh.pf [1,4]
 obtain⟨bg,bi⟩:∃ q,oK (dJ.mk (E4 l)) J=q:=⟨_,rfl⟩
 obtain⟨kK,dY,jk,dZ,jl⟩:=Gp gN
 refine WL.do rfl (Gr Tryz.call81 rfl rfl (tV _ _ f (dJ.mk (E4 l)) aj ak J bg dY f6 (by exact dW) bi) ?_)
 rintro _ kM ⟨gP,gQ,rfl,d9,bn⟩
 have dm:=dZ _ _ d9
 have jm:=dm.rowC (i:=1) rfl
 replace bn:bg.xb.ls.length≤l.length+40:=bn
 refine D0 (bN (FY (FV (fw (vJ (g+1)) (FX (e:=C7.wrap (((g:Nat):Int)+1)) yk f1) (Mz rfl (D0 ?_))))))
 have gT:=dm.px [] [2] [1]
 exact Gc (g+1,gP,gQ,bg.xb.ls) ⟨rfl,rfl,rfl,rfl,trivial⟩ (aD.2 ⟨gT,e6,e6,et (bf) (et (congrArg (fun q=>jH a q l) dX) (ai bi))⟩) (by show a.ag.ls.length - (g+1) < a.ag.ls.length - g; omega)
 refine jF (dF df) (D1 (F6 ?_))
 have ed:jH a a.ag.ls M.xb.ls=l:=et (bf) (et (congrArg (fun q=>jH a q l) (eZ (ls:=a.ag.ls) (i:=g) e6)) rfl)
 refine F6 (Gi (Gh (res0 rfl) (D0 (Gh (res0 rfl) (ns (Mz rfl (Kz (vP I 5) (Lz (.slice o a.ak.ls.length t) N 2 Tryz.isAgg30 (Mz rfl (Kz (.func (.func 83) #[vP f 0] #[]) ?_))))))))))
 refine WL.do rfl (Gg Tryz.call82 rfl ?_ (fun _ _ k=>k))
 refine cb Tryz.func82 ?_
 refine sr (Mz rfl (Mz rfl (Kz (vJ a.ak.ls.length) ?_)))
 refine WL.do rfl (Gg N6 rfl ?_ (fun _ _ k=>k))
 refine cb N7 ?_
 refine FV (Mz rfl (Mz rfl (fw (vU a.ak.ls.length) (FX (e:=D3.wrap ((a.ak.ls.length:Nat):Int)) yk (IntWalk.u64_in _ e6)) ?_)))
 have gU:=N.pb [1,2]
 obtain⟨O,bq⟩:∃ q,bV (dJ.mk (E4 l)) a.ak.ls.length=q:=⟨_,rfl⟩
 obtain⟨kN,ek,jo,eu,jq⟩:=Gp gU
 refine cl N8 (dQ _ _ f (dJ.mk (E4 l)) aj ak a.ak.ls.length O ek f6 bq) ?_
 rintro _ kP ⟨gV,gW,rfl,eF,bu⟩
 have dn:=eu _ _ eF
 have jr:=dn.rowC (i:=1) rfl
 replace bu:O.xb.ls.length≤l.length+10:=bu
 refine D0 (Gh (res0 rfl) (nt (FV (Mz rfl (Mz rfl ?_)))))
 refine WL.do rfl (Gg Tryz.call120 rfl ?_ (fun _ _ k=>k))
 refine cb Tryz.func120 ?_
 refine sr (Mz rfl (Kz (vJ a.ak.ls.length) (Mn rfl (bo ?_))))
 have gX:=dn.pb [1]
 obtain⟨gY,aG⟩:=rZ fun (h:Nat) au (ax:Nat) m w'=>Own w D w' [blk f [.slice au m.length ax] 159,row E 3 3 (q6 (eN .u64) ([a.ay,a.aX,a.aL])) 28 1,blk I [vI a.av,vU a.ay,vU a.aX,vU a.aL, .slice n a.ag.ls.length s, .slice o a.ak.ls.length t, .slice p a.aJ.ls.length u] 33,row au m.length ax (q6 eB m) 5 1]∧h≤a.ak.ls.length∧((m.length:Nat):Int)≤((O.xb.ls.length:Nat):Int)+100 *((h:Nat):Int)∧jI a a.ak.ls O.xb.ls=jI a (r6 h a.ak.ls) m
 refine Wp.loop (fun i:Nat × (Option Addr) × Nat × (List UInt8)=> [(8,vJ i.1),(7,vJ a.ak.ls.length),(6, .slice o a.ak.ls.length t),(0, .func (.func 83) #[vP f 0] #[])]) gY (fun i=>a.ak.ls.length - i.1) (0,gV,gW,O.xb.ls) ⟨rfl,rfl,rfl,rfl,trivial⟩ (aG.2 ⟨gX,e6,e6,rfl⟩) ?_
 rintro ⟨h,au,ax,m⟩ kQ eG
 obtain⟨P,jv,jw,bv⟩:=aG.1 eG
 refine sr (Kz (.bool (decide (((h:Nat):Int) < ((a.ak.ls.length:Nat):Int)))) (nt (FW ?_)))
 by_cases dw:((h:Nat):Int) < ((a.ak.ls.length:Nat):Int)
 obtain⟨d,Y⟩:=dK (ls:=aa) (i:=h) aA.len f3 (P.ro V) e9
 have bz:=fo aB Y
 have jy:=(W _ (E0 Y)).2
 have K:(aA.abs d).aU≤18446744073709551615∧(aA.abs d).ay≤18446744073709551615∧(aA.abs d).aO≤18446744073709551615∧s2 (aA.abs d).av.ls≤4:=B.2.2.2.1 _ (E0 bz)
 have hz201p0:d.aU≤18446744073709551615:=by have F:=K.1; first | exact F | (simp only [aA.abs,s6] at F; exact F)
 have hz201p1:d.ay≤18446744073709551615:=by have F:=K.2.1; first | exact F | (simp only [aA.abs,s6] at F; exact F)
 have hz201p2:d.aO≤18446744073709551615:=by have F:=K.2.2.1; first | exact F | (simp only [aA.abs,s6] at F; exact F)
 have hz201p3:d.av.ls.length≤4:=by have F:=K.2.2.2; first | exact F | (simp only [aA.abs,s6] at F; exact F)
 have eH:=drop_at bz
 refine jT (dT dw) (sk (FW (bo (sr (fw (.pointer (some ⟨ab o,ao o+h *5,none⟩)) (F4 (kG) rfl rfl ((P.ro V).addr (i:=h) e6) e6) (fw (.agg (aA.cells d).toArray) (F7 rfl (Gf (cs:=(aA.cells d)) Tryz.isAgg60 O0 ((P.ro V).elem aA.len Y f3))) ?_))))))
 refine dM [.int .u64 0,vI 0, .int .u64 0, .int .u64 0, .slice none 0 0] 60 P ?_
 intro kR kS gZ
 refine dN (aA.cells d) 0 gZ O0 ?_
 intro kT dx
 refine nt (FV (Mz rfl (La (aA.cells d) dx 0 Tryz.isAgg60 O0 ?_)))
 have ib:=dx.pf [1,4]
 obtain⟨bB,bC⟩:∃ q,nu (dJ.mk (E4 m)) (bJ.mk d.aU d.aN d.ay d.aO (E4 d.av.ls))=q:=⟨_,rfl⟩
 obtain⟨kU,eO,eP,eQ,jA⟩:=Gp ib
 refine WL.do rfl (Gr Tryz.call83 rfl rfl (sw _ _ f (dJ.mk (E4 m)) au ax (bJ.mk d.aU d.aN d.ay d.aO (E4 d.av.ls)) d.av.A d.av.ls.length d.av.c bB eO rfl (eP _ (W _ (E0 Y)).1) (show d.av.ls.length≤d.av.c∧d.av.ls.length≤9223372036854775807 from by omega) f6 (by exact K) bC) ?_)
 rintro _ kV ⟨ic,ig,rfl,eT,bD⟩
 have dz:=eQ _ _ eT
 have jB:=dz.rowC (i:=1) rfl
 replace bD:bB.xb.ls.length≤m.length+100:=bD
 refine D0 (bN (FY (FV (fw (vJ (h+1)) (FX (e:=C7.wrap (((h:Nat):Int)+1)) yk f1) (Mz rfl (D0 ?_))))))
 have ik:=dz.px [] [2] [1]
 exact Gc (h+1,ic,ig,bB.xb.ls) ⟨rfl,rfl,rfl,rfl,trivial⟩ (aG.2 ⟨ik,e6,e6,et (bv) (et (congrArg (fun q=>jI a q m) eH) (ai bC))⟩) (by show a.ak.ls.length - (h+1) < a.ak.ls.length - h; omega)
 refine jF (dF dw) (D1 (F6 ?_))
 have eU:jI a a.ak.ls O.xb.ls=m:=et (bv) (et (congrArg (fun q=>jI a q m) (eZ (ls:=a.ak.ls) (i:=h) e6)) rfl)
 refine F6 (Gi (Gh (res0 rfl) (D0 (Gh (res0 rfl) (ns (Mz rfl (Kz (vP I 6) (Lz (.slice p a.aJ.ls.length u) P 2 Tryz.isAgg31 (Mz rfl (Kz (.func (.func 85) #[vP f 0] #[]) ?_))))))))))
 refine WL.do rfl (Gg Tryz.call84 rfl ?_ (fun _ _ k=>k))
 refine cb Tryz.func84 ?_
 refine sr (Mz rfl (Mz rfl (Kz (vJ a.aJ.ls.length) ?_)))
 refine WL.do rfl (Gg N6 rfl ?_ (fun _ _ k=>k))
 refine cb N7 ?_
 refine FV (Mz rfl (Mz rfl (fw (vU a.aJ.ls.length) (FX (e:=D3.wrap ((a.aJ.ls.length:Nat):Int)) yk (IntWalk.u64_in _ e6)) ?_)))
 have il:=P.pb [1,2]
 obtain⟨Q,bE⟩:∃ q,bV (dJ.mk (E4 m)) a.aJ.ls.length=q:=⟨_,rfl⟩
 obtain⟨kW,eX,jC,eY,jD⟩:=Gp il
 refine cl N8 (dQ _ _ f (dJ.mk (E4 m)) au ax a.aJ.ls.length Q eX f6 bE) ?_
 rintro _ kX ⟨iq,iw,rfl,fe,bF⟩
 have dA:=eY _ _ fe
 have jE:=dA.rowC (i:=1) rfl
 replace bF:Q.xb.ls.length≤m.length+10:=bF
 refine D0 (Gh (res0 rfl) (nt (FV (Mz rfl (Mz rfl ?_)))))
 refine WL.do rfl (Gg Tryz.call122 rfl ?_ (fun _ _ k=>k))
 refine cb Tryz.func122 ?_
 refine sr (Mz rfl (Kz (vJ a.aJ.ls.length) (Mn rfl (bo ?_))))
 have iy:=dA.pb [1]
 obtain⟨iA,aH⟩:=rZ fun (j:Nat) R (S:Nat) r w'=>Own w D w' [blk f [.slice R r.length S] 159,row E 3 3 (q6 (eN .u64) ([a.ay,a.aX,a.aL])) 28 1,blk I [vI a.av,vU a.ay,vU a.aX,vU a.aL, .slice n a.ag.ls.length s, .slice o a.ak.ls.length t, .slice p a.aJ.ls.length u] 33,row R r.length S (q6 eB r) 5 1]∧j≤a.aJ.ls.length∧((r.length:Nat):Int)≤((Q.xb.ls.length:Nat):Int)+8000 *((j:Nat):Int)∧jJ a.aJ.ls Q.xb.ls=jJ (r6 j a.aJ.ls) r
 refine Wp.loop (fun i:Nat × (Option Addr) × Nat × (List UInt8)=> [(8,vJ i.1),(7,vJ a.aJ.ls.length),(6, .slice p a.aJ.ls.length u),(0, .func (.func 85) #[vP f 0] #[])]) iA (fun i=>a.aJ.ls.length - i.1) (0,iq,iw,Q.xb.ls) ⟨rfl,rfl,rfl,rfl,trivial⟩ (aH.2 ⟨iy,e6,e6,rfl⟩) ?_
 rintro ⟨j,R,S,r⟩ kY fq
 obtain⟨T,jG,jK,bG⟩:=aH.1 fq
 refine sr (Kz (.bool (decide (((j:Nat):Int) < ((a.aJ.ls.length:Nat):Int)))) (nt (FW ?_)))
 by_cases dB:((j:Nat):Int) < ((a.aJ.ls.length:Nat):Int)
 obtain⟨b,G⟩:=dK (ls:=af) (i:=j) aT.len f3 (T.ro X) e9
 have bH:=fo aC G
 have jL:=(C _ (E0 G)).2.1
 have jM:s2 (s8 ae.abs b.ah.ls)=b.ah.ls.length:=s6 ..
 have Z:(aT.abs b).ay≤18446744073709551615∧(aT.abs b).aO≤18446744073709551615∧s2 (aT.abs b).ah.ls≤24∧∀ z ∈ (aT.abs b).ah.ls,z.aQ.length≤16∧z.aj.ls.length≤4∧∀ q ∈ z.aj.ls,q.bW.length≤12∧q.aQ.length≤16:=B.2.2.2.2.2.1 _ (E0 bH)
 have hz260p0:b.ay≤18446744073709551615:=by have F:=Z.1; first | exact F | (simp only [aT.abs,s6] at F; exact F)
 have hz260p1:b.aO≤18446744073709551615:=by have F:=Z.2.1; first | exact F | (simp only [aT.abs,s6] at F; exact F)
 have hz260p2:b.ah.ls.length≤24:=by have F:=Z.2.2.1; first | exact F | (simp only [aT.abs,s6] at F; exact F)
 have fu:=drop_at bH
 refine jT (dT dB) (sk (FW (bo (sr (fw (.pointer (some ⟨ab p,ao p+j *4,none⟩)) (F4 (lN) rfl rfl ((T.ro X).addr (i:=j) e6) e6) (fw (.agg (aT.cells b).toArray) (F7 rfl (Gf (cs:=(aT.cells b)) Tryz.isAgg56 O1 ((T.ro X).elem aT.len G f3))) ?_))))))
 refine dM [vI 0, .int .u64 0, .int .u64 0, .slice none 0 0] 56 T ?_
 intro kZ lc iB
 refine dN (aT.cells b) 0 iB O1 ?_
 intro lg dC
 refine nt (FV (Mz rfl (La (aT.cells b) dC 0 Tryz.isAgg56 O1 ?_)))
 have iC:=dC.pf [1,4]
 obtain⟨bI,bK⟩:∃ q,oW (dJ.mk (E4 r)) (fE.mk b.aN b.ay b.aO (E4 (s8 ae.abs b.ah.ls)))=q:=⟨_,rfl⟩
 obtain⟨lh,fA,bL,fD,jN⟩:=Gp iC
 refine WL.do rfl (Gr Tryz.call85 rfl rfl (uq _ _ f (dJ.mk (E4 r)) R S (fE.mk b.aN b.ay b.aO (E4 (s8 ae.abs b.ah.ls))) b.ah.A b.ah.ls.length b.ah.c b.ah.ls bI fA (rfl:s8 ae.abs b.ah.ls=s8 ae.abs b.ah.ls) f0 (fun w9 h9=>pg (az (rfl:s8 ae.abs b.ah.ls=s8 ae.abs b.ah.ls)) ((bL _ (C _ (E0 G)).1) w9 h9)) (show s2 (s8 ae.abs b.ah.ls)≤b.ah.c∧s2 (s8 ae.abs b.ah.ls)≤9223372036854775807 from by omega) (fun x9 h9=>⟨bL _ ((C _ (E0 G)).2.2 x9 h9).1,((C _ (E0 G)).2.2 x9 h9).2⟩) f6 (by exact Z) bK) ?_)
 rintro _ ll ⟨iD,iE,rfl,fF,bM⟩
 have dD:=fD _ _ fF
 have jO:=dD.rowC (i:=1) rfl
 replace bM:bI.xb.ls.length≤r.length+8000:=bM
 refine D0 (bN (FY (FV (fw (vJ (j+1)) (FX (e:=C7.wrap (((j:Nat):Int)+1)) yk f1) (Mz rfl (D0 ?_))))))
 have iF:=dD.px [] [2] [1]
 exact Gc (j+1,iD,iE,bI.xb.ls) ⟨rfl,rfl,rfl,rfl,trivial⟩ (aH.2 ⟨iF,e6,e6,et (bG) (et (congrArg (fun q=>jJ q r) fu) (ai bK))⟩) (by show a.aJ.ls.length - (j+1) < a.aJ.ls.length - j; omega)
 refine jF (dF dB) (D1 (F6 ?_))
 have fG:jJ a.aJ.ls Q.xb.ls=r:=et (bG) (et (congrArg (fun q=>jJ q r) (eZ (ls:=a.aJ.ls) (i:=j) e6)) rfl)
 refine F6 (Gi (Gh (res0 rfl) (D0 (Gh (res0 rfl) (ns (Mz rfl (Kz (vP f 0) (Kz (vP f 0) (Lz (.slice R r.length S) T 0 Tryz.isAgg134 (Az rfl (An rfl (rt (Fin.res (lY rfl rfl rfl) ?_)))))))))))))
 have iG:=T.pk [3]
 obtain⟨rfl,rfl⟩:=gm (hr.symm.trans (show _=(r,0) from et (ai aJ) (et (ip bQ) (et (ai bZ) (et (ai cz) (et (ai cK) (et (ai aS) (et (ai aY) (et (ai ed) (et (ai bq) (et (ai eU) (et (ai bE) (ai fG)))))))))))))
 exact⟨R,S,rfl,iG,(by first | omega | exact JQ _)⟩
 refine jT (dT bQ) (sr (Mz rfl (Az rfl (An rfl (rt (tR (Fin.res (lY rfl rfl rfl) ?_)))))))
 have iH:Own w D iQ [row none 0 0 (q6 eB ([])) 5 1,blk I [vI a.av,vU a.ay,vU a.aX,vU a.aL, .slice n a.ag.ls.length s, .slice o a.ak.ls.length t, .slice p a.aJ.ls.length u] 33]:=fO.free (fB 5 1)
 have iI:=iH.pk [0]
 obtain⟨rfl,rfl⟩:=gm (hr.symm.trans (show _=(([]:List UInt8),aL) from et (ai aJ) (iN bQ)))
 exact⟨none,0,rfl,iI,(by first | omega | exact JQ _)⟩
end Go.Proofs.YtbkagebjhbphaaaGreat
