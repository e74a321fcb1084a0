/-
 record: the coordinator's state as bytes.
-/
import Derived.Test.YtbkagebjhbphaaaGreatRb
namespace Go.Proofs.YtbkagebjhbphaaaGreat
open Int renaming toNat→D0
open IntKind renaming i64→C5,u64→D1
open List renaming drop→r3,flatMap→q3,length→r8,length_map→s3,map→s5,mem_of_getElem?→D3
open Ll renaming mk→E2
open _root_.Go.Proofs.Tryz renaming call77→O7,call79→O9,func77→O8,isAgg28→D4,sizeOf56→P2,sizeOf60→P1,sizeOf89→P0
open WL renaming nil→C6
open Wp renaming exit→C7
set_option maxRecDepth 100000
open Go.RowKit
set_option linter.unusedVariables false
set_option linter.unusedSectionVars false
set_option linter.unusedSimpArgs false
def jZ (e:cZ):List aY→List UInt8→(List UInt8)
  | [],a=>a
  | c::d,a=>bnd (pK (dR.mk (E2 a)) c) fun b=>jZ e d b.xb.ls
def j3 (e:cZ):List bH→List UInt8→(List UInt8)
  | [],b=>b
  | a::d,b=>bnd (ou (dR.mk (E2 b)) (bH.mk a.aN a.aK a.av a.aP (E2 a.au.ls))) fun c=>j3 e d c.xb.ls
def j4:List eD→List UInt8→(List UInt8)
  | [],b=>b
  | a::d,b=>bnd (pY (dR.mk (E2 b)) (eD.mk a.aK a.av a.aP (E2 a.ai.ls))) fun c=>j4 d c.xb.ls
def fA (a:cZ):(List UInt8) × Int:=
 bnd (gJ a) fun b=>if b=0 then bnd (bX (dR.mk (E2 ([67]))) (D0 (D1.wrap a.au))) fun g=>bnd (bX g a.av) fun h=>bnd (bX h a.aV) fun i=>bnd (bX i a.aL) fun c=>bnd (bX c a.ag.ls.length) fun d=>bnd (jZ a a.ag.ls d.xb.ls) fun sLrbtbbbbbL=>bnd (bX (dR.mk (E2 sLrbtbbbbbL)) a.aj.ls.length) fun e=>bnd (j3 a a.aj.ls e.xb.ls) fun sLrbtbbbbbLabL=>bnd (bX (dR.mk (E2 sLrbtbbbbbLabL)) a.aF.ls.length) fun f=>bnd (j4 a.aF.ls f.xb.ls) fun sLrbtbbbbbLabLabL=>(sLrbtbbbbbLabLabL,0) else(([]:List UInt8),b)
set_option maxHeartbeats 4000000 in
theorem kJ (w D) (a:cZ) (n bU s o bV t aa p bW u af r0 r1) (H:Own w D w []) (dE:bU=a.ag.ls.length) (U:Ro w D fun w'=>bE w' 2 n a.ag.ls.length (q3 aY.cells a.ag.ls)) (iM:a.ag.ls.length≤s∧a.ag.ls.length≤9223372036854775807) (az:s5 aC.abs aa=a.aj.ls) (dG:bV=a.aj.ls.length) (V:Ro w D fun w'=>bE w' 5 o a.aj.ls.length (q3 aC.cells aa)) (iO:a.aj.ls.length≤t∧a.aj.ls.length≤9223372036854775807) (W:∀ x ∈ aa,Ro w D (fun w'=>bE w' 1 x.au.A x.au.ls.length (q3 (eI .i64) x.au.ls))∧(x.au.ls.length≤x.au.c∧x.au.ls.length≤9223372036854775807)) (aA:s5 aU.abs af=a.aF.ls) (dH:bW=a.aF.ls.length) (X:Ro w D fun w'=>bE w' 4 p a.aF.ls.length (q3 aU.cells af)) (iP:a.aF.ls.length≤u∧a.aF.ls.length≤9223372036854775807) (C:∀ x ∈ af,Ro w D (fun w'=>bE w' 3 x.ai.A x.ai.ls.length (q3 ae.cells x.ai.ls))∧(x.ai.ls.length≤x.ai.c∧x.ai.ls.length≤9223372036854775807)∧(∀ y1 ∈ x.ai.ls,Ro w D (fun w'=>bE w' 2 y1.ak.A y1.ak.ls.length (q3 aI.cells y1.ak.ls))∧(y1.ak.ls.length≤y1.ak.c∧y1.ak.ls.length≤9223372036854775807))) (lm:a.ag.ls.length≤140737488355328∧a.aj.ls.length≤140737488355328∧a.aF.ls.length≤140737488355328) (iQ:FR a) (hr:fA a=(r0,r1)):
    Calls Tryz.prog 54 #[.agg #[vI a.au,vU a.av,vU a.aV,vU a.aL, .slice n bU s, .slice o bV t, .slice p bW u]] w (d9 fun v w'=> ∃ B0 b0,v= .tuple #[.slice B0 r0.length b0,vI r1]∧Own w D w' [row B0 r0.length b0 (q3 eB r0) 5 1]∧(r0.length≤100000)):=by
 subst dE dG dH
 have iK:=aB az
 have iL:=aB aA
 refine cb Tryz.func54 ?_
 refine sr ?_
 refine dV [vI a.au,vU a.av,vU a.aV,vU a.aL, .slice n a.ag.ls.length s, .slice o a.aj.ls.length t, .slice p a.aF.ls.length u] 33 H ?_
 intro I lq fI
 refine Az rfl (An rfl (Ic (sr (La ([vI a.au,vU a.av,vU a.aV,vU a.aL, .slice n a.ag.ls.length s, .slice o a.aj.ls.length t, .slice p a.aF.ls.length u]) fI 0 Tryz.isAgg33 Tryz.sizeOf33 ?_))))
 obtain⟨aL,aJ⟩:∃ q,gJ a=q:=⟨_,rfl⟩
 obtain⟨lu,fJ,L,fK,jP⟩:=Ii fI
 refine cl Tryz.call19 (mV _ _ a n a.ag.ls.length s o a.aj.ls.length t aa p a.aF.ls.length u af aL fJ rfl (L _ U) (show a.ag.ls.length≤s∧a.ag.ls.length≤9223372036854775807 from by omega) az rfl (L _ V) (show a.aj.ls.length≤t∧a.aj.ls.length≤9223372036854775807 from by omega) (fun x9 h9=>⟨L _ (W x9 h9).1,(W x9 h9).2⟩) aA rfl (L _ X) (show a.aF.ls.length≤u∧a.aF.ls.length≤9223372036854775807 from by omega) (fun x9 h9=>⟨L _ (C x9 h9).1,(C x9 h9).2.1,(fun y1 k1=>⟨L _ ((C x9 h9).2.2 y1 k1).1,((C x9 h9).2.2 y1 k1).2⟩)⟩) e8 aJ) ?_
 rintro _ iR ⟨rfl,fM⟩
 have fO:=fK _ _ fM
 refine Ar rfl (Mz rfl (fw (.bool (decide (¬ (aL=0)))) (IG (e:= !(decide (aL=0))) yk decide_not.symm) (nt ?_)))
 by_cases bQ:aL=0
 refine jF (dF (Lh bQ)) (sk (sr ?_))
 have B:=F3 (by rw [aJ]; omega) iQ
 have jR:a.ag.ls.length≤6:=B.1
 have jS:a.aj.ls.length≤8:=B.2.2.1
 have jU:a.aF.ls.length≤4:=B.2.2.2.2.1
 have jV:a.av≤18446744073709551615:=B.2.2.2.2.2.2.1
 have jW:a.aV≤18446744073709551615:=B.2.2.2.2.2.2.2.1
 have jX:a.aL≤18446744073709551615:=B.2.2.2.2.2.2.2.2
 refine lg [.int .u8 67] 5 1 1 fO ?_
 intro bR lv dI
 replace dI:=IL (y:=row bR 1 1 (q3 eB ([67])) 5 1) rfl dI
 refine Kz (.agg #[.slice bR 1 1]) ?_
 refine dV [.slice bR 1 1] 159 dI ?_
 intro f lw fP
 refine Ar rfl (Mz rfl (Kz (vP I 0) (Lz (vI a.au) fP 2 Tryz.isAgg3 ?_)))
 refine WL.do rfl (Iz O7 rfl ?_ (fun _ _ k=>k))
 refine cb O8 ?_
 refine Ib (Mz rfl (Mz rfl ?_))
 have jY:D0 (D1.wrap a.au)≤18446744073709551615:=mh _
 refine fw (vU (D0 (D1.wrap a.au))) (Ie (e:=D1.wrap a.au) yk (fD _)) ?_
 obtain⟨aM,bY⟩:∃ q,bX (dR.mk (E2 ([67]))) (D0 (D1.wrap a.au))=q:=⟨_,rfl⟩
 obtain⟨lC,fQ,j5,fT,j6⟩:=IJ fP
 refine cl O9 (dX _ _ f (dR.mk (E2 ([67]))) bR 1 (D0 (D1.wrap a.au)) aM fQ f6 bY) ?_
 rintro _ lD ⟨iT,iU,rfl,fU,cu⟩
 have aO:=fT _ _ fU
 have kg:=aO.rowC (i:=1) rfl
 replace cu:aM.xb.ls.length≤1+10:=cu
 refine C6 (IA (res0 rfl) (ns (Mz rfl (Kz (.func (.func 79) #[vP f 0] #[]) (Kz (vP I 1) (Lz (vU a.av) aO 2 D4 (Kz (vP I 2) (Lz (vU a.aV) aO 2 D4 (Kz (vP I 3) (Lz (vU a.aL) aO 2 D4 ?_))))))))))
 refine lg [vU a.av,vU a.aV,vU a.aL] 28 1 3 aO ?_
 intro E lF aQ
 replace aQ:=IL (y:=row E 3 3 (q3 (eN .u64) ([a.av,a.aV,a.aL])) 28 1) rfl aQ
 refine WL.do rfl (Iz Tryz.call78 rfl ?_ (fun _ _ k=>k))
 refine cb Tryz.func78 ?_
 refine sr (Mz rfl (Kz (vI 3) (Mn rfl (bo (Jw 200 (sr (Kz (.bool true) (nt (Ic (jt (sk (Ic (bo (sr ?_))))))))))))))
 have fV:([a.av,a.aV,a.aL]:List Nat)[0]? =some a.av:=rfl
 refine fw (.pointer (some ⟨ab E,ao E+0 *1,none⟩)) (Ij (uY) rfl rfl ((aQ.rds (i:=0) rfl).addr (i:=0) e6) e6) (fw (vU a.av) (Io rfl (bZ.one D4 (((aQ.rds (i:=0) rfl).elem qw fV f4).at_ (k:=0) rfl))) (An rfl (Ib (Mz rfl (Mz rfl ?_)))))
 have iV:=aQ.pb [0,3]
 obtain⟨aR,cz⟩:∃ q,bX aM a.av=q:=⟨_,rfl⟩
 obtain⟨lG,fZ,ko,gm,kr⟩:=IJ iV
 refine WL.do rfl (IK O9 rfl rfl (dX _ _ f aM iT iU a.av aR fZ f6 cz) ?_)
 rintro _ lH ⟨iW,iX,rfl,gp,cB⟩
 have bS:=gm _ _ gp
 have ku:=bS.rowC (i:=1) rfl
 replace cB:aR.xb.ls.length≤aM.xb.ls.length+10:=cB
 refine C6 (bN (Ig (Ib (Kz (vI 1) (Mz rfl (C6 (I8 [(8,vI 1),(7,vI 3),(6, .slice E 3 3),(0, .func (.func 79) #[vP f 0] #[])] ⟨rfl,rfl,rfl,rfl,trivial⟩ (sr (Kz (.bool true) (nt (Ic (jt (sk (Ic (bo (sr ?_))))))))))))))))
 have gq:([a.av,a.aV,a.aL]:List Nat)[1]? =some a.aV:=rfl
 refine fw (.pointer (some ⟨ab E,ao E+1 *1,none⟩)) (Ij (uY) rfl rfl ((bS.rds (i:=2) rfl).addr (i:=1) e6) e6) (fw (vU a.aV) (Io rfl (bZ.one D4 (((bS.rds (i:=2) rfl).elem qw gq f4).at_ (k:=0) rfl))) (An rfl (Ib (Mz rfl (Mz rfl ?_)))))
 obtain⟨aS,cK⟩:∃ q,bX aR a.aV=q:=⟨_,rfl⟩
 obtain⟨lI,gu,kv,gy,kw⟩:=IJ bS
 refine WL.do rfl (IK O9 rfl rfl (dX _ _ f aR iW iX a.aV aS gu f6 cK) ?_)
 rintro _ lJ ⟨iY,iZ,rfl,gz,cO⟩
 have bT:=gy _ _ gz
 have ky:=bT.rowC (i:=1) rfl
 replace cO:aS.xb.ls.length≤aR.xb.ls.length+10:=cO
 refine C6 (bN (Ig (Ib (Kz (vI 2) (Mz rfl (C6 (I8 [(8,vI 2),(7,vI 3),(6, .slice E 3 3),(0, .func (.func 79) #[vP f 0] #[])] ⟨rfl,rfl,rfl,rfl,trivial⟩ (sr (Kz (.bool true) (nt (Ic (jt (sk (Ic (bo (sr ?_))))))))))))))))
 have gB:([a.av,a.aV,a.aL]:List Nat)[2]? =some a.aL:=rfl
 refine fw (.pointer (some ⟨ab E,ao E+2 *1,none⟩)) (Ij (uY) rfl rfl ((bT.rds (i:=2) rfl).addr (i:=2) e6) e6) (fw (vU a.aL) (Io rfl (bZ.one D4 (((bT.rds (i:=2) rfl).elem qw gB f4).at_ (k:=0) rfl))) (An rfl (Ib (Mz rfl (Mz rfl ?_)))))
 obtain⟨ag,aT⟩:∃ q,bX aS a.aL=q:=⟨_,rfl⟩
 obtain⟨lK,gD,ja,dJ,jb⟩:=IJ bT
 refine WL.do rfl (IK O9 rfl rfl (dX _ _ f aS iY iZ a.aL ag gD f6 aT) ?_)
 rintro _ kz ⟨gF,gG,rfl,dK,aV⟩
 have aW:=dJ _ _ dK
 have jc:=aW.rowC (i:=1) rfl
 replace aV:ag.xb.ls.length≤aS.xb.ls.length+10:=aV
 refine C6 (bN (Ig (Ib (Kz (vI 3) (Mz rfl (C6 (I8 [(8,vI 3),(7,vI 3),(6, .slice E 3 3),(0, .func (.func 79) #[vP f 0] #[])] ⟨rfl,rfl,rfl,rfl,trivial⟩ (sr (Kz (.bool false) (nt (Ic (jf (C7 (Il (Il (IB (IA (res0 rfl) (ns (Mz rfl (Kz (vP I 4) (Lz (.slice n a.ag.ls.length s) aW 3 Tryz.isAgg29 (Mz rfl (Kz (.func (.func 81) #[vP f 0] #[]) ?_)))))))))))))))))))))))
 refine WL.do rfl (Iz Tryz.call80 rfl ?_ (fun _ _ k=>k))
 refine cb Tryz.func80 ?_
 refine sr (Mz rfl (Mz rfl (Kz (vJ a.ag.ls.length) ?_)))
 refine WL.do rfl (Iz O7 rfl ?_ (fun _ _ k=>k))
 refine cb O8 ?_
 refine Ib (Mz rfl (Mz rfl (fw (vU a.ag.ls.length) (Ie (e:=D1.wrap ((a.ag.ls.length:Nat):Int)) yk (IntWalk.u64_in _ e6)) ?_)))
 obtain⟨M,aX⟩:∃ q,bX ag a.ag.ls.length=q:=⟨_,rfl⟩
 obtain⟨kC,dL,jd,dM,je⟩:=IJ aW
 refine cl O9 (dX _ _ f ag gF gG a.ag.ls.length M dL f6 aX) ?_
 rintro _ kD ⟨gH,gI,rfl,dO,aZ⟩
 have df:=dM _ _ dO
 have jg:=df.rowC (i:=1) rfl
 replace aZ:M.xb.ls.length≤ag.xb.ls.length+10:=aZ
 refine C6 (IA (res0 rfl) (nt (Ib (Mz rfl (Mz rfl ?_)))))
 refine WL.do rfl (Iz Tryz.call118 rfl ?_ (fun _ _ k=>k))
 refine cb Tryz.func118 ?_
 refine sr (Mz rfl (Kz (vJ a.ag.ls.length) (Mn rfl (bo ?_))))
 have gK:=df.pb [1]
 obtain⟨gL,aD⟩:=sQ fun (g:Nat) aj (ak:Nat) l w'=>Own w D w' [blk f [.slice aj l.length ak] 159,row E 3 3 (q3 (eN .u64) ([a.av,a.aV,a.aL])) 28 1,blk I [vI a.au,vU a.av,vU a.aV,vU a.aL, .slice n a.ag.ls.length s, .slice o a.aj.ls.length t, .slice p a.aF.ls.length u] 33,row aj l.length ak (q3 eB l) 5 1]∧g≤a.ag.ls.length∧((l.length:Nat):Int)≤((M.xb.ls.length:Nat):Int)+40 *((g:Nat):Int)∧jZ a a.ag.ls M.xb.ls=jZ a (r3 g a.ag.ls) l
 refine Wp.loop (fun i:Nat × (Option Addr) × Nat × (List UInt8)=> [(8,vJ i.1),(7,vJ a.ag.ls.length),(6, .slice n a.ag.ls.length s),(0, .func (.func 81) #[vP f 0] #[])]) gL (fun i=>a.ag.ls.length - i.1) (0,gH,gI,M.xb.ls) ⟨rfl,rfl,rfl,rfl,trivial⟩ (aD.2 ⟨gK,e6,e6,rfl⟩) ?_
 rintro ⟨g,aj,ak,l⟩ kE dP
 obtain⟨N,jh,ji,bf⟩:=aD.1 dP
 refine sr (Kz (.bool (decide (((g:Nat):Int) < ((a.ag.ls.length:Nat):Int)))) (nt (Ic ?_)))
 by_cases dh:((g:Nat):Int) < ((a.ag.ls.length:Nat):Int)
 obtain⟨J,aF⟩:=dN (ls:=a.ag.ls) (i:=g) aY.len f4 (N.ro U) e9
 have dQ:J.bF.length≤12:=B.2.1 _ (D3 aF)
 have dU:=drop_at aF
 refine jT (dT dh) (sk (Ic (bo (sr (fw (.pointer (some ⟨ab n,ao n+g *2,none⟩)) (Ij (qY) rfl rfl ((N.ro U).addr (i:=g) e6) e6) (fw (.agg (aY.cells J).toArray) (Io rfl (Iy (cs:=(aY.cells J)) Tryz.isAgg89 P0 ((N.ro U).elem aY.len aF f4))) ?_))))))
 refine dV [.string ⟨List.toArray ([])⟩,vI 0] 89 N ?_
 intro kF kG gM
 refine dS (aY.cells J) 0 gM P0 ?_
 intro kH di
 refine nt (Ib (Mz rfl (La (aY.cells J) di 0 Tryz.isAgg89 P0 ?_)))
 have gN:=di.pf [1,4]
 obtain⟨bg,bi⟩:∃ q,pK (dR.mk (E2 l)) J=q:=⟨_,rfl⟩
 obtain⟨kI,dW,jk,dY,jl⟩:=IJ gN
 refine WL.do rfl (IK Tryz.call81 rfl rfl (uz _ _ f (dR.mk (E2 l)) aj ak J bg dW f6 (by exact dQ) bi) ?_)
 rintro _ kK ⟨gP,gQ,rfl,dZ,bn⟩
 have dm:=dY _ _ dZ
 have jm:=dm.rowC (i:=1) rfl
 replace bn:bg.xb.ls.length≤l.length+40:=bn
 refine C6 (bN (Ig (Ib (fw (vJ (g+1)) (Ie (e:=C5.wrap (((g:Nat):Int)+1)) yk f0) (Mz rfl (C6 ?_))))))
 have gT:=dm.px [] [2] [1]
 exact Ir (g+1,gP,gQ,bg.xb.ls) ⟨rfl,rfl,rfl,rfl,trivial⟩ (aD.2 ⟨gT,e6,e6,et (bf) (et (congrArg (fun q=>jZ a q l) dU) (ah bi))⟩) (by show a.ag.ls.length - (g+1) < a.ag.ls.length - g; omega)
 refine jF (dF dh) (C7 (Il ?_))
 have ed:jZ a a.ag.ls M.xb.ls=l:=et (bf) (et (congrArg (fun q=>jZ a q l) (fB (ls:=a.ag.ls) (i:=g) e6)) rfl)
 refine Il (IB (IA (res0 rfl) (C6 (IA (res0 rfl) (ns (Mz rfl (Kz (vP I 5) (Lz (.slice o a.aj.ls.length t) N 2 Tryz.isAgg30 (Mz rfl (Kz (.func (.func 83) #[vP f 0] #[]) ?_))))))))))
 refine WL.do rfl (Iz Tryz.call82 rfl ?_ (fun _ _ k=>k))
 refine cb Tryz.func82 ?_
 refine sr (Mz rfl (Mz rfl (Kz (vJ a.aj.ls.length) ?_)))
 refine WL.do rfl (Iz O7 rfl ?_ (fun _ _ k=>k))
 refine cb O8 ?_
 refine Ib (Mz rfl (Mz rfl (fw (vU a.aj.ls.length) (Ie (e:=D1.wrap ((a.aj.ls.length:Nat):Int)) yk (IntWalk.u64_in _ e6)) ?_)))
 have gU:=N.pb [1,2]
 obtain⟨O,bq⟩:∃ q,bX (dR.mk (E2 l)) a.aj.ls.length=q:=⟨_,rfl⟩
 obtain⟨kL,ek,jo,eu,jq⟩:=IJ gU
 refine cl O9 (dX _ _ f (dR.mk (E2 l)) aj ak a.aj.ls.length O ek f6 bq) ?_
 rintro _ kM ⟨gV,gW,rfl,eF,bu⟩
 have dn:=eu _ _ eF
 have jr:=dn.rowC (i:=1) rfl
 replace bu:O.xb.ls.length≤l.length+10:=bu
 refine C6 (IA (res0 rfl) (nt (Ib (Mz rfl (Mz rfl ?_)))))
 refine WL.do rfl (Iz Tryz.call120 rfl ?_ (fun _ _ k=>k))
 refine cb Tryz.func120 ?_
 refine sr (Mz rfl (Kz (vJ a.aj.ls.length) (Mn rfl (bo ?_))))
 have gX:=dn.pb [1]
 obtain⟨gY,aG⟩:=sQ fun (h:Nat) ax (ay:Nat) m w'=>Own w D w' [blk f [.slice ax m.length ay] 159,row E 3 3 (q3 (eN .u64) ([a.av,a.aV,a.aL])) 28 1,blk I [vI a.au,vU a.av,vU a.aV,vU a.aL, .slice n a.ag.ls.length s, .slice o a.aj.ls.length t, .slice p a.aF.ls.length u] 33,row ax m.length ay (q3 eB m) 5 1]∧h≤a.aj.ls.length∧((m.length:Nat):Int)≤((O.xb.ls.length:Nat):Int)+100 *((h:Nat):Int)∧j3 a a.aj.ls O.xb.ls=j3 a (r3 h a.aj.ls) m
 refine Wp.loop (fun i:Nat × (Option Addr) × Nat × (List UInt8)=> [(8,vJ i.1),(7,vJ a.aj.ls.length),(6, .slice o a.aj.ls.length t),(0, .func (.func 83) #[vP f 0] #[])]) gY (fun i=>a.aj.ls.length - i.1) (0,gV,gW,O.xb.ls) ⟨rfl,rfl,rfl,rfl,trivial⟩ (aG.2 ⟨gX,e6,e6,rfl⟩) ?_
 rintro ⟨h,ax,ay,m⟩ kN eG
 obtain⟨P,jv,jw,bv⟩:=aG.1 eG
 refine sr (Kz (.bool (decide (((h:Nat):Int) < ((a.aj.ls.length:Nat):Int)))) (nt (Ic ?_)))
 by_cases dw:((h:Nat):Int) < ((a.aj.ls.length:Nat):Int)
 obtain⟨d,Y⟩:=dN (ls:=aa) (i:=h) aC.len f4 (P.ro V) e9
 have bz:=fF az Y
 have jy:=(W _ (D3 Y)).2
 have K:(aC.abs d).aN≤18446744073709551615∧(aC.abs d).av≤18446744073709551615∧(aC.abs d).aP≤18446744073709551615∧r8 (aC.abs d).au.ls≤4:=B.2.2.2.1 _ (D3 bz)
 have hz201p0:d.aN≤18446744073709551615:=by have F:=K.1; first | exact F | (simp only [aC.abs,s3] at F; exact F)
 have hz201p1:d.av≤18446744073709551615:=by have F:=K.2.1; first | exact F | (simp only [aC.abs,s3] at F; exact F)
 have hz201p2:d.aP≤18446744073709551615:=by have F:=K.2.2.1; first | exact F | (simp only [aC.abs,s3] at F; exact F)
 have hz201p3:d.au.ls.length≤4:=by have F:=K.2.2.2; first | exact F | (simp only [aC.abs,s3] at F; exact F)
 have eH:=drop_at bz
 refine jT (dT dw) (sk (Ic (bo (sr (fw (.pointer (some ⟨ab o,ao o+h *5,none⟩)) (Ij (kW) rfl rfl ((P.ro V).addr (i:=h) e6) e6) (fw (.agg (aC.cells d).toArray) (Io rfl (Iy (cs:=(aC.cells d)) Tryz.isAgg60 P1 ((P.ro V).elem aC.len Y f4))) ?_))))))
 refine dV [.int .u64 0,vI 0, .int .u64 0, .int .u64 0, .slice none 0 0] 60 P ?_
 intro kP kQ gZ
 refine dS (aC.cells d) 0 gZ P1 ?_
 intro kR dx
 refine nt (Ib (Mz rfl (La (aC.cells d) dx 0 Tryz.isAgg60 P1 ?_)))
 have ib:=dx.pf [1,4]
 obtain⟨bA,bB⟩:∃ q,ou (dR.mk (E2 m)) (bH.mk d.aN d.aK d.av d.aP (E2 d.au.ls))=q:=⟨_,rfl⟩
 obtain⟨kS,eO,eP,eQ,jA⟩:=IJ ib
 refine WL.do rfl (IK Tryz.call83 rfl rfl (sZ _ _ f (dR.mk (E2 m)) ax ay (bH.mk d.aN d.aK d.av d.aP (E2 d.au.ls)) d.au.A d.au.ls.length d.au.c bA eO rfl (eP _ (W _ (D3 Y)).1) (show d.au.ls.length≤d.au.c∧d.au.ls.length≤9223372036854775807 from by omega) f6 (by exact K) bB) ?_)
 rintro _ kT ⟨ig,ik,rfl,eT,bC⟩
 have dz:=eQ _ _ eT
 have jB:=dz.rowC (i:=1) rfl
 replace bC:bA.xb.ls.length≤m.length+100:=bC
 refine C6 (bN (Ig (Ib (fw (vJ (h+1)) (Ie (e:=C5.wrap (((h:Nat):Int)+1)) yk f0) (Mz rfl (C6 ?_))))))
 have il:=dz.px [] [2] [1]
 exact Ir (h+1,ig,ik,bA.xb.ls) ⟨rfl,rfl,rfl,rfl,trivial⟩ (aG.2 ⟨il,e6,e6,et (bv) (et (congrArg (fun q=>j3 a q m) eH) (ah bB))⟩) (by show a.aj.ls.length - (h+1) < a.aj.ls.length - h; omega)
 refine jF (dF dw) (C7 (Il ?_))
 have eU:j3 a a.aj.ls O.xb.ls=m:=et (bv) (et (congrArg (fun q=>j3 a q m) (fB (ls:=a.aj.ls) (i:=h) e6)) rfl)
 refine Il (IB (IA (res0 rfl) (C6 (IA (res0 rfl) (ns (Mz rfl (Kz (vP I 6) (Lz (.slice p a.aF.ls.length u) P 2 Tryz.isAgg31 (Mz rfl (Kz (.func (.func 85) #[vP f 0] #[]) ?_))))))))))
 refine WL.do rfl (Iz Tryz.call84 rfl ?_ (fun _ _ k=>k))
 refine cb Tryz.func84 ?_
 refine sr (Mz rfl (Mz rfl (Kz (vJ a.aF.ls.length) ?_)))
 refine WL.do rfl (Iz O7 rfl ?_ (fun _ _ k=>k))
 refine cb O8 ?_
 refine Ib (Mz rfl (Mz rfl (fw (vU a.aF.ls.length) (Ie (e:=D1.wrap ((a.aF.ls.length:Nat):Int)) yk (IntWalk.u64_in _ e6)) ?_)))
 have iq:=P.pb [1,2]
 obtain⟨Q,bD⟩:∃ q,bX (dR.mk (E2 m)) a.aF.ls.length=q:=⟨_,rfl⟩
 obtain⟨kU,eX,jC,eY,jD⟩:=IJ iq
 refine cl O9 (dX _ _ f (dR.mk (E2 m)) ax ay a.aF.ls.length Q eX f6 bD) ?_
 rintro _ kV ⟨iw,iy,rfl,fe,bF⟩
 have dA:=eY _ _ fe
 have jE:=dA.rowC (i:=1) rfl
 replace bF:Q.xb.ls.length≤m.length+10:=bF
 refine C6 (IA (res0 rfl) (nt (Ib (Mz rfl (Mz rfl ?_)))))
 refine WL.do rfl (Iz Tryz.call122 rfl ?_ (fun _ _ k=>k))
 refine cb Tryz.func122 ?_
 refine sr (Mz rfl (Kz (vJ a.aF.ls.length) (Mn rfl (bo ?_))))
 have iA:=dA.pb [1]
 obtain⟨iB,aH⟩:=sQ fun (j:Nat) R (S:Nat) r w'=>Own w D w' [blk f [.slice R r.length S] 159,row E 3 3 (q3 (eN .u64) ([a.av,a.aV,a.aL])) 28 1,blk I [vI a.au,vU a.av,vU a.aV,vU a.aL, .slice n a.ag.ls.length s, .slice o a.aj.ls.length t, .slice p a.aF.ls.length u] 33,row R r.length S (q3 eB r) 5 1]∧j≤a.aF.ls.length∧((r.length:Nat):Int)≤((Q.xb.ls.length:Nat):Int)+8000 *((j:Nat):Int)∧j4 a.aF.ls Q.xb.ls=j4 (r3 j a.aF.ls) r
 refine Wp.loop (fun i:Nat × (Option Addr) × Nat × (List UInt8)=> [(8,vJ i.1),(7,vJ a.aF.ls.length),(6, .slice p a.aF.ls.length u),(0, .func (.func 85) #[vP f 0] #[])]) iB (fun i=>a.aF.ls.length - i.1) (0,iw,iy,Q.xb.ls) ⟨rfl,rfl,rfl,rfl,trivial⟩ (aH.2 ⟨iA,e6,e6,rfl⟩) ?_
 rintro ⟨j,R,S,r⟩ kX fo
 obtain⟨T,jG,jH,bG⟩:=aH.1 fo
 refine sr (Kz (.bool (decide (((j:Nat):Int) < ((a.aF.ls.length:Nat):Int)))) (nt (Ic ?_)))
 by_cases dB:((j:Nat):Int) < ((a.aF.ls.length:Nat):Int)
 obtain⟨b,G⟩:=dN (ls:=af) (i:=j) aU.len f4 (T.ro X) e9
 have bI:=fF aA G
 have jI:=(C _ (D3 G)).2.1
 have jJ:r8 (s5 ae.abs b.ai.ls)=b.ai.ls.length:=s3 ..
 have Z:(aU.abs b).av≤18446744073709551615∧(aU.abs b).aP≤18446744073709551615∧r8 (aU.abs b).ai.ls≤24∧∀ z ∈ (aU.abs b).ai.ls,z.aT.length≤16∧z.ak.ls.length≤4∧∀ q ∈ z.ak.ls,q.bY.length≤12∧q.aT.length≤16:=B.2.2.2.2.2.1 _ (D3 bI)
 have hz260p0:b.av≤18446744073709551615:=by have F:=Z.1; first | exact F | (simp only [aU.abs,s3] at F; exact F)
 have hz260p1:b.aP≤18446744073709551615:=by have F:=Z.2.1; first | exact F | (simp only [aU.abs,s3] at F; exact F)
 have hz260p2:b.ai.ls.length≤24:=by have F:=Z.2.2.1; first | exact F | (simp only [aU.abs,s3] at F; exact F)
 have fq:=drop_at bI
 refine jT (dT dB) (sk (Ic (bo (sr (fw (.pointer (some ⟨ab p,ao p+j *4,none⟩)) (Ij (l6) rfl rfl ((T.ro X).addr (i:=j) e6) e6) (fw (.agg (aU.cells b).toArray) (Io rfl (Iy (cs:=(aU.cells b)) Tryz.isAgg56 P2 ((T.ro X).elem aU.len G f4))) ?_))))))
 refine dV [vI 0, .int .u64 0, .int .u64 0, .slice none 0 0] 56 T ?_
 intro kY kZ iC
 refine dS (aU.cells b) 0 iC P2 ?_
 intro lc dC
 refine nt (Ib (Mz rfl (La (aU.cells b) dC 0 Tryz.isAgg56 P2 ?_)))
 have iD:=dC.pf [1,4]
 obtain⟨bJ,bK⟩:∃ q,pY (dR.mk (E2 r)) (eD.mk b.aK b.av b.aP (E2 (s5 ae.abs b.ai.ls)))=q:=⟨_,rfl⟩
 obtain⟨lh,fu,bL,fC,jK⟩:=IJ iD
 refine WL.do rfl (IK Tryz.call85 rfl rfl (uO _ _ f (dR.mk (E2 r)) R S (eD.mk b.aK b.av b.aP (E2 (s5 ae.abs b.ai.ls))) b.ai.A b.ai.ls.length b.ai.c b.ai.ls bJ fu (rfl:s5 ae.abs b.ai.ls=s5 ae.abs b.ai.ls) f1 (fun w9 h9=>qg (aB (rfl:s5 ae.abs b.ai.ls=s5 ae.abs b.ai.ls)) ((bL _ (C _ (D3 G)).1) w9 h9)) (show r8 (s5 ae.abs b.ai.ls)≤b.ai.c∧r8 (s5 ae.abs b.ai.ls)≤9223372036854775807 from by omega) (fun x9 h9=>⟨bL _ ((C _ (D3 G)).2.2 x9 h9).1,((C _ (D3 G)).2.2 x9 h9).2⟩) f6 (by exact Z) bK) ?_)
 rintro _ ll ⟨iE,iF,rfl,fE,bM⟩
 have dD:=fC _ _ fE
 have jL:=dD.rowC (i:=1) rfl
 replace bM:bJ.xb.ls.length≤r.length+8000:=bM
 refine C6 (bN (Ig (Ib (fw (vJ (j+1)) (Ie (e:=C5.wrap (((j:Nat):Int)+1)) yk f0) (Mz rfl (C6 ?_))))))
 have iG:=dD.px [] [2] [1]
 exact Ir (j+1,iE,iF,bJ.xb.ls) ⟨rfl,rfl,rfl,rfl,trivial⟩ (aH.2 ⟨iG,e6,e6,et (bG) (et (congrArg (fun q=>j4 q r) fq) (ah bK))⟩) (by show a.aF.ls.length - (j+1) < a.aF.ls.length - j; omega)
 refine jF (dF dB) (C7 (Il ?_))
 have fG:j4 a.aF.ls Q.xb.ls=r:=et (bG) (et (congrArg (fun q=>j4 q r) (fB (ls:=a.aF.ls) (i:=j) e6)) rfl)
 refine Il (IB (IA (res0 rfl) (C6 (IA (res0 rfl) (ns (Mz rfl (Kz (vP f 0) (Kz (vP f 0) (Lz (.slice R r.length S) T 0 Tryz.isAgg134 (Az rfl (An rfl (rt (Fin.res (lW rfl rfl rfl) ?_)))))))))))))
 have iH:=T.pk [3]
 obtain⟨rfl,rfl⟩:=ic (hr.symm.trans (show _=(r,0) from et (ah aJ) (et (ip bQ) (et (ah bY) (et (ah cz) (et (ah cK) (et (ah aT) (et (ah aX) (et (ah ed) (et (ah bq) (et (ah eU) (et (ah bD) (ah fG)))))))))))))
 exact⟨R,S,rfl,iH,(by first | omega | exact Lg _)⟩
 refine jT (dT bQ) (sr (Mz rfl (Az rfl (An rfl (rt (tR (Fin.res (lW rfl rfl rfl) ?_)))))))
 have iI:Own w D iR [row none 0 0 (q3 eB ([])) 5 1,blk I [vI a.au,vU a.av,vU a.aV,vU a.aL, .slice n a.ag.ls.length s, .slice o a.aj.ls.length t, .slice p a.aF.ls.length u] 33]:=fO.free (eZ 5 1)
 have iJ:=iI.pk [0]
 obtain⟨rfl,rfl⟩:=ic (hr.symm.trans (show _=(([]:List UInt8),aL) from et (ah aJ) (iN bQ)))
 exact⟨none,0,rfl,iJ,(by first | omega | exact Lg _)⟩
end Go.Proofs.YtbkagebjhbphaaaGreat
