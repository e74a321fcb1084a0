/-
 record: the coordinator's state as bytes.
-/
import Derived.Test.YtbkagebjhbphaaaGreatRb
namespace Go.Proofs.YtbkagebjhbphaaaGreat
open Int renaming toNat→C6
open IntKind renaming i64→C3,u64→C7
open List renaming drop→r4,flatMap→q4,length→s0,length_map→s3,map→s5,mem_of_getElem?→D1
open Ll renaming mk→E0
open _root_.Go.Proofs.Tryz renaming call77→P0,call79→P2,func77→P1,isAgg28→D2,sizeOf56→P5,sizeOf60→P4,sizeOf89→P3
open WL renaming nil→C4
open Wp renaming exit→C5
set_option maxRecDepth 100000
open Go.RowKit
set_option linter.unusedVariables false
set_option linter.unusedSectionVars false
set_option linter.unusedSimpArgs false
def jE (e:bZ):List aM→List UInt8→(List UInt8)
  | [],a=>a
  | c::d,a=>bnd (oP (dz.mk (E0 a)) c) fun b=>jE e d b.xb.ls
def jG (e:bZ):List bH→List UInt8→(List UInt8)
  | [],b=>b
  | a::d,b=>bnd (nH (dz.mk (E0 b)) (bH.mk a.aX a.aP a.ax a.aU (E0 a.au.ls))) fun c=>jG e d c.xb.ls
def jH:List fF→List UInt8→(List UInt8)
  | [],b=>b
  | a::d,b=>bnd (pF (dz.mk (E0 b)) (fF.mk a.aP a.ax a.aU (E0 a.ah.ls))) fun c=>jH d c.xb.ls
def ji (a:bZ):(List UInt8) × Int:=
 bnd (gq a) fun b=>if b=0 then bnd (bS (dz.mk (E0 ([67]))) (C6 (C7.wrap a.au))) fun g=>bnd (bS g a.ax) fun h=>bnd (bS h a.bG) fun i=>bnd (bS i a.aF) fun c=>bnd (bS c a.ag.ls.length) fun d=>bnd (jE a a.ag.ls d.xb.ls) fun sLrbtbbbbbL=>bnd (bS (dz.mk (E0 sLrbtbbbbbL)) a.ak.ls.length) fun e=>bnd (jG a a.ak.ls e.xb.ls) fun sLrbtbbbbbLabL=>bnd (bS (dz.mk (E0 sLrbtbbbbbLabL)) a.aK.ls.length) fun f=>bnd (jH a.aK.ls f.xb.ls) fun sLrbtbbbbbLabLabL=>(sLrbtbbbbbLabLabL,0) else(([]:List UInt8),b)
set_option maxHeartbeats 4000000 in
theorem ma (w D) (a:bZ) (n bW s o bX t aa p bY u ag r0 r1) (H:Own w D w []) (dL:bW=a.ag.ls.length) (U:Ro w D fun w'=>aY w' 2 n a.ag.ls.length (q4 aM.cells a.ag.ls)) (iL:a.ag.ls.length≤s∧a.ag.ls.length≤9223372036854775807) (aB:s5 ay.abs aa=a.ak.ls) (dM:bX=a.ak.ls.length) (V:Ro w D fun w'=>aY w' 5 o a.ak.ls.length (q4 ay.cells aa)) (iM:a.ak.ls.length≤t∧a.ak.ls.length≤9223372036854775807) (W:∀ x ∈ aa,Ro w D (fun w'=>aY w' 1 x.au.A x.au.ls.length (q4 (eI .i64) x.au.ls))∧(x.au.ls.length≤x.au.c∧x.au.ls.length≤9223372036854775807)) (aC:s5 aS.abs ag=a.aK.ls) (dN:bY=a.aK.ls.length) (X:Ro w D fun w'=>aY w' 4 p a.aK.ls.length (q4 aS.cells ag)) (iO:a.aK.ls.length≤u∧a.aK.ls.length≤9223372036854775807) (C:∀ x ∈ ag,Ro w D (fun w'=>aY w' 3 x.ah.A x.ah.ls.length (q4 af.cells x.ah.ls))∧(x.ah.ls.length≤x.ah.c∧x.ah.ls.length≤9223372036854775807)∧(∀ y1 ∈ x.ah.ls,Ro w D (fun w'=>aY w' 2 y1.aj.A y1.aj.ls.length (q4 aH.cells y1.aj.ls))∧(y1.aj.ls.length≤y1.aj.c∧y1.aj.ls.length≤9223372036854775807))) (ll:a.ag.ls.length≤140737488355328∧a.ak.ls.length≤140737488355328∧a.aK.ls.length≤140737488355328) (iP:zb a) (hr:ji a=(r0,r1)):
    Calls Tryz.prog 54 #[.agg #[vI a.au,vU a.ax,vU a.bG,vU a.aF, .slice n bW s, .slice o bX t, .slice p bY u]] w (dA fun v w'=> ∃ B0 b0,v= .tuple #[.slice B0 r0.length b0,vI r1]∧Own w D w' [row B0 r0.length b0 (q4 eB r0) 5 1]∧(r0.length≤100000)):=by
 subst dL dM dN
 have iJ:=aA aB
 have iK:=aA aC
 refine cb Tryz.func54 ?_
 refine sr ?_
 refine dn [vI a.au,vU a.ax,vU a.bG,vU a.aF, .slice n a.ag.ls.length s, .slice o a.ak.ls.length t, .slice p a.aK.ls.length u] 33 H ?_
 intro I lm fI
 refine Az rfl (An rfl (Ik (sr (La ([vI a.au,vU a.ax,vU a.bG,vU a.aF, .slice n a.ag.ls.length s, .slice o a.ak.ls.length t, .slice p a.aK.ls.length u]) fI 0 Tryz.isAgg33 Tryz.sizeOf33 ?_))))
 obtain⟨aL,aJ⟩:∃ q,gq a=q:=⟨_,rfl⟩
 obtain⟨lq,fJ,L,fK,jS⟩:=Iu fI
 refine cl Tryz.call19 (oC _ _ a n a.ag.ls.length s o a.ak.ls.length t aa p a.aK.ls.length u ag aL fJ rfl (L _ U) (show a.ag.ls.length≤s∧a.ag.ls.length≤9223372036854775807 from by omega) aB rfl (L _ V) (show a.ak.ls.length≤t∧a.ak.ls.length≤9223372036854775807 from by omega) (fun x9 h9=>⟨L _ (W x9 h9).1,(W x9 h9).2⟩) aC rfl (L _ X) (show a.aK.ls.length≤u∧a.aK.ls.length≤9223372036854775807 from by omega) (fun x9 h9=>⟨L _ (C x9 h9).1,(C x9 h9).2.1,(fun y1 k1=>⟨L _ ((C x9 h9).2.2 y1 k1).1,((C x9 h9).2.2 y1 k1).2⟩)⟩) e8 aJ) ?_
 rintro _ iQ ⟨rfl,fM⟩
 have fO:=fK _ _ fM
 refine Ar rfl (Mz rfl (fw (.bool (decide (¬ (aL=0)))) (IM (e:= !(decide (aL=0))) yk decide_not.symm) (nt ?_)))
 by_cases bR:aL=0
 refine jF (dF (Lr bR)) (sk (sr ?_))
 have B:=AB (by rw [aJ]; omega) iP
 have jW:a.ag.ls.length≤6:=B.1
 have jX:a.ak.ls.length≤8:=B.2.2.1
 have jY:a.aK.ls.length≤4:=B.2.2.2.2.1
 have jZ:a.ax≤18446744073709551615:=B.2.2.2.2.2.2.1
 have j3:a.bG≤18446744073709551615:=B.2.2.2.2.2.2.2.1
 have j4:a.aF≤18446744073709551615:=B.2.2.2.2.2.2.2.2
 refine jV [.int .u8 67] 5 1 1 fO ?_
 intro bT lu dO
 replace dO:=IX (y:=row bT 1 1 (q4 eB ([67])) 5 1) rfl dO
 refine Kz (.agg #[.slice bT 1 1]) ?_
 refine dn [.slice bT 1 1] 159 dO ?_
 intro f lv fP
 refine Ar rfl (Mz rfl (Kz (vP I 0) (Lz (vI a.au) fP 2 Tryz.isAgg3 ?_)))
 refine WL.do rfl (IP P0 rfl ?_ (fun _ _ k=>k))
 refine cb P1 ?_
 refine Il (Mz rfl (Mz rfl ?_))
 have j5:C6 (C7.wrap a.au)≤18446744073709551615:=lV _
 refine fw (vU (C6 (C7.wrap a.au))) (Ir (e:=C7.wrap a.au) yk (fB _)) ?_
 obtain⟨aN,cu⟩:∃ q,bS (dz.mk (E0 ([67]))) (C6 (C7.wrap a.au))=q:=⟨_,rfl⟩
 obtain⟨lw,fQ,j6,fT,kg⟩:=IV fP
 refine cl P2 (dJ _ _ f (dz.mk (E0 ([67]))) bT 1 (C6 (C7.wrap a.au)) aN fQ f4 cu) ?_
 rintro _ lC ⟨iR,iT,rfl,fU,cz⟩
 have aO:=fT _ _ fU
 have ko:=aO.rowC (i:=1) rfl
 replace cz:aN.xb.ls.length≤1+10:=cz
 refine C4 (IL (res0 rfl) (ns (Mz rfl (Kz (.func (.func 79) #[vP f 0] #[]) (Kz (vP I 1) (Lz (vU a.ax) aO 2 D2 (Kz (vP I 2) (Lz (vU a.bG) aO 2 D2 (Kz (vP I 3) (Lz (vU a.aF) aO 2 D2 ?_))))))))))
 refine jV [vU a.ax,vU a.bG,vU a.aF] 28 1 3 aO ?_
 intro E lD aP
 replace aP:=IX (y:=row E 3 3 (q4 (eN .u64) ([a.ax,a.bG,a.aF])) 28 1) rfl aP
 refine WL.do rfl (IP Tryz.call78 rfl ?_ (fun _ _ k=>k))
 refine cb Tryz.func78 ?_
 refine sr (Mz rfl (Kz (vI 3) (Mn rfl (bo (JG 200 (sr (Kz (.bool true) (nt (Ik (jt (sk (Ik (bo (sr ?_))))))))))))))
 have fV:([a.ax,a.bG,a.aF]:List Nat)[0]? =some a.ax:=rfl
 refine fw (.pointer (some ⟨ab E,ao E+0 *1,none⟩)) (Iz (xc) rfl rfl ((aP.rds (i:=0) rfl).addr (i:=0) e6) e6) (fw (vU a.ax) (IB rfl (bJ.one D2 (((aP.rds (i:=0) rfl).elem rG fV f2).at_ (k:=0) rfl))) (An rfl (Il (Mz rfl (Mz rfl ?_)))))
 have iU:=aP.pb [0,3]
 obtain⟨aQ,cB⟩:∃ q,bS aN a.ax=q:=⟨_,rfl⟩
 obtain⟨lF,fZ,kr,gm,ku⟩:=IV iU
 refine WL.do rfl (IY P2 rfl rfl (dJ _ _ f aN iR iT a.ax aQ fZ f4 cB) ?_)
 rintro _ lG ⟨iV,iW,rfl,gp,cK⟩
 have bU:=gm _ _ gp
 have kv:=bU.rowC (i:=1) rfl
 replace cK:aQ.xb.ls.length≤aN.xb.ls.length+10:=cK
 refine C4 (bN (Iq (Il (Kz (vI 1) (Mz rfl (C4 (Jh [(8,vI 1),(7,vI 3),(6, .slice E 3 3),(0, .func (.func 79) #[vP f 0] #[])] ⟨rfl,rfl,rfl,rfl,trivial⟩ (sr (Kz (.bool true) (nt (Ik (jt (sk (Ik (bo (sr ?_))))))))))))))))
 have gu:([a.ax,a.bG,a.aF]:List Nat)[1]? =some a.bG:=rfl
 refine fw (.pointer (some ⟨ab E,ao E+1 *1,none⟩)) (Iz (xc) rfl rfl ((bU.rds (i:=2) rfl).addr (i:=1) e6) e6) (fw (vU a.bG) (IB rfl (bJ.one D2 (((bU.rds (i:=2) rfl).elem rG gu f2).at_ (k:=0) rfl))) (An rfl (Il (Mz rfl (Mz rfl ?_)))))
 obtain⟨aR,cO⟩:∃ q,bS aQ a.bG=q:=⟨_,rfl⟩
 obtain⟨lI,gy,kw,gz,ky⟩:=IV bU
 refine WL.do rfl (IY P2 rfl rfl (dJ _ _ f aQ iV iW a.bG aR gy f4 cO) ?_)
 rintro _ lJ ⟨iX,iY,rfl,gB,cZ⟩
 have bV:=gz _ _ gB
 have kz:=bV.rowC (i:=1) rfl
 replace cZ:aR.xb.ls.length≤aQ.xb.ls.length+10:=cZ
 refine C4 (bN (Iq (Il (Kz (vI 2) (Mz rfl (C4 (Jh [(8,vI 2),(7,vI 3),(6, .slice E 3 3),(0, .func (.func 79) #[vP f 0] #[])] ⟨rfl,rfl,rfl,rfl,trivial⟩ (sr (Kz (.bool true) (nt (Ik (jt (sk (Ik (bo (sr ?_))))))))))))))))
 have gD:([a.ax,a.bG,a.aF]:List Nat)[2]? =some a.aF:=rfl
 refine fw (.pointer (some ⟨ab E,ao E+2 *1,none⟩)) (Iz (xc) rfl rfl ((bV.rds (i:=2) rfl).addr (i:=2) e6) e6) (fw (vU a.aF) (IB rfl (bJ.one D2 (((bV.rds (i:=2) rfl).elem rG gD f2).at_ (k:=0) rfl))) (An rfl (Il (Mz rfl (Mz rfl ?_)))))
 obtain⟨ai,aT⟩:∃ q,bS aR a.aF=q:=⟨_,rfl⟩
 obtain⟨lK,gF,iZ,dP,ja⟩:=IV bV
 refine WL.do rfl (IY P2 rfl rfl (dJ _ _ f aR iX iY a.aF ai gF f4 aT) ?_)
 rintro _ kC ⟨gG,gH,rfl,dQ,aV⟩
 have aW:=dP _ _ dQ
 have jb:=aW.rowC (i:=1) rfl
 replace aV:ai.xb.ls.length≤aR.xb.ls.length+10:=aV
 refine C4 (bN (Iq (Il (Kz (vI 3) (Mz rfl (C4 (Jh [(8,vI 3),(7,vI 3),(6, .slice E 3 3),(0, .func (.func 79) #[vP f 0] #[])] ⟨rfl,rfl,rfl,rfl,trivial⟩ (sr (Kz (.bool false) (nt (Ik (jf (C5 (IC (IC (IK (IL (res0 rfl) (ns (Mz rfl (Kz (vP I 4) (Lz (.slice n a.ag.ls.length s) aW 3 Tryz.isAgg29 (Mz rfl (Kz (.func (.func 81) #[vP f 0] #[]) ?_)))))))))))))))))))))))
 refine WL.do rfl (IP Tryz.call80 rfl ?_ (fun _ _ k=>k))
 refine cb Tryz.func80 ?_
 refine sr (Mz rfl (Mz rfl (Kz (vJ a.ag.ls.length) ?_)))
 refine WL.do rfl (IP P0 rfl ?_ (fun _ _ k=>k))
 refine cb P1 ?_
 refine Il (Mz rfl (Mz rfl (fw (vU a.ag.ls.length) (Ir (e:=C7.wrap ((a.ag.ls.length:Nat):Int)) yk (IntWalk.u64_in _ e6)) ?_)))
 obtain⟨M,aZ⟩:∃ q,bS ai a.ag.ls.length=q:=⟨_,rfl⟩
 obtain⟨kD,dR,jc,dS,jd⟩:=IV aW
 refine cl P2 (dJ _ _ f ai gG gH a.ag.ls.length M dR f4 aZ) ?_
 rintro _ kE ⟨gI,gJ,rfl,dU,bf⟩
 have di:=dS _ _ dU
 have je:=di.rowC (i:=1) rfl
 replace bf:M.xb.ls.length≤ai.xb.ls.length+10:=bf
 refine C4 (IL (res0 rfl) (nt (Il (Mz rfl (Mz rfl ?_)))))
 refine WL.do rfl (IP Tryz.call118 rfl ?_ (fun _ _ k=>k))
 refine cb Tryz.func118 ?_
 refine sr (Mz rfl (Kz (vJ a.ag.ls.length) (Mn rfl (bo ?_))))
 have gK:=di.pb [1]
 obtain⟨gL,aD⟩:=tq fun (g:Nat) aj (ak:Nat) l w'=>Own w D w' [blk f [.slice aj l.length ak] 159,row E 3 3 (q4 (eN .u64) ([a.ax,a.bG,a.aF])) 28 1,blk I [vI a.au,vU a.ax,vU a.bG,vU a.aF, .slice n a.ag.ls.length s, .slice o a.ak.ls.length t, .slice p a.aK.ls.length u] 33,row aj l.length ak (q4 eB l) 5 1]∧g≤a.ag.ls.length∧((l.length:Nat):Int)≤((M.xb.ls.length:Nat):Int)+40 *((g:Nat):Int)∧jE a a.ag.ls M.xb.ls=jE a (r4 g a.ag.ls) l
 refine Wp.loop (fun i:Nat × (Option Addr) × Nat × (List UInt8)=> [(8,vJ i.1),(7,vJ a.ag.ls.length),(6, .slice n a.ag.ls.length s),(0, .func (.func 81) #[vP f 0] #[])]) gL (fun i=>a.ag.ls.length - i.1) (0,gI,gJ,M.xb.ls) ⟨rfl,rfl,rfl,rfl,trivial⟩ (aD.2 ⟨gK,e6,e6,rfl⟩) ?_
 rintro ⟨g,aj,ak,l⟩ kF dV
 obtain⟨N,jg,jh,bg⟩:=aD.1 dV
 refine sr (Kz (.bool (decide (((g:Nat):Int) < ((a.ag.ls.length:Nat):Int)))) (nt (Ik ?_)))
 by_cases dm:((g:Nat):Int) < ((a.ag.ls.length:Nat):Int)
 obtain⟨J,aF⟩:=dh (ls:=a.ag.ls) (i:=g) aM.len f2 (N.ro U) e9
 have dW:J.aJ.length≤12:=B.2.1 _ (D1 aF)
 have dX:=drop_at aF
 refine jT (dT dm) (sk (Ik (bo (sr (fw (.pointer (some ⟨ab n,ao n+g *2,none⟩)) (Iz (nE) rfl rfl ((N.ro U).addr (i:=g) e6) e6) (fw (.agg (aM.cells J).toArray) (IB rfl (IJ (cs:=(aM.cells J)) Tryz.isAgg89 P3 ((N.ro U).elem aM.len aF f2))) ?_))))))
 refine dn [.string ⟨List.toArray ([])⟩,vI 0] 89 N ?_
 intro kG kH gM
 refine df (aM.cells J) 0 gM P3 ?_
 intro kI dw
 refine nt (Il (Mz rfl (La (aM.cells J) dw 0 Tryz.isAgg89 P3 ?_)))
 have gN:=dw.pf [1,4]
 obtain⟨bi,bn⟩:∃ q,oP (dz.mk (E0 l)) J=q:=⟨_,rfl⟩
 obtain⟨kJ,dY,jk,d9,jl⟩:=IV gN
 refine WL.do rfl (IY Tryz.call81 rfl rfl (um _ _ f (dz.mk (E0 l)) aj ak J bi dY f4 (by exact dW) bn) ?_)
 rintro _ kK ⟨gP,gQ,rfl,ed,bq⟩
 have dx:=d9 _ _ ed
 have jm:=dx.rowC (i:=1) rfl
 replace bq:bi.xb.ls.length≤l.length+40:=bq
 refine C4 (bN (Iq (Il (fw (vJ (g+1)) (Ir (e:=C3.wrap (((g:Nat):Int)+1)) yk f0) (Mz rfl (C4 ?_))))))
 have gT:=dx.px [] [2] [1]
 exact II (g+1,gP,gQ,bi.xb.ls) ⟨rfl,rfl,rfl,rfl,trivial⟩ (aD.2 ⟨gT,e6,e6,et (bg) (et (congrArg (fun q=>jE a q l) dX) (ae bn))⟩) (by show a.ag.ls.length - (g+1) < a.ag.ls.length - g; omega)
 refine jF (dF dm) (C5 (IC ?_))
 have ek:jE a a.ag.ls M.xb.ls=l:=et (bg) (et (congrArg (fun q=>jE a q l) (dZ (ls:=a.ag.ls) (i:=g) e6)) rfl)
 refine IC (IK (IL (res0 rfl) (C4 (IL (res0 rfl) (ns (Mz rfl (Kz (vP I 5) (Lz (.slice o a.ak.ls.length t) N 2 Tryz.isAgg30 (Mz rfl (Kz (.func (.func 83) #[vP f 0] #[]) ?_))))))))))
 refine WL.do rfl (IP Tryz.call82 rfl ?_ (fun _ _ k=>k))
 refine cb Tryz.func82 ?_
 refine sr (Mz rfl (Mz rfl (Kz (vJ a.ak.ls.length) ?_)))
 refine WL.do rfl (IP P0 rfl ?_ (fun _ _ k=>k))
 refine cb P1 ?_
 refine Il (Mz rfl (Mz rfl (fw (vU a.ak.ls.length) (Ir (e:=C7.wrap ((a.ak.ls.length:Nat):Int)) yk (IntWalk.u64_in _ e6)) ?_)))
 have gU:=N.pb [1,2]
 obtain⟨O,bu⟩:∃ q,bS (dz.mk (E0 l)) a.ak.ls.length=q:=⟨_,rfl⟩
 obtain⟨kL,eu,jo,eD,jq⟩:=IV gU
 refine cl P2 (dJ _ _ f (dz.mk (E0 l)) aj ak a.ak.ls.length O eu f4 bu) ?_
 rintro _ kN ⟨gV,gW,rfl,eF,bv⟩
 have dB:=eD _ _ eF
 have jr:=dB.rowC (i:=1) rfl
 replace bv:O.xb.ls.length≤l.length+10:=bv
 refine C4 (IL (res0 rfl) (nt (Il (Mz rfl (Mz rfl ?_)))))
 refine WL.do rfl (IP Tryz.call120 rfl ?_ (fun _ _ k=>k))
 refine cb Tryz.func120 ?_
 refine sr (Mz rfl (Kz (vJ a.ak.ls.length) (Mn rfl (bo ?_))))
 have gX:=dB.pb [1]
 obtain⟨gY,aG⟩:=tq fun (h:Nat) av (az:Nat) m w'=>Own w D w' [blk f [.slice av m.length az] 159,row E 3 3 (q4 (eN .u64) ([a.ax,a.bG,a.aF])) 28 1,blk I [vI a.au,vU a.ax,vU a.bG,vU a.aF, .slice n a.ag.ls.length s, .slice o a.ak.ls.length t, .slice p a.aK.ls.length u] 33,row av m.length az (q4 eB m) 5 1]∧h≤a.ak.ls.length∧((m.length:Nat):Int)≤((O.xb.ls.length:Nat):Int)+100 *((h:Nat):Int)∧jG a a.ak.ls O.xb.ls=jG a (r4 h a.ak.ls) m
 refine Wp.loop (fun i:Nat × (Option Addr) × Nat × (List UInt8)=> [(8,vJ i.1),(7,vJ a.ak.ls.length),(6, .slice o a.ak.ls.length t),(0, .func (.func 83) #[vP f 0] #[])]) gY (fun i=>a.ak.ls.length - i.1) (0,gV,gW,O.xb.ls) ⟨rfl,rfl,rfl,rfl,trivial⟩ (aG.2 ⟨gX,e6,e6,rfl⟩) ?_
 rintro ⟨h,av,az,m⟩ kP eG
 obtain⟨P,jv,jw,bz⟩:=aG.1 eG
 refine sr (Kz (.bool (decide (((h:Nat):Int) < ((a.ak.ls.length:Nat):Int)))) (nt (Ik ?_)))
 by_cases dC:((h:Nat):Int) < ((a.ak.ls.length:Nat):Int)
 obtain⟨d,Y⟩:=dh (ls:=aa) (i:=h) ay.len f2 (P.ro V) e9
 have bA:=eY aB Y
 have jy:=(W _ (D1 Y)).2
 have K:(ay.abs d).aX≤18446744073709551615∧(ay.abs d).ax≤18446744073709551615∧(ay.abs d).aU≤18446744073709551615∧s0 (ay.abs d).au.ls≤4:=B.2.2.2.1 _ (D1 bA)
 have hz201p0:d.aX≤18446744073709551615:=by have F:=K.1; first | exact F | (simp only [ay.abs,s3] at F; exact F)
 have hz201p1:d.ax≤18446744073709551615:=by have F:=K.2.1; first | exact F | (simp only [ay.abs,s3] at F; exact F)
 have hz201p2:d.aU≤18446744073709551615:=by have F:=K.2.2.1; first | exact F | (simp only [ay.abs,s3] at F; exact F)
 have hz201p3:d.au.ls.length≤4:=by have F:=K.2.2.2; first | exact F | (simp only [ay.abs,s3] at F; exact F)
 have eH:=drop_at bA
 refine jT (dT dC) (sk (Ik (bo (sr (fw (.pointer (some ⟨ab o,ao o+h *5,none⟩)) (Iz (kM) rfl rfl ((P.ro V).addr (i:=h) e6) e6) (fw (.agg (ay.cells d).toArray) (IB rfl (IJ (cs:=(ay.cells d)) Tryz.isAgg60 P4 ((P.ro V).elem ay.len Y f2))) ?_))))))
 refine dn [.int .u64 0,vI 0, .int .u64 0, .int .u64 0, .slice none 0 0] 60 P ?_
 intro kQ kR gZ
 refine df (ay.cells d) 0 gZ P4 ?_
 intro kS dD
 refine nt (Il (Mz rfl (La (ay.cells d) dD 0 Tryz.isAgg60 P4 ?_)))
 have ib:=dD.pf [1,4]
 obtain⟨bB,bC⟩:∃ q,nH (dz.mk (E0 m)) (bH.mk d.aX d.aP d.ax d.aU (E0 d.au.ls))=q:=⟨_,rfl⟩
 obtain⟨kT,eO,eQ,eT,jA⟩:=IV ib
 refine WL.do rfl (IY Tryz.call83 rfl rfl (sK _ _ f (dz.mk (E0 m)) av az (bH.mk d.aX d.aP d.ax d.aU (E0 d.au.ls)) d.au.A d.au.ls.length d.au.c bB eO rfl (eQ _ (W _ (D1 Y)).1) (show d.au.ls.length≤d.au.c∧d.au.ls.length≤9223372036854775807 from by omega) f4 (by exact K) bC) ?_)
 rintro _ kU ⟨ic,ig,rfl,eU,bD⟩
 have dE:=eT _ _ eU
 have jB:=dE.rowC (i:=1) rfl
 replace bD:bB.xb.ls.length≤m.length+100:=bD
 refine C4 (bN (Iq (Il (fw (vJ (h+1)) (Ir (e:=C3.wrap (((h:Nat):Int)+1)) yk f0) (Mz rfl (C4 ?_))))))
 have ik:=dE.px [] [2] [1]
 exact II (h+1,ic,ig,bB.xb.ls) ⟨rfl,rfl,rfl,rfl,trivial⟩ (aG.2 ⟨ik,e6,e6,et (bz) (et (congrArg (fun q=>jG a q m) eH) (ae bC))⟩) (by show a.ak.ls.length - (h+1) < a.ak.ls.length - h; omega)
 refine jF (dF dC) (C5 (IC ?_))
 have eX:jG a a.ak.ls O.xb.ls=m:=et (bz) (et (congrArg (fun q=>jG a q m) (dZ (ls:=a.ak.ls) (i:=h) e6)) rfl)
 refine IC (IK (IL (res0 rfl) (C4 (IL (res0 rfl) (ns (Mz rfl (Kz (vP I 6) (Lz (.slice p a.aK.ls.length u) P 2 Tryz.isAgg31 (Mz rfl (Kz (.func (.func 85) #[vP f 0] #[]) ?_))))))))))
 refine WL.do rfl (IP Tryz.call84 rfl ?_ (fun _ _ k=>k))
 refine cb Tryz.func84 ?_
 refine sr (Mz rfl (Mz rfl (Kz (vJ a.aK.ls.length) ?_)))
 refine WL.do rfl (IP P0 rfl ?_ (fun _ _ k=>k))
 refine cb P1 ?_
 refine Il (Mz rfl (Mz rfl (fw (vU a.aK.ls.length) (Ir (e:=C7.wrap ((a.aK.ls.length:Nat):Int)) yk (IntWalk.u64_in _ e6)) ?_)))
 have il:=P.pb [1,2]
 obtain⟨Q,bE⟩:∃ q,bS (dz.mk (E0 m)) a.aK.ls.length=q:=⟨_,rfl⟩
 obtain⟨kV,eZ,jC,fe,jD⟩:=IV il
 refine cl P2 (dJ _ _ f (dz.mk (E0 m)) av az a.aK.ls.length Q eZ f4 bE) ?_
 rintro _ kW ⟨iq,iw,rfl,fo,bF⟩
 have dG:=fe _ _ fo
 have jI:=dG.rowC (i:=1) rfl
 replace bF:Q.xb.ls.length≤m.length+10:=bF
 refine C4 (IL (res0 rfl) (nt (Il (Mz rfl (Mz rfl ?_)))))
 refine WL.do rfl (IP Tryz.call122 rfl ?_ (fun _ _ k=>k))
 refine cb Tryz.func122 ?_
 refine sr (Mz rfl (Kz (vJ a.aK.ls.length) (Mn rfl (bo ?_))))
 have iy:=dG.pb [1]
 obtain⟨iA,aI⟩:=tq fun (j:Nat) R (S:Nat) r w'=>Own w D w' [blk f [.slice R r.length S] 159,row E 3 3 (q4 (eN .u64) ([a.ax,a.bG,a.aF])) 28 1,blk I [vI a.au,vU a.ax,vU a.bG,vU a.aF, .slice n a.ag.ls.length s, .slice o a.ak.ls.length t, .slice p a.aK.ls.length u] 33,row R r.length S (q4 eB r) 5 1]∧j≤a.aK.ls.length∧((r.length:Nat):Int)≤((Q.xb.ls.length:Nat):Int)+8000 *((j:Nat):Int)∧jH a.aK.ls Q.xb.ls=jH (r4 j a.aK.ls) r
 refine Wp.loop (fun i:Nat × (Option Addr) × Nat × (List UInt8)=> [(8,vJ i.1),(7,vJ a.aK.ls.length),(6, .slice p a.aK.ls.length u),(0, .func (.func 85) #[vP f 0] #[])]) iA (fun i=>a.aK.ls.length - i.1) (0,iq,iw,Q.xb.ls) ⟨rfl,rfl,rfl,rfl,trivial⟩ (aI.2 ⟨iy,e6,e6,rfl⟩) ?_
 rintro ⟨j,R,S,r⟩ kX fq
 obtain⟨T,jJ,jK,bG⟩:=aI.1 fq
 refine sr (Kz (.bool (decide (((j:Nat):Int) < ((a.aK.ls.length:Nat):Int)))) (nt (Ik ?_)))
 by_cases dH:((j:Nat):Int) < ((a.aK.ls.length:Nat):Int)
 obtain⟨b,G⟩:=dh (ls:=ag) (i:=j) aS.len f2 (T.ro X) e9
 have bI:=eY aC G
 have jL:=(C _ (D1 G)).2.1
 have jM:s0 (s5 af.abs b.ah.ls)=b.ah.ls.length:=s3 ..
 have Z:(aS.abs b).ax≤18446744073709551615∧(aS.abs b).aU≤18446744073709551615∧s0 (aS.abs b).ah.ls≤24∧∀ z ∈ (aS.abs b).ah.ls,z.aG.length≤16∧z.aj.ls.length≤4∧∀ q ∈ z.aj.ls,q.aZ.length≤12∧q.aG.length≤16:=B.2.2.2.2.2.1 _ (D1 bI)
 have hz260p0:b.ax≤18446744073709551615:=by have F:=Z.1; first | exact F | (simp only [aS.abs,s3] at F; exact F)
 have hz260p1:b.aU≤18446744073709551615:=by have F:=Z.2.1; first | exact F | (simp only [aS.abs,s3] at F; exact F)
 have hz260p2:b.ah.ls.length≤24:=by have F:=Z.2.2.1; first | exact F | (simp only [aS.abs,s3] at F; exact F)
 have fu:=drop_at bI
 refine jT (dT dH) (sk (Ik (bo (sr (fw (.pointer (some ⟨ab p,ao p+j *4,none⟩)) (Iz (lW) rfl rfl ((T.ro X).addr (i:=j) e6) e6) (fw (.agg (aS.cells b).toArray) (IB rfl (IJ (cs:=(aS.cells b)) Tryz.isAgg56 P5 ((T.ro X).elem aS.len G f2))) ?_))))))
 refine dn [vI 0, .int .u64 0, .int .u64 0, .slice none 0 0] 56 T ?_
 intro kY kZ iB
 refine df (aS.cells b) 0 iB P5 ?_
 intro lc dI
 refine nt (Il (Mz rfl (La (aS.cells b) dI 0 Tryz.isAgg56 P5 ?_)))
 have iC:=dI.pf [1,4]
 obtain⟨bK,bL⟩:∃ q,pF (dz.mk (E0 r)) (fF.mk b.aP b.ax b.aU (E0 (s5 af.abs b.ah.ls)))=q:=⟨_,rfl⟩
 obtain⟨lg,fA,bM,fC,jN⟩:=IV iC
 refine WL.do rfl (IY Tryz.call85 rfl rfl (uG _ _ f (dz.mk (E0 r)) R S (fF.mk b.aP b.ax b.aU (E0 (s5 af.abs b.ah.ls))) b.ah.A b.ah.ls.length b.ah.c b.ah.ls bK fA (rfl:s5 af.abs b.ah.ls=s5 af.abs b.ah.ls) f1 (fun w9 h9=>sZ (aA (rfl:s5 af.abs b.ah.ls=s5 af.abs b.ah.ls)) ((bM _ (C _ (D1 G)).1) w9 h9)) (show s0 (s5 af.abs b.ah.ls)≤b.ah.c∧s0 (s5 af.abs b.ah.ls)≤9223372036854775807 from by omega) (fun x9 h9=>⟨bM _ ((C _ (D1 G)).2.2 x9 h9).1,((C _ (D1 G)).2.2 x9 h9).2⟩) f4 (by exact Z) bL) ?_)
 rintro _ lh ⟨iD,iE,rfl,fE,bO⟩
 have dK:=fC _ _ fE
 have jO:=dK.rowC (i:=1) rfl
 replace bO:bK.xb.ls.length≤r.length+8000:=bO
 refine C4 (bN (Iq (Il (fw (vJ (j+1)) (Ir (e:=C3.wrap (((j:Nat):Int)+1)) yk f0) (Mz rfl (C4 ?_))))))
 have iF:=dK.px [] [2] [1]
 exact II (j+1,iD,iE,bK.xb.ls) ⟨rfl,rfl,rfl,rfl,trivial⟩ (aI.2 ⟨iF,e6,e6,et (bG) (et (congrArg (fun q=>jH q r) fu) (ae bL))⟩) (by show a.aK.ls.length - (j+1) < a.aK.ls.length - j; omega)
 refine jF (dF dH) (C5 (IC ?_))
 have fG:jH a.aK.ls Q.xb.ls=r:=et (bG) (et (congrArg (fun q=>jH q r) (dZ (ls:=a.aK.ls) (i:=j) e6)) rfl)
 refine IC (IK (IL (res0 rfl) (C4 (IL (res0 rfl) (ns (Mz rfl (Kz (vP f 0) (Kz (vP f 0) (Lz (.slice R r.length S) T 0 Tryz.isAgg134 (Az rfl (An rfl (rt (Fin.res (lH rfl rfl rfl) ?_)))))))))))))
 have iG:=T.pk [3]
 obtain⟨rfl,rfl⟩:=fD (hr.symm.trans (show _=(r,0) from et (ae aJ) (et (ip bR) (et (ae cu) (et (ae cB) (et (ae cO) (et (ae aT) (et (ae aZ) (et (ae ek) (et (ae bu) (et (ae eX) (et (ae bE) (ae fG)))))))))))))
 exact⟨R,S,rfl,iG,(by first | omega | exact Lp _)⟩
 refine jT (dT bR) (sr (Mz rfl (Az rfl (An rfl (rt (tR (Fin.res (lH rfl rfl rfl) ?_)))))))
 have iH:Own w D iQ [row none 0 0 (q4 eB ([])) 5 1,blk I [vI a.au,vU a.ax,vU a.bG,vU a.aF, .slice n a.ag.ls.length s, .slice o a.ak.ls.length t, .slice p a.aK.ls.length u] 33]:=fO.free (eP 5 1)
 have iI:=iH.pk [0]
 obtain⟨rfl,rfl⟩:=fD (hr.symm.trans (show _=(([]:List UInt8),aL) from et (ae aJ) (iN bR)))
 exact⟨none,0,rfl,iI,(by first | omega | exact Lp _)⟩
end Go.Proofs.YtbkagebjhbphaaaGreat
