/-
 record: the coordinator's state as bytes.
-/
import Derived.Test.YtbkagebjhbphaaaGreatRb
namespace Go.Proofs.YtbkagebjhbphaaaGreat
set_option maxRecDepth 100000
open Go.RowKit
set_option linter.unusedVariables false
set_option linter.unusedSectionVars false
set_option linter.unusedSimpArgs false
def jC (e:dC):List bv→List UInt8→(List UInt8)
  | [],a=>a
  | c::d,a=>bnd (om (dN.mk (Ll.mk a)) c) fun b=>jC e d b.xb.ls
def jD (e:dC):List bL→List UInt8→(List UInt8)
  | [],b=>b
  | a::d,b=>bnd (mR (dN.mk (Ll.mk b)) (bL.mk a.bf a.aQ a.ay a.aU (Ll.mk a.au.ls))) fun c=>jD e d c.xb.ls
def jE:List fG→List UInt8→(List UInt8)
  | [],b=>b
  | a::d,b=>bnd (oI (dN.mk (Ll.mk b)) (fG.mk a.aQ a.ay a.aU (Ll.mk a.ah.ls))) fun c=>jE d c.xb.ls
def eu (a:dC):(List UInt8) × Int:=
 bnd (iY a) fun b=>if b=0 then bnd (bY (dN.mk (Ll.mk ([67]))) (Int.toNat (IntKind.u64.wrap a.au))) fun g=>bnd (bY g a.ay) fun h=>bnd (bY h a.aY) fun i=>bnd (bY i a.aH) fun c=>bnd (bY c a.ag.ls.length) fun d=>bnd (jC a a.ag.ls d.xb.ls) fun sLrbtbbbbbL=>bnd (bY (dN.mk (Ll.mk sLrbtbbbbbL)) a.aj.ls.length) fun e=>bnd (jD a a.aj.ls e.xb.ls) fun sLrbtbbbbbLabL=>bnd (bY (dN.mk (Ll.mk sLrbtbbbbbLabL)) a.aG.ls.length) fun f=>bnd (jE a.aG.ls f.xb.ls) fun sLrbtbbbbbLabLabL=>(sLrbtbbbbbLabLabL,0) else(([]:List UInt8),b)
set_option maxHeartbeats 4000000 in
theorem jX (w:World) (D:Nat→Prop) (a:dC) (n:Option Addr) (bU s:Nat) (o:Option Addr) (bV t:Nat) (aa:List az) (p:Option Addr) (bW u:Nat) (ae:List aX) (r0:List UInt8) (r1:Int) (H:Own w D w []) (dE:bU=a.ag.ls.length) (U:Ro w D fun w'=>bD w' 2 n a.ag.ls.length (List.flatMap bv.cells a.ag.ls)) (iL:a.ag.ls.length≤s∧a.ag.ls.length≤9223372036854775807) (aB:List.map az.abs aa=a.aj.ls) (dG:bV=a.aj.ls.length) (V:Ro w D fun w'=>bD w' 5 o a.aj.ls.length (List.flatMap az.cells aa)) (iM:a.aj.ls.length≤t∧a.aj.ls.length≤9223372036854775807) (W:∀ x ∈ aa,Ro w D (fun w'=>bD w' 1 x.au.A x.au.ls.length (List.flatMap (eI .i64) x.au.ls))∧(x.au.ls.length≤x.au.c∧x.au.ls.length≤9223372036854775807)) (aC:List.map aX.abs ae=a.aG.ls) (dH:bW=a.aG.ls.length) (X:Ro w D fun w'=>bD w' 4 p a.aG.ls.length (List.flatMap aX.cells ae)) (iO:a.aG.ls.length≤u∧a.aG.ls.length≤9223372036854775807) (C:∀ x ∈ ae,Ro w D (fun w'=>bD w' 3 x.ah.A x.ah.ls.length (List.flatMap af.cells x.ah.ls))∧(x.ah.ls.length≤x.ah.c∧x.ah.ls.length≤9223372036854775807)∧(∀ y1 ∈ x.ah.ls,Ro w D (fun w'=>bD w' 2 y1.av.A y1.av.ls.length (List.flatMap aL.cells y1.av.ls))∧(y1.av.ls.length≤y1.av.c∧y1.av.ls.length≤9223372036854775807))) (lm:a.ag.ls.length≤140737488355328∧a.aj.ls.length≤140737488355328∧a.aG.ls.length≤140737488355328) (iP:DT a) (hr:eu a=(r0,r1)):
    Calls Tryz.prog 54 #[.agg #[vI a.au,vU a.ay,vU a.aY,vU a.aH, .slice n bU s, .slice o bV t, .slice p bW u]] w (dW fun v w'=> ∃ (B0:Option Addr) (b0:Nat),v= .tuple #[.slice B0 r0.length b0,vI r1]∧Own w D w' [row B0 r0.length b0 (List.flatMap eB r0) 5 1]∧(r0.length≤100000)):=by
 subst dE dG dH
 have iJ:=aA aB
 have iK:=aA aC
 refine cb Tryz.func54 ?_
 refine sr ?_
 refine dP [vI a.au,vU a.ay,vU a.aY,vU a.aH, .slice n a.ag.ls.length s, .slice o a.aj.ls.length t, .slice p a.aG.ls.length u] 33 H ?_
 intro I lq fI
 refine Az rfl (An rfl (EP (sr (La ([vI a.au,vU a.ay,vU a.aY,vU a.aH, .slice n a.ag.ls.length s, .slice o a.aj.ls.length t, .slice p a.aG.ls.length u]) fI 0 Tryz.isAgg33 Tryz.sizeOf33 ?_))))
 obtain⟨aK,aI⟩:∃ q,iY a=q:=⟨_,rfl⟩
 obtain⟨lu,fJ,L,fK,jS⟩:=EU fI
 refine cl Tryz.call19 (nN _ _ a n a.ag.ls.length s o a.aj.ls.length t aa p a.aG.ls.length u ae aK fJ rfl (L _ U) (show a.ag.ls.length≤s∧a.ag.ls.length≤9223372036854775807 from by omega) aB rfl (L _ V) (show a.aj.ls.length≤t∧a.aj.ls.length≤9223372036854775807 from by omega) (fun x9 h9=>⟨L _ (W x9 h9).1,(W x9 h9).2⟩) aC rfl (L _ X) (show a.aG.ls.length≤u∧a.aG.ls.length≤9223372036854775807 from by omega) (fun x9 h9=>⟨L _ (C x9 h9).1,(C x9 h9).2.1,(fun y1 k1=>⟨L _ ((C x9 h9).2.2 y1 k1).1,((C x9 h9).2.2 y1 k1).2⟩)⟩) (by first | omega | (dsimp only; omega) | (simp only [List.length_nil]; omega) | decide) aI) ?_
 rintro _ iQ ⟨rfl,fM⟩
 have fO:=fK _ _ fM
 refine Ar rfl (Mz rfl (fw (.bool (decide (¬ (aK=0)))) (Fq (e:= !(decide (aK=0))) yk decide_not.symm) (nt ?_)))
 by_cases bQ:aK=0
 refine jF (dF (IV bQ)) (sk (sr ?_))
 have B:=D6 (by rw [aI]; omega) iP
 have jV:a.ag.ls.length≤6:=B.1
 have jW:a.aj.ls.length≤8:=B.2.2.1
 have jY:a.aG.ls.length≤4:=B.2.2.2.2.1
 have jZ:a.ay≤18446744073709551615:=B.2.2.2.2.2.2.1
 have j3:a.aY≤18446744073709551615:=B.2.2.2.2.2.2.2.1
 have j4:a.aH≤18446744073709551615:=B.2.2.2.2.2.2.2.2
 refine kG [.int .u8 67] 5 1 1 fO ?_
 intro bR lv dI
 replace dI:=Fx (y:=row bR 1 1 (List.flatMap eB ([67])) 5 1) rfl dI
 refine Kz (.agg #[.slice bR 1 1]) ?_
 refine dP [.slice bR 1 1] 159 dI ?_
 intro f lw fP
 refine Ar rfl (Mz rfl (Kz (vP I 0) (Lz (vI a.au) fP 2 Tryz.isAgg3 ?_)))
 refine WL.do rfl (Fe Tryz.call77 rfl ?_ (fun _ _ k=>k))
 refine cb Tryz.func77 ?_
 refine EO (Mz rfl (Mz rfl ?_))
 have j5:Int.toNat (IntKind.u64.wrap a.au)≤18446744073709551615:=l7 _
 refine fw (vU (Int.toNat (IntKind.u64.wrap a.au))) (EQ (e:=IntKind.u64.wrap a.au) yk (fq _)) ?_
 obtain⟨aM,bX⟩:∃ q,bY (dN.mk (Ll.mk ([67]))) (Int.toNat (IntKind.u64.wrap a.au))=q:=⟨_,rfl⟩
 obtain⟨lC,fQ,j6,fU,kg⟩:=Fv fP
 refine cl Tryz.call79 (dU _ _ f (dN.mk (Ll.mk ([67]))) bR 1 (Int.toNat (IntKind.u64.wrap a.au)) aM fQ (by first | omega | (dsimp only; omega) | (dsimp only [List.length_cons,List.length_nil]; omega)) bX) ?_
 rintro _ lD ⟨iR,iT,rfl,fV,cu⟩
 have aN:=fU _ _ fV
 have ko:=aN.rowC (i:=1) rfl
 replace cu:aM.xb.ls.length≤1+10:=cu
 refine WL.nil (Ff (res0 rfl) (ns (Mz rfl (Kz (.func (.func 79) #[vP f 0] #[]) (Kz (vP I 1) (Lz (vU a.ay) aN 2 Tryz.isAgg28 (Kz (vP I 2) (Lz (vU a.aY) aN 2 Tryz.isAgg28 (Kz (vP I 3) (Lz (vU a.aH) aN 2 Tryz.isAgg28 ?_))))))))))
 refine kG [vU a.ay,vU a.aY,vU a.aH] 28 1 3 aN ?_
 intro E lF aO
 replace aO:=Fx (y:=row E 3 3 (List.flatMap (eN .u64) ([a.ay,a.aY,a.aH])) 28 1) rfl aO
 refine WL.do rfl (Fe Tryz.call78 rfl ?_ (fun _ _ k=>k))
 refine cb Tryz.func78 ?_
 refine sr (Mz rfl (Kz (vI 3) (Mn rfl (bo (Gh 200 (sr (Kz (.bool true) (nt (EP (jt (sk (EP (bo (sr ?_))))))))))))))
 have fZ:([a.ay,a.aY,a.aH]:List Nat)[0]? =some a.ay:=rfl
 refine fw (.pointer (some ⟨ab E,ao E+0 *1,none⟩)) (ET (sO) rfl rfl ((aO.rds (i:=0) rfl).addr (i:=0) (by omega)) (by omega)) (fw (vU a.ay) (EY rfl (bZ.one Tryz.isAgg28 (((aO.rds (i:=0) rfl).elem nV fZ (by decide)).at_ (k:=0) rfl))) (An rfl (EO (Mz rfl (Mz rfl ?_)))))
 have iU:=aO.pb [0,3]
 obtain⟨aP,cz⟩:∃ q,bY aM a.ay=q:=⟨_,rfl⟩
 obtain⟨lG,gm,kr,gp,ku⟩:=Fv iU
 refine WL.do rfl (Fw Tryz.call79 rfl rfl (dU _ _ f aM iR iT a.ay aP gm (by first | omega | (dsimp only; omega) | (dsimp only [List.length_cons,List.length_nil]; omega)) cz) ?_)
 rintro _ lH ⟨iV,iW,rfl,gq,cB⟩
 have bS:=gp _ _ gq
 have kw:=bS.rowC (i:=1) rfl
 replace cB:aP.xb.ls.length≤aM.xb.ls.length+10:=cB
 refine WL.nil (bN (ER (EO (Kz (vI 1) (Mz rfl (WL.nil (FR [(8,vI 1),(7,vI 3),(6, .slice E 3 3),(0, .func (.func 79) #[vP f 0] #[])] ⟨rfl,rfl,rfl,rfl,trivial⟩ (sr (Kz (.bool true) (nt (EP (jt (sk (EP (bo (sr ?_))))))))))))))))
 have gu:([a.ay,a.aY,a.aH]:List Nat)[1]? =some a.aY:=rfl
 refine fw (.pointer (some ⟨ab E,ao E+1 *1,none⟩)) (ET (sO) rfl rfl ((bS.rds (i:=2) rfl).addr (i:=1) (by omega)) (by omega)) (fw (vU a.aY) (EY rfl (bZ.one Tryz.isAgg28 (((bS.rds (i:=2) rfl).elem nV gu (by decide)).at_ (k:=0) rfl))) (An rfl (EO (Mz rfl (Mz rfl ?_)))))
 obtain⟨aQ,cK⟩:∃ q,bY aP a.aY=q:=⟨_,rfl⟩
 obtain⟨lJ,gy,ky,gz,kz⟩:=Fv bS
 refine WL.do rfl (Fw Tryz.call79 rfl rfl (dU _ _ f aP iV iW a.aY aQ gy (by first | omega | (dsimp only; omega) | (dsimp only [List.length_cons,List.length_nil]; omega)) cK) ?_)
 rintro _ lK ⟨iX,iZ,rfl,gB,cO⟩
 have bT:=gz _ _ gB
 have kC:=bT.rowC (i:=1) rfl
 replace cO:aQ.xb.ls.length≤aP.xb.ls.length+10:=cO
 refine WL.nil (bN (ER (EO (Kz (vI 2) (Mz rfl (WL.nil (FR [(8,vI 2),(7,vI 3),(6, .slice E 3 3),(0, .func (.func 79) #[vP f 0] #[])] ⟨rfl,rfl,rfl,rfl,trivial⟩ (sr (Kz (.bool true) (nt (EP (jt (sk (EP (bo (sr ?_))))))))))))))))
 have gD:([a.ay,a.aY,a.aH]:List Nat)[2]? =some a.aH:=rfl
 refine fw (.pointer (some ⟨ab E,ao E+2 *1,none⟩)) (ET (sO) rfl rfl ((bT.rds (i:=2) rfl).addr (i:=2) (by omega)) (by omega)) (fw (vU a.aH) (EY rfl (bZ.one Tryz.isAgg28 (((bT.rds (i:=2) rfl).elem nV gD (by decide)).at_ (k:=0) rfl))) (An rfl (EO (Mz rfl (Mz rfl ?_)))))
 obtain⟨ag,aR⟩:∃ q,bY aQ a.aH=q:=⟨_,rfl⟩
 obtain⟨lL,gF,ja,dJ,jb⟩:=Fv bT
 refine WL.do rfl (Fw Tryz.call79 rfl rfl (dU _ _ f aQ iX iZ a.aH ag gF (by first | omega | (dsimp only; omega) | (dsimp only [List.length_cons,List.length_nil]; omega)) aR) ?_)
 rintro _ kD ⟨gG,gH,rfl,dL,aS⟩
 have aT:=dJ _ _ dL
 have jc:=aT.rowC (i:=1) rfl
 replace aS:ag.xb.ls.length≤aQ.xb.ls.length+10:=aS
 refine WL.nil (bN (ER (EO (Kz (vI 3) (Mz rfl (WL.nil (FR [(8,vI 3),(7,vI 3),(6, .slice E 3 3),(0, .func (.func 79) #[vP f 0] #[])] ⟨rfl,rfl,rfl,rfl,trivial⟩ (sr (Kz (.bool false) (nt (EP (jf (Wp.exit (EX (EX (Fg (Ff (res0 rfl) (ns (Mz rfl (Kz (vP I 4) (Lz (.slice n a.ag.ls.length s) aT 3 Tryz.isAgg29 (Mz rfl (Kz (.func (.func 81) #[vP f 0] #[]) ?_)))))))))))))))))))))))
 refine WL.do rfl (Fe Tryz.call80 rfl ?_ (fun _ _ k=>k))
 refine cb Tryz.func80 ?_
 refine sr (Mz rfl (Mz rfl (Kz (vJ a.ag.ls.length) ?_)))
 refine WL.do rfl (Fe Tryz.call77 rfl ?_ (fun _ _ k=>k))
 refine cb Tryz.func77 ?_
 refine EO (Mz rfl (Mz rfl (fw (vU a.ag.ls.length) (EQ (e:=IntKind.u64.wrap ((a.ag.ls.length:Nat):Int)) yk (IntWalk.u64_in _ (by omega))) ?_)))
 obtain⟨M,aV⟩:∃ q,bY ag a.ag.ls.length=q:=⟨_,rfl⟩
 obtain⟨kE,dM,jd,dQ,je⟩:=Fv aT
 refine cl Tryz.call79 (dU _ _ f ag gG gH a.ag.ls.length M dM (by first | omega | (dsimp only; omega) | (dsimp only [List.length_cons,List.length_nil]; omega)) aV) ?_
 rintro _ kF ⟨gI,gJ,rfl,dR,aW⟩
 have cZ:=dQ _ _ dR
 have jg:=cZ.rowC (i:=1) rfl
 replace aW:M.xb.ls.length≤ag.xb.ls.length+10:=aW
 refine WL.nil (Ff (res0 rfl) (nt (EO (Mz rfl (Mz rfl ?_)))))
 refine WL.do rfl (Fe Tryz.call118 rfl ?_ (fun _ _ k=>k))
 refine cb Tryz.func118 ?_
 refine sr (Mz rfl (Kz (vJ a.ag.ls.length) (Mn rfl (bo ?_))))
 have gK:=cZ.pb [1]
 obtain⟨gL,aD⟩:=rD fun(g:Nat) (aj:Option Addr) (ak:Nat) (l:List UInt8) (w':World)=>Own w D w' [blk f [.slice aj l.length ak] 159,row E 3 3 (List.flatMap (eN .u64) ([a.ay,a.aY,a.aH])) 28 1,blk I [vI a.au,vU a.ay,vU a.aY,vU a.aH, .slice n a.ag.ls.length s, .slice o a.aj.ls.length t, .slice p a.aG.ls.length u] 33,row aj l.length ak (List.flatMap eB l) 5 1]∧g≤a.ag.ls.length∧((l.length:Nat):Int)≤((M.xb.ls.length:Nat):Int)+40 *((g:Nat):Int)∧jC a a.ag.ls M.xb.ls=jC a (List.drop g a.ag.ls) l
 refine Wp.loop (fun i:Nat × (Option Addr) × Nat × (List UInt8)=> [(8,vJ i.1),(7,vJ a.ag.ls.length),(6, .slice n a.ag.ls.length s),(0, .func (.func 81) #[vP f 0] #[])]) gL (fun i=>a.ag.ls.length - i.1) (0,gI,gJ,M.xb.ls) ⟨rfl,rfl,rfl,rfl,trivial⟩ (aD.2 ⟨gK,by omega,by omega,rfl⟩) ?_
 rintro ⟨g,aj,ak,l⟩ kH dS
 show Wp _ _ _ [(8,vJ g),(7,vJ a.ag.ls.length),(6, .slice n a.ag.ls.length s),(0, .func (.func 81) #[vP f 0] #[])] _ _
 obtain⟨N,jh,ji,aY⟩:=aD.1 dS
 refine sr (Kz (.bool (decide (((g:Nat):Int) < ((a.ag.ls.length:Nat):Int)))) (nt (EP ?_)))
 by_cases df:((g:Nat):Int) < ((a.ag.ls.length:Nat):Int)
 obtain⟨J,aF⟩:=dK (ls:=a.ag.ls) (i:=g) bv.len (by decide) (N.ro U) (by first | omega | (simp; done) | (simp; omega))
 have dV:J.bJ.length≤12:=B.2.1 _ (List.mem_of_getElem? aF)
 have dX:=drop_at aF
 refine jT (dT df) (sk (EP (bo (sr (fw (.pointer (some ⟨ab n,ao n+g *2,none⟩)) (ET (pX) rfl rfl ((N.ro U).addr (i:=g) (by omega)) (by omega)) (fw (.agg (bv.cells J).toArray) (EY rfl (Fb (cs:=(bv.cells J)) Tryz.isAgg89 Tryz.sizeOf89 ((N.ro U).elem bv.len aF (by decide)))) ?_))))))
 refine dP [.string ⟨List.toArray ([])⟩,vI 0] 89 N ?_
 intro kI kJ gM
 refine dO (bv.cells J) 0 gM Tryz.sizeOf89 ?_
 intro kK dh
 refine nt (EO (Mz rfl (La (bv.cells J) dh 0 Tryz.isAgg89 Tryz.sizeOf89 ?_)))
 have gN:=dh.pf [1,4]
 obtain⟨aZ,bg⟩:∃ q,om (dN.mk (Ll.mk l)) J=q:=⟨_,rfl⟩
 obtain⟨kL,dY,jk,dZ,jl⟩:=Fv gN
 refine WL.do rfl (Fw Tryz.call81 rfl rfl (sU _ _ f (dN.mk (Ll.mk l)) aj ak J aZ dY (by first | omega | (dsimp only; omega) | (dsimp only [List.length_cons,List.length_nil]; omega)) (by exact dV) bg) ?_)
 rintro _ kM ⟨gP,gQ,rfl,d9,bi⟩
 have di:=dZ _ _ d9
 have jm:=di.rowC (i:=1) rfl
 replace bi:aZ.xb.ls.length≤l.length+40:=bi
 refine WL.nil (bN (ER (EO (fw (vJ (g+1)) (EQ (e:=IntKind.i64.wrap (((g:Nat):Int)+1)) yk (by rw [IR _ (by omega)]; omega)) (Mz rfl (WL.nil ?_))))))
 have gT:=di.px [] [2] [1]
 exact E8 (g+1,gP,gQ,aZ.xb.ls) ⟨rfl,rfl,rfl,rfl,trivial⟩ (aD.2 ⟨gT,by omega,by omega,et (aY) (et (congrArg (fun q=>jC a q l) dX) (ai bg))⟩) (by show a.ag.ls.length - (g+1) < a.ag.ls.length - g; omega)
 refine jF (dF df) (Wp.exit (EX ?_))
 have ed:jC a a.ag.ls M.xb.ls=l:=et (aY) (et (congrArg (fun q=>jC a q l) (eD (ls:=a.ag.ls) (i:=g) (by omega))) rfl)
 refine EX (Fg (Ff (res0 rfl) (WL.nil (Ff (res0 rfl) (ns (Mz rfl (Kz (vP I 5) (Lz (.slice o a.aj.ls.length t) N 2 Tryz.isAgg30 (Mz rfl (Kz (.func (.func 83) #[vP f 0] #[]) ?_))))))))))
 refine WL.do rfl (Fe Tryz.call82 rfl ?_ (fun _ _ k=>k))
 refine cb Tryz.func82 ?_
 refine sr (Mz rfl (Mz rfl (Kz (vJ a.aj.ls.length) ?_)))
 refine WL.do rfl (Fe Tryz.call77 rfl ?_ (fun _ _ k=>k))
 refine cb Tryz.func77 ?_
 refine EO (Mz rfl (Mz rfl (fw (vU a.aj.ls.length) (EQ (e:=IntKind.u64.wrap ((a.aj.ls.length:Nat):Int)) yk (IntWalk.u64_in _ (by omega))) ?_)))
 have gU:=N.pb [1,2]
 obtain⟨O,bn⟩:∃ q,bY (dN.mk (Ll.mk l)) a.aj.ls.length=q:=⟨_,rfl⟩
 obtain⟨kN,ek,jo,eF,jq⟩:=Fv gU
 refine cl Tryz.call79 (dU _ _ f (dN.mk (Ll.mk l)) aj ak a.aj.ls.length O ek (by first | omega | (dsimp only; omega) | (dsimp only [List.length_cons,List.length_nil]; omega)) bn) ?_
 rintro _ kP ⟨gV,gW,rfl,eG,bq⟩
 have dm:=eF _ _ eG
 have jr:=dm.rowC (i:=1) rfl
 replace bq:O.xb.ls.length≤l.length+10:=bq
 refine WL.nil (Ff (res0 rfl) (nt (EO (Mz rfl (Mz rfl ?_)))))
 refine WL.do rfl (Fe Tryz.call120 rfl ?_ (fun _ _ k=>k))
 refine cb Tryz.func120 ?_
 refine sr (Mz rfl (Kz (vJ a.aj.ls.length) (Mn rfl (bo ?_))))
 have gX:=dm.pb [1]
 obtain⟨gY,aG⟩:=rD fun(h:Nat) (av:Option Addr) (ax:Nat) (m:List UInt8) (w':World)=>Own w D w' [blk f [.slice av m.length ax] 159,row E 3 3 (List.flatMap (eN .u64) ([a.ay,a.aY,a.aH])) 28 1,blk I [vI a.au,vU a.ay,vU a.aY,vU a.aH, .slice n a.ag.ls.length s, .slice o a.aj.ls.length t, .slice p a.aG.ls.length u] 33,row av m.length ax (List.flatMap eB m) 5 1]∧h≤a.aj.ls.length∧((m.length:Nat):Int)≤((O.xb.ls.length:Nat):Int)+100 *((h:Nat):Int)∧jD a a.aj.ls O.xb.ls=jD a (List.drop h a.aj.ls) m
 refine Wp.loop (fun i:Nat × (Option Addr) × Nat × (List UInt8)=> [(8,vJ i.1),(7,vJ a.aj.ls.length),(6, .slice o a.aj.ls.length t),(0, .func (.func 83) #[vP f 0] #[])]) gY (fun i=>a.aj.ls.length - i.1) (0,gV,gW,O.xb.ls) ⟨rfl,rfl,rfl,rfl,trivial⟩ (aG.2 ⟨gX,by omega,by omega,rfl⟩) ?_
 rintro ⟨h,av,ax,m⟩ kQ eH
 show Wp _ _ _ [(8,vJ h),(7,vJ a.aj.ls.length),(6, .slice o a.aj.ls.length t),(0, .func (.func 83) #[vP f 0] #[])] _ _
 obtain⟨P,jv,jw,bu⟩:=aG.1 eH
 refine sr (Kz (.bool (decide (((h:Nat):Int) < ((a.aj.ls.length:Nat):Int)))) (nt (EP ?_)))
 by_cases dn:((h:Nat):Int) < ((a.aj.ls.length:Nat):Int)
 obtain⟨d,Y⟩:=dK (ls:=aa) (i:=h) az.len (by decide) (P.ro V) (by first | omega | (simp; done) | (simp; omega))
 have bz:=eQ aB Y
 have jy:=(W _ (List.mem_of_getElem? Y)).2
 have K:(az.abs d).bf≤18446744073709551615∧(az.abs d).ay≤18446744073709551615∧(az.abs d).aU≤18446744073709551615∧List.length (az.abs d).au.ls≤4:=B.2.2.2.1 _ (List.mem_of_getElem? bz)
 have hz201p0:d.bf≤18446744073709551615:=by have F:=K.1; first | exact F | (simp only [az.abs,List.length_map] at F; exact F)
 have hz201p1:d.ay≤18446744073709551615:=by have F:=K.2.1; first | exact F | (simp only [az.abs,List.length_map] at F; exact F)
 have hz201p2:d.aU≤18446744073709551615:=by have F:=K.2.2.1; first | exact F | (simp only [az.abs,List.length_map] at F; exact F)
 have hz201p3:d.au.ls.length≤4:=by have F:=K.2.2.2; first | exact F | (simp only [az.abs,List.length_map] at F; exact F)
 have eO:=drop_at bz
 refine jT (dT dn) (sk (EP (bo (sr (fw (.pointer (some ⟨ab o,ao o+h *5,none⟩)) (ET (kv) rfl rfl ((P.ro V).addr (i:=h) (by omega)) (by omega)) (fw (.agg (az.cells d).toArray) (EY rfl (Fb (cs:=(az.cells d)) Tryz.isAgg60 Tryz.sizeOf60 ((P.ro V).elem az.len Y (by decide)))) ?_))))))
 refine dP [.int .u64 0,vI 0, .int .u64 0, .int .u64 0, .slice none 0 0] 60 P ?_
 intro kR kS gZ
 refine dO (az.cells d) 0 gZ Tryz.sizeOf60 ?_
 intro kT dw
 refine nt (EO (Mz rfl (La (az.cells d) dw 0 Tryz.isAgg60 Tryz.sizeOf60 ?_)))
 have ib:=dw.pf [1,4]
 obtain⟨bA,bB⟩:∃ q,mR (dN.mk (Ll.mk m)) (bL.mk d.bf d.aQ d.ay d.aU (Ll.mk d.au.ls))=q:=⟨_,rfl⟩
 obtain⟨kU,eP,eT,eU,jA⟩:=Fv ib
 refine WL.do rfl (Fw Tryz.call83 rfl rfl (rH _ _ f (dN.mk (Ll.mk m)) av ax (bL.mk d.bf d.aQ d.ay d.aU (Ll.mk d.au.ls)) d.au.A d.au.ls.length d.au.c bA eP rfl (eT _ (W _ (List.mem_of_getElem? Y)).1) (show d.au.ls.length≤d.au.c∧d.au.ls.length≤9223372036854775807 from by omega) (by first | omega | (dsimp only; omega) | (dsimp only [List.length_cons,List.length_nil]; omega)) (by exact K) bB) ?_)
 rintro _ kV ⟨ic,ig,rfl,eX,bC⟩
 have dx:=eU _ _ eX
 have jB:=dx.rowC (i:=1) rfl
 replace bC:bA.xb.ls.length≤m.length+100:=bC
 refine WL.nil (bN (ER (EO (fw (vJ (h+1)) (EQ (e:=IntKind.i64.wrap (((h:Nat):Int)+1)) yk (by rw [IR _ (by omega)]; omega)) (Mz rfl (WL.nil ?_))))))
 have ik:=dx.px [] [2] [1]
 exact E8 (h+1,ic,ig,bA.xb.ls) ⟨rfl,rfl,rfl,rfl,trivial⟩ (aG.2 ⟨ik,by omega,by omega,et (bu) (et (congrArg (fun q=>jD a q m) eO) (ai bB))⟩) (by show a.aj.ls.length - (h+1) < a.aj.ls.length - h; omega)
 refine jF (dF dn) (Wp.exit (EX ?_))
 have eY:jD a a.aj.ls O.xb.ls=m:=et (bu) (et (congrArg (fun q=>jD a q m) (eD (ls:=a.aj.ls) (i:=h) (by omega))) rfl)
 refine EX (Fg (Ff (res0 rfl) (WL.nil (Ff (res0 rfl) (ns (Mz rfl (Kz (vP I 6) (Lz (.slice p a.aG.ls.length u) P 2 Tryz.isAgg31 (Mz rfl (Kz (.func (.func 85) #[vP f 0] #[]) ?_))))))))))
 refine WL.do rfl (Fe Tryz.call84 rfl ?_ (fun _ _ k=>k))
 refine cb Tryz.func84 ?_
 refine sr (Mz rfl (Mz rfl (Kz (vJ a.aG.ls.length) ?_)))
 refine WL.do rfl (Fe Tryz.call77 rfl ?_ (fun _ _ k=>k))
 refine cb Tryz.func77 ?_
 refine EO (Mz rfl (Mz rfl (fw (vU a.aG.ls.length) (EQ (e:=IntKind.u64.wrap ((a.aG.ls.length:Nat):Int)) yk (IntWalk.u64_in _ (by omega))) ?_)))
 have il:=P.pb [1,2]
 obtain⟨Q,bE⟩:∃ q,bY (dN.mk (Ll.mk m)) a.aG.ls.length=q:=⟨_,rfl⟩
 obtain⟨kW,eZ,jG,fe,jH⟩:=Fv il
 refine cl Tryz.call79 (dU _ _ f (dN.mk (Ll.mk m)) av ax a.aG.ls.length Q eZ (by first | omega | (dsimp only; omega) | (dsimp only [List.length_cons,List.length_nil]; omega)) bE) ?_
 rintro _ kX ⟨iq,iw,rfl,fu,bF⟩
 have dz:=fe _ _ fu
 have jI:=dz.rowC (i:=1) rfl
 replace bF:Q.xb.ls.length≤m.length+10:=bF
 refine WL.nil (Ff (res0 rfl) (nt (EO (Mz rfl (Mz rfl ?_)))))
 refine WL.do rfl (Fe Tryz.call122 rfl ?_ (fun _ _ k=>k))
 refine cb Tryz.func122 ?_
 refine sr (Mz rfl (Kz (vJ a.aG.ls.length) (Mn rfl (bo ?_))))
 have iy:=dz.pb [1]
 obtain⟨iA,aH⟩:=rD fun(j:Nat) (R:Option Addr) (S:Nat) (r:List UInt8) (w':World)=>Own w D w' [blk f [.slice R r.length S] 159,row E 3 3 (List.flatMap (eN .u64) ([a.ay,a.aY,a.aH])) 28 1,blk I [vI a.au,vU a.ay,vU a.aY,vU a.aH, .slice n a.ag.ls.length s, .slice o a.aj.ls.length t, .slice p a.aG.ls.length u] 33,row R r.length S (List.flatMap eB r) 5 1]∧j≤a.aG.ls.length∧((r.length:Nat):Int)≤((Q.xb.ls.length:Nat):Int)+8000 *((j:Nat):Int)∧jE a.aG.ls Q.xb.ls=jE (List.drop j a.aG.ls) r
 refine Wp.loop (fun i:Nat × (Option Addr) × Nat × (List UInt8)=> [(8,vJ i.1),(7,vJ a.aG.ls.length),(6, .slice p a.aG.ls.length u),(0, .func (.func 85) #[vP f 0] #[])]) iA (fun i=>a.aG.ls.length - i.1) (0,iq,iw,Q.xb.ls) ⟨rfl,rfl,rfl,rfl,trivial⟩ (aH.2 ⟨iy,by omega,by omega,rfl⟩) ?_
 rintro ⟨j,R,S,r⟩ kY fA
 show Wp _ _ _ [(8,vJ j),(7,vJ a.aG.ls.length),(6, .slice p a.aG.ls.length u),(0, .func (.func 85) #[vP f 0] #[])] _ _
 obtain⟨T,jJ,jK,bG⟩:=aH.1 fA
 refine sr (Kz (.bool (decide (((j:Nat):Int) < ((a.aG.ls.length:Nat):Int)))) (nt (EP ?_)))
 by_cases dA:((j:Nat):Int) < ((a.aG.ls.length:Nat):Int)
 obtain⟨b,G⟩:=dK (ls:=ae) (i:=j) aX.len (by decide) (T.ro X) (by first | omega | (simp; done) | (simp; omega))
 have bH:=eQ aC G
 have jL:=(C _ (List.mem_of_getElem? G)).2.1
 have jM:List.length (List.map af.abs b.ah.ls)=b.ah.ls.length:=List.length_map ..
 have Z:(aX.abs b).ay≤18446744073709551615∧(aX.abs b).aU≤18446744073709551615∧List.length (aX.abs b).ah.ls≤24∧∀ z ∈ (aX.abs b).ah.ls,z.aV.length≤16∧z.av.ls.length≤4∧∀ q ∈ z.av.ls,q.cu.length≤12∧q.aV.length≤16:=B.2.2.2.2.2.1 _ (List.mem_of_getElem? bH)
 have hz260p0:b.ay≤18446744073709551615:=by have F:=Z.1; first | exact F | (simp only [aX.abs,List.length_map] at F; exact F)
 have hz260p1:b.aU≤18446744073709551615:=by have F:=Z.2.1; first | exact F | (simp only [aX.abs,List.length_map] at F; exact F)
 have hz260p2:b.ah.ls.length≤24:=by have F:=Z.2.2.1; first | exact F | (simp only [aX.abs,List.length_map] at F; exact F)
 have fB:=drop_at bH
 refine jT (dT dA) (sk (EP (bo (sr (fw (.pointer (some ⟨ab p,ao p+j *4,none⟩)) (ET (lI) rfl rfl ((T.ro X).addr (i:=j) (by omega)) (by omega)) (fw (.agg (aX.cells b).toArray) (EY rfl (Fb (cs:=(aX.cells b)) Tryz.isAgg56 Tryz.sizeOf56 ((T.ro X).elem aX.len G (by decide)))) ?_))))))
 refine dP [vI 0, .int .u64 0, .int .u64 0, .slice none 0 0] 56 T ?_
 intro kZ lc iB
 refine dO (aX.cells b) 0 iB Tryz.sizeOf56 ?_
 intro lg dB
 refine nt (EO (Mz rfl (La (aX.cells b) dB 0 Tryz.isAgg56 Tryz.sizeOf56 ?_)))
 have iC:=dB.pf [1,4]
 obtain⟨bI,bJ⟩:∃ q,oI (dN.mk (Ll.mk r)) (fG.mk b.aQ b.ay b.aU (Ll.mk (List.map af.abs b.ah.ls)))=q:=⟨_,rfl⟩
 obtain⟨lh,fC,bK,fD,jN⟩:=Fv iC
 refine WL.do rfl (Fw Tryz.call85 rfl rfl (tQ _ _ f (dN.mk (Ll.mk r)) R S (fG.mk b.aQ b.ay b.aU (Ll.mk (List.map af.abs b.ah.ls))) b.ah.A b.ah.ls.length b.ah.c b.ah.ls bI fC (rfl:List.map af.abs b.ah.ls=List.map af.abs b.ah.ls) (by first | rfl | omega | (simp only [List.length_append,List.length_cons,List.length_nil,List.length_take,List.length_drop,List.length_set,List.length_replicate,List.length_map] <;> omega)) (fun w9 h9=>mZ (aA (rfl:List.map af.abs b.ah.ls=List.map af.abs b.ah.ls)) ((bK _ (C _ (List.mem_of_getElem? G)).1) w9 h9)) (show List.length (List.map af.abs b.ah.ls)≤b.ah.c∧List.length (List.map af.abs b.ah.ls)≤9223372036854775807 from by omega) (fun x9 h9=>⟨bK _ ((C _ (List.mem_of_getElem? G)).2.2 x9 h9).1,((C _ (List.mem_of_getElem? G)).2.2 x9 h9).2⟩) (by first | omega | (dsimp only; omega) | (dsimp only [List.length_cons,List.length_nil]; omega)) (by exact Z) bJ) ?_)
 rintro _ ll ⟨iD,iE,rfl,fE,bM⟩
 have dD:=fD _ _ fE
 have jO:=dD.rowC (i:=1) rfl
 replace bM:bI.xb.ls.length≤r.length+8000:=bM
 refine WL.nil (bN (ER (EO (fw (vJ (j+1)) (EQ (e:=IntKind.i64.wrap (((j:Nat):Int)+1)) yk (by rw [IR _ (by omega)]; omega)) (Mz rfl (WL.nil ?_))))))
 have iF:=dD.px [] [2] [1]
 exact E8 (j+1,iD,iE,bI.xb.ls) ⟨rfl,rfl,rfl,rfl,trivial⟩ (aH.2 ⟨iF,by omega,by omega,et (bG) (et (congrArg (fun q=>jE q r) fB) (ai bJ))⟩) (by show a.aG.ls.length - (j+1) < a.aG.ls.length - j; omega)
 refine jF (dF dA) (Wp.exit (EX ?_))
 have fF:jE a.aG.ls Q.xb.ls=r:=et (bG) (et (congrArg (fun q=>jE q r) (eD (ls:=a.aG.ls) (i:=j) (by omega))) rfl)
 refine EX (Fg (Ff (res0 rfl) (WL.nil (Ff (res0 rfl) (ns (Mz rfl (Kz (vP f 0) (Kz (vP f 0) (Lz (.slice R r.length S) T 0 Tryz.isAgg134 (Az rfl (An rfl (rt (Fin.res (lS rfl rfl rfl) ?_)))))))))))))
 have iG:=T.pk [3]
 obtain⟨rfl,rfl⟩:=fT (hr.symm.trans (show _=(r,0) from et (ai aI) (et (ip bQ) (et (ai bX) (et (ai cz) (et (ai cK) (et (ai aR) (et (ai aV) (et (ai ed) (et (ai bn) (et (ai eY) (et (ai bE) (ai fF)))))))))))))
 exact⟨R,S,rfl,iG,(by first | omega | exact IU _)⟩
 refine jT (dT bQ) (sr (Mz rfl (Az rfl (An rfl (rt (tR (Fin.res (lS rfl rfl rfl) ?_)))))))
 have iH:Own w D iQ [row none 0 0 (List.flatMap eB ([])) 5 1,blk I [vI a.au,vU a.ay,vU a.aY,vU a.aH, .slice n a.ag.ls.length s, .slice o a.aj.ls.length t, .slice p a.aG.ls.length u] 33]:=fO.free (fo 5 1)
 have iI:=iH.pk [0]
 obtain⟨rfl,rfl⟩:=fT (hr.symm.trans (show _=(([]:List UInt8),aK) from et (ai aI) (iN bQ)))
 exact⟨none,0,rfl,iI,(by first | omega | exact IU _)⟩
end Go.Proofs.YtbkagebjhbphaaaGreat
