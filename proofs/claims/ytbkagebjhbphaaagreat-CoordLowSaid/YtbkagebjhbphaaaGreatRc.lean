/-
 record: the coordinator's state as bytes.
-/
import Derived.Test.YtbkagebjhbphaaaGreatRb
namespace Go.Proofs.YtbkagebjhbphaaaGreat
open Int renaming toNat→D2
open IntKind renaming i64→C7,u64→D3
open List renaming drop→r6,flatMap→q6,length→s2,length_map→s6,map→s8,mem_of_getElem?→E0
open Ll renaming mk→E4
open _root_.Go.Proofs.Tryz renaming call77→N1,call79→N3,func77→N2,isAgg28→E1,sizeOf56→N6,sizeOf60→N5,sizeOf89→N4
open WL renaming nil→D0
open Wp renaming exit→D1
set_option maxRecDepth 100000
open Go.RowKit
set_option linter.unusedVariables false
set_option linter.unusedSectionVars false
set_option linter.unusedSimpArgs false
def jB (e:dA):List bv→List UInt8→(List UInt8)
  | [],a=>a
  | c::d,a=>bnd (ol (dI.mk (E4 a)) c) fun b=>jB e d b.xb.ls
def jC (e:dA):List bL→List UInt8→(List UInt8)
  | [],b=>b
  | a::d,b=>bnd (mR (dI.mk (E4 b)) (bL.mk a.bf a.aS a.ax a.aY (E4 a.ak.ls))) fun c=>jC e d c.xb.ls
def jD:List fF→List UInt8→(List UInt8)
  | [],b=>b
  | a::d,b=>bnd (oI (dI.mk (E4 b)) (fF.mk a.aS a.ax a.aY (E4 a.ai.ls))) fun c=>jD d c.xb.ls
def eu (a:dA):(List UInt8) × Int:=
 bnd (iX a) fun b=>if b=0 then bnd (bV (dI.mk (E4 ([67]))) (D2 (D3.wrap a.ak))) fun g=>bnd (bV g a.ax) fun h=>bnd (bV h a.bi) fun i=>bnd (bV i a.aI) fun c=>bnd (bV c a.ag.ls.length) fun d=>bnd (jB a a.ag.ls d.xb.ls) fun sLrbtbbbbbL=>bnd (bV (dI.mk (E4 sLrbtbbbbbL)) a.aj.ls.length) fun e=>bnd (jC a a.aj.ls e.xb.ls) fun sLrbtbbbbbLabL=>bnd (bV (dI.mk (E4 sLrbtbbbbbLabL)) a.aF.ls.length) fun f=>bnd (jD a.aF.ls f.xb.ls) fun sLrbtbbbbbLabLabL=>(sLrbtbbbbbLabLabL,0) else(([]:List UInt8),b)
set_option maxHeartbeats 4000000 in
theorem jX (w:World) (D:Nat→Prop) (a:dA) (n:Option Addr) (bU s:Nat) (o:Option Addr) (bW t:Nat) (aa:List ay) (p:Option Addr) (bX u:Nat) (ae:List aV) (r0:List UInt8) (r1:Int) (H:Own w D w []) (dE:bU=a.ag.ls.length) (U:Ro w D fun w'=>bD w' 2 n a.ag.ls.length (q6 bv.cells a.ag.ls)) (iL:a.ag.ls.length≤s∧a.ag.ls.length≤9223372036854775807) (aB:s8 ay.abs aa=a.aj.ls) (dH:bW=a.aj.ls.length) (V:Ro w D fun w'=>bD w' 5 o a.aj.ls.length (q6 ay.cells aa)) (iM:a.aj.ls.length≤t∧a.aj.ls.length≤9223372036854775807) (W:∀ x ∈ aa,Ro w D (fun w'=>bD w' 1 x.ak.A x.ak.ls.length (q6 (eI .i64) x.ak.ls))∧(x.ak.ls.length≤x.ak.c∧x.ak.ls.length≤9223372036854775807)) (aC:s8 aV.abs ae=a.aF.ls) (dJ:bX=a.aF.ls.length) (X:Ro w D fun w'=>bD w' 4 p a.aF.ls.length (q6 aV.cells ae)) (iO:a.aF.ls.length≤u∧a.aF.ls.length≤9223372036854775807) (C:∀ x ∈ ae,Ro w D (fun w'=>bD w' 3 x.ai.A x.ai.ls.length (q6 af.cells x.ai.ls))∧(x.ai.ls.length≤x.ai.c∧x.ai.ls.length≤9223372036854775807)∧(∀ y1 ∈ x.ai.ls,Ro w D (fun w'=>bD w' 2 y1.au.A y1.au.ls.length (q6 aJ.cells y1.au.ls))∧(y1.au.ls.length≤y1.au.c∧y1.au.ls.length≤9223372036854775807))) (lm:a.ag.ls.length≤140737488355328∧a.aj.ls.length≤140737488355328∧a.aF.ls.length≤140737488355328) (iP:DT a) (hr:eu a=(r0,r1)):
    Calls Tryz.prog 54 #[.agg #[vI a.ak,vU a.ax,vU a.bi,vU a.aI, .slice n bU s, .slice o bW t, .slice p bX u]] w (dS fun v w'=> ∃ (B0:Option Addr) (b0:Nat),v= .tuple #[.slice B0 r0.length b0,vI r1]∧Own w D w' [row B0 r0.length b0 (q6 eB r0) 5 1]∧(r0.length≤100000)):=by
 subst dE dH dJ
 have iJ:=az aB
 have iK:=az aC
 refine cb Tryz.func54 ?_
 refine sr ?_
 refine dK [vI a.ak,vU a.ax,vU a.bi,vU a.aI, .slice n a.ag.ls.length s, .slice o a.aj.ls.length t, .slice p a.aF.ls.length u] 33 H ?_
 intro I lq fI
 refine Az rfl (An rfl (EP (sr (La ([vI a.ak,vU a.ax,vU a.bi,vU a.aI, .slice n a.ag.ls.length s, .slice o a.aj.ls.length t, .slice p a.aF.ls.length u]) fI 0 Tryz.isAgg33 Tryz.sizeOf33 ?_))))
 obtain⟨aL,aI⟩:∃ q,iX a=q:=⟨_,rfl⟩
 obtain⟨lu,fJ,L,fK,jS⟩:=EU fI
 refine cl Tryz.call19 (nM _ _ a n a.ag.ls.length s o a.aj.ls.length t aa p a.aF.ls.length u ae aL fJ rfl (L _ U) (show a.ag.ls.length≤s∧a.ag.ls.length≤9223372036854775807 from by omega) aB rfl (L _ V) (show a.aj.ls.length≤t∧a.aj.ls.length≤9223372036854775807 from by omega) (fun x9 h9=>⟨L _ (W x9 h9).1,(W x9 h9).2⟩) aC rfl (L _ X) (show a.aF.ls.length≤u∧a.aF.ls.length≤9223372036854775807 from by omega) (fun x9 h9=>⟨L _ (C x9 h9).1,(C x9 h9).2.1,(fun y1 k1=>⟨L _ ((C x9 h9).2.2 y1 k1).1,((C x9 h9).2.2 y1 k1).2⟩)⟩) e8 aI) ?_
 rintro _ iQ ⟨rfl,fM⟩
 have fO:=fK _ _ fM
 refine Ar rfl (Mz rfl (fw (.bool (decide (¬ (aL=0)))) (Fs (e:= !(decide (aL=0))) yk decide_not.symm) (nt ?_)))
 by_cases bQ:aL=0
 refine jF (dF (IV bQ)) (sk (sr ?_))
 have B:=D6 (by rw [aI]; omega) iP
 have jV:a.ag.ls.length≤6:=B.1
 have jW:a.aj.ls.length≤8:=B.2.2.1
 have jY:a.aF.ls.length≤4:=B.2.2.2.2.1
 have jZ:a.ax≤18446744073709551615:=B.2.2.2.2.2.2.1
 have j3:a.bi≤18446744073709551615:=B.2.2.2.2.2.2.2.1
 have j4:a.aI≤18446744073709551615:=B.2.2.2.2.2.2.2.2
 refine kG [.int .u8 67] 5 1 1 fO ?_
 intro bR lv dL
 replace dL:=Fx (y:=row bR 1 1 (q6 eB ([67])) 5 1) rfl dL
 refine Kz (.agg #[.slice bR 1 1]) ?_
 refine dK [.slice bR 1 1] 159 dL ?_
 intro f lw fP
 refine Ar rfl (Mz rfl (Kz (vP I 0) (Lz (vI a.ak) fP 2 Tryz.isAgg3 ?_)))
 refine WL.do rfl (Fe N1 rfl ?_ (fun _ _ k=>k))
 refine cb N2 ?_
 refine EO (Mz rfl (Mz rfl ?_))
 have j5:D2 (D3.wrap a.ak)≤18446744073709551615:=l7 _
 refine fw (vU (D2 (D3.wrap a.ak))) (EQ (e:=D3.wrap a.ak) yk (fe _)) ?_
 obtain⟨aM,bY⟩:∃ q,bV (dI.mk (E4 ([67]))) (D2 (D3.wrap a.ak))=q:=⟨_,rfl⟩
 obtain⟨lC,fQ,j6,fU,kg⟩:=Fv fP
 refine cl N3 (dQ _ _ f (dI.mk (E4 ([67]))) bR 1 (D2 (D3.wrap a.ak)) aM fQ f6 bY) ?_
 rintro _ lD ⟨iR,iT,rfl,fV,cu⟩
 have aN:=fU _ _ fV
 have ko:=aN.rowC (i:=1) rfl
 replace cu:aM.xb.ls.length≤1+10:=cu
 refine D0 (Ff (res0 rfl) (ns (Mz rfl (Kz (.func (.func 79) #[vP f 0] #[]) (Kz (vP I 1) (Lz (vU a.ax) aN 2 E1 (Kz (vP I 2) (Lz (vU a.bi) aN 2 E1 (Kz (vP I 3) (Lz (vU a.aI) aN 2 E1 ?_))))))))))
 refine kG [vU a.ax,vU a.bi,vU a.aI] 28 1 3 aN ?_
 intro E lF aO
 replace aO:=Fx (y:=row E 3 3 (q6 (eN .u64) ([a.ax,a.bi,a.aI])) 28 1) rfl aO
 refine WL.do rfl (Fe Tryz.call78 rfl ?_ (fun _ _ k=>k))
 refine cb Tryz.func78 ?_
 refine sr (Mz rfl (Kz (vI 3) (Mn rfl (bo (Gh 200 (sr (Kz (.bool true) (nt (EP (jt (sk (EP (bo (sr ?_))))))))))))))
 have fZ:([a.ax,a.bi,a.aI]:List Nat)[0]? =some a.ax:=rfl
 refine fw (.pointer (some ⟨ab E,ao E+0 *1,none⟩)) (ET (sO) rfl rfl ((aO.rds (i:=0) rfl).addr (i:=0) e6) e6) (fw (vU a.ax) (EY rfl (bZ.one E1 (((aO.rds (i:=0) rfl).elem nU fZ f3).at_ (k:=0) rfl))) (An rfl (EO (Mz rfl (Mz rfl ?_)))))
 have iU:=aO.pb [0,3]
 obtain⟨aP,cz⟩:∃ q,bV aM a.ax=q:=⟨_,rfl⟩
 obtain⟨lG,gm,kr,gp,ku⟩:=Fv iU
 refine WL.do rfl (Fw N3 rfl rfl (dQ _ _ f aM iR iT a.ax aP gm f6 cz) ?_)
 rintro _ lH ⟨iV,iW,rfl,gq,cB⟩
 have bS:=gp _ _ gq
 have kw:=bS.rowC (i:=1) rfl
 replace cB:aP.xb.ls.length≤aM.xb.ls.length+10:=cB
 refine D0 (bN (ER (EO (Kz (vI 1) (Mz rfl (D0 (FR [(8,vI 1),(7,vI 3),(6, .slice E 3 3),(0, .func (.func 79) #[vP f 0] #[])] ⟨rfl,rfl,rfl,rfl,trivial⟩ (sr (Kz (.bool true) (nt (EP (jt (sk (EP (bo (sr ?_))))))))))))))))
 have gu:([a.ax,a.bi,a.aI]:List Nat)[1]? =some a.bi:=rfl
 refine fw (.pointer (some ⟨ab E,ao E+1 *1,none⟩)) (ET (sO) rfl rfl ((bS.rds (i:=2) rfl).addr (i:=1) e6) e6) (fw (vU a.bi) (EY rfl (bZ.one E1 (((bS.rds (i:=2) rfl).elem nU gu f3).at_ (k:=0) rfl))) (An rfl (EO (Mz rfl (Mz rfl ?_)))))
 obtain⟨aQ,cK⟩:∃ q,bV aP a.bi=q:=⟨_,rfl⟩
 obtain⟨lJ,gy,ky,gz,kz⟩:=Fv bS
 refine WL.do rfl (Fw N3 rfl rfl (dQ _ _ f aP iV iW a.bi aQ gy f6 cK) ?_)
 rintro _ lK ⟨iY,iZ,rfl,gB,cO⟩
 have bT:=gz _ _ gB
 have kC:=bT.rowC (i:=1) rfl
 replace cO:aQ.xb.ls.length≤aP.xb.ls.length+10:=cO
 refine D0 (bN (ER (EO (Kz (vI 2) (Mz rfl (D0 (FR [(8,vI 2),(7,vI 3),(6, .slice E 3 3),(0, .func (.func 79) #[vP f 0] #[])] ⟨rfl,rfl,rfl,rfl,trivial⟩ (sr (Kz (.bool true) (nt (EP (jt (sk (EP (bo (sr ?_))))))))))))))))
 have gD:([a.ax,a.bi,a.aI]:List Nat)[2]? =some a.aI:=rfl
 refine fw (.pointer (some ⟨ab E,ao E+2 *1,none⟩)) (ET (sO) rfl rfl ((bT.rds (i:=2) rfl).addr (i:=2) e6) e6) (fw (vU a.aI) (EY rfl (bZ.one E1 (((bT.rds (i:=2) rfl).elem nU gD f3).at_ (k:=0) rfl))) (An rfl (EO (Mz rfl (Mz rfl ?_)))))
 obtain⟨ag,aR⟩:∃ q,bV aQ a.aI=q:=⟨_,rfl⟩
 obtain⟨lL,gF,ja,dM,jb⟩:=Fv bT
 refine WL.do rfl (Fw N3 rfl rfl (dQ _ _ f aQ iY iZ a.aI ag gF f6 aR) ?_)
 rintro _ kD ⟨gG,gH,rfl,dO,aS⟩
 have aT:=dM _ _ dO
 have jc:=aT.rowC (i:=1) rfl
 replace aS:ag.xb.ls.length≤aQ.xb.ls.length+10:=aS
 refine D0 (bN (ER (EO (Kz (vI 3) (Mz rfl (D0 (FR [(8,vI 3),(7,vI 3),(6, .slice E 3 3),(0, .func (.func 79) #[vP f 0] #[])] ⟨rfl,rfl,rfl,rfl,trivial⟩ (sr (Kz (.bool false) (nt (EP (jf (D1 (EX (EX (Fg (Ff (res0 rfl) (ns (Mz rfl (Kz (vP I 4) (Lz (.slice n a.ag.ls.length s) aT 3 Tryz.isAgg29 (Mz rfl (Kz (.func (.func 81) #[vP f 0] #[]) ?_)))))))))))))))))))))))
 refine WL.do rfl (Fe Tryz.call80 rfl ?_ (fun _ _ k=>k))
 refine cb Tryz.func80 ?_
 refine sr (Mz rfl (Mz rfl (Kz (vJ a.ag.ls.length) ?_)))
 refine WL.do rfl (Fe N1 rfl ?_ (fun _ _ k=>k))
 refine cb N2 ?_
 refine EO (Mz rfl (Mz rfl (fw (vU a.ag.ls.length) (EQ (e:=D3.wrap ((a.ag.ls.length:Nat):Int)) yk (IntWalk.u64_in _ e6)) ?_)))
 obtain⟨M,aU⟩:∃ q,bV ag a.ag.ls.length=q:=⟨_,rfl⟩
 obtain⟨kE,dP,jd,dR,je⟩:=Fv aT
 refine cl N3 (dQ _ _ f ag gG gH a.ag.ls.length M dP f6 aU) ?_
 rintro _ kF ⟨gI,gJ,rfl,dU,aW⟩
 have cZ:=dR _ _ dU
 have jg:=cZ.rowC (i:=1) rfl
 replace aW:M.xb.ls.length≤ag.xb.ls.length+10:=aW
 refine D0 (Ff (res0 rfl) (nt (EO (Mz rfl (Mz rfl ?_)))))
 refine WL.do rfl (Fe Tryz.call118 rfl ?_ (fun _ _ k=>k))
 refine cb Tryz.func118 ?_
 refine sr (Mz rfl (Kz (vJ a.ag.ls.length) (Mn rfl (bo ?_))))
 have gK:=cZ.pb [1]
 obtain⟨gL,aD⟩:=rD fun(g:Nat) (aj:Option Addr) (au:Nat) (l:List UInt8) (w':World)=>Own w D w' [blk f [.slice aj l.length au] 159,row E 3 3 (q6 (eN .u64) ([a.ax,a.bi,a.aI])) 28 1,blk I [vI a.ak,vU a.ax,vU a.bi,vU a.aI, .slice n a.ag.ls.length s, .slice o a.aj.ls.length t, .slice p a.aF.ls.length u] 33,row aj l.length au (q6 eB l) 5 1]∧g≤a.ag.ls.length∧((l.length:Nat):Int)≤((M.xb.ls.length:Nat):Int)+40 *((g:Nat):Int)∧jB a a.ag.ls M.xb.ls=jB a (r6 g a.ag.ls) l
 refine Wp.loop (fun i:Nat × (Option Addr) × Nat × (List UInt8)=> [(8,vJ i.1),(7,vJ a.ag.ls.length),(6, .slice n a.ag.ls.length s),(0, .func (.func 81) #[vP f 0] #[])]) gL (fun i=>a.ag.ls.length - i.1) (0,gI,gJ,M.xb.ls) ⟨rfl,rfl,rfl,rfl,trivial⟩ (aD.2 ⟨gK,e6,e6,rfl⟩) ?_
 rintro ⟨g,aj,au,l⟩ kH dV
 obtain⟨N,jh,ji,aX⟩:=aD.1 dV
 refine sr (Kz (.bool (decide (((g:Nat):Int) < ((a.ag.ls.length:Nat):Int)))) (nt (EP ?_)))
 by_cases df:((g:Nat):Int) < ((a.ag.ls.length:Nat):Int)
 obtain⟨J,aF⟩:=dG (ls:=a.ag.ls) (i:=g) bv.len f3 (N.ro U) e9
 have dW:J.bJ.length≤12:=B.2.1 _ (E0 aF)
 have dX:=drop_at aF
 refine jT (dT df) (sk (EP (bo (sr (fw (.pointer (some ⟨ab n,ao n+g *2,none⟩)) (ET (pX) rfl rfl ((N.ro U).addr (i:=g) e6) e6) (fw (.agg (bv.cells J).toArray) (EY rfl (Fb (cs:=(bv.cells J)) Tryz.isAgg89 N4 ((N.ro U).elem bv.len aF f3))) ?_))))))
 refine dK [.string ⟨List.toArray ([])⟩,vI 0] 89 N ?_
 intro kI kJ gM
 refine dN (bv.cells J) 0 gM N4 ?_
 intro kK dh
 refine nt (EO (Mz rfl (La (bv.cells J) dh 0 Tryz.isAgg89 N4 ?_)))
 have gN:=dh.pf [1,4]
 obtain⟨aZ,bg⟩:∃ q,ol (dI.mk (E4 l)) J=q:=⟨_,rfl⟩
 obtain⟨kL,dY,jk,dZ,jl⟩:=Fv gN
 refine WL.do rfl (Fw Tryz.call81 rfl rfl (sU _ _ f (dI.mk (E4 l)) aj au J aZ dY f6 (by exact dW) bg) ?_)
 rintro _ kM ⟨gP,gQ,rfl,d9,bi⟩
 have di:=dZ _ _ d9
 have jm:=di.rowC (i:=1) rfl
 replace bi:aZ.xb.ls.length≤l.length+40:=bi
 refine D0 (bN (ER (EO (fw (vJ (g+1)) (EQ (e:=C7.wrap (((g:Nat):Int)+1)) yk f1) (Mz rfl (D0 ?_))))))
 have gT:=di.px [] [2] [1]
 exact E8 (g+1,gP,gQ,aZ.xb.ls) ⟨rfl,rfl,rfl,rfl,trivial⟩ (aD.2 ⟨gT,e6,e6,et (aX) (et (congrArg (fun q=>jB a q l) dX) (ah bg))⟩) (by show a.ag.ls.length - (g+1) < a.ag.ls.length - g; omega)
 refine jF (dF df) (D1 (EX ?_))
 have ed:jB a a.ag.ls M.xb.ls=l:=et (aX) (et (congrArg (fun q=>jB a q l) (eD (ls:=a.ag.ls) (i:=g) e6)) rfl)
 refine EX (Fg (Ff (res0 rfl) (D0 (Ff (res0 rfl) (ns (Mz rfl (Kz (vP I 5) (Lz (.slice o a.aj.ls.length t) N 2 Tryz.isAgg30 (Mz rfl (Kz (.func (.func 83) #[vP f 0] #[]) ?_))))))))))
 refine WL.do rfl (Fe Tryz.call82 rfl ?_ (fun _ _ k=>k))
 refine cb Tryz.func82 ?_
 refine sr (Mz rfl (Mz rfl (Kz (vJ a.aj.ls.length) ?_)))
 refine WL.do rfl (Fe N1 rfl ?_ (fun _ _ k=>k))
 refine cb N2 ?_
 refine EO (Mz rfl (Mz rfl (fw (vU a.aj.ls.length) (EQ (e:=D3.wrap ((a.aj.ls.length:Nat):Int)) yk (IntWalk.u64_in _ e6)) ?_)))
 have gU:=N.pb [1,2]
 obtain⟨O,bn⟩:∃ q,bV (dI.mk (E4 l)) a.aj.ls.length=q:=⟨_,rfl⟩
 obtain⟨kN,ek,jo,eF,jq⟩:=Fv gU
 refine cl N3 (dQ _ _ f (dI.mk (E4 l)) aj au a.aj.ls.length O ek f6 bn) ?_
 rintro _ kP ⟨gV,gW,rfl,eG,bq⟩
 have dm:=eF _ _ eG
 have jr:=dm.rowC (i:=1) rfl
 replace bq:O.xb.ls.length≤l.length+10:=bq
 refine D0 (Ff (res0 rfl) (nt (EO (Mz rfl (Mz rfl ?_)))))
 refine WL.do rfl (Fe Tryz.call120 rfl ?_ (fun _ _ k=>k))
 refine cb Tryz.func120 ?_
 refine sr (Mz rfl (Kz (vJ a.aj.ls.length) (Mn rfl (bo ?_))))
 have gX:=dm.pb [1]
 obtain⟨gY,aG⟩:=rD fun(h:Nat) (av:Option Addr) (aA:Nat) (m:List UInt8) (w':World)=>Own w D w' [blk f [.slice av m.length aA] 159,row E 3 3 (q6 (eN .u64) ([a.ax,a.bi,a.aI])) 28 1,blk I [vI a.ak,vU a.ax,vU a.bi,vU a.aI, .slice n a.ag.ls.length s, .slice o a.aj.ls.length t, .slice p a.aF.ls.length u] 33,row av m.length aA (q6 eB m) 5 1]∧h≤a.aj.ls.length∧((m.length:Nat):Int)≤((O.xb.ls.length:Nat):Int)+100 *((h:Nat):Int)∧jC a a.aj.ls O.xb.ls=jC a (r6 h a.aj.ls) m
 refine Wp.loop (fun i:Nat × (Option Addr) × Nat × (List UInt8)=> [(8,vJ i.1),(7,vJ a.aj.ls.length),(6, .slice o a.aj.ls.length t),(0, .func (.func 83) #[vP f 0] #[])]) gY (fun i=>a.aj.ls.length - i.1) (0,gV,gW,O.xb.ls) ⟨rfl,rfl,rfl,rfl,trivial⟩ (aG.2 ⟨gX,e6,e6,rfl⟩) ?_
 rintro ⟨h,av,aA,m⟩ kQ eH
 obtain⟨P,jv,jw,bu⟩:=aG.1 eH
 refine sr (Kz (.bool (decide (((h:Nat):Int) < ((a.aj.ls.length:Nat):Int)))) (nt (EP ?_)))
 by_cases dn:((h:Nat):Int) < ((a.aj.ls.length:Nat):Int)
 obtain⟨d,Y⟩:=dG (ls:=aa) (i:=h) ay.len f3 (P.ro V) e9
 have bz:=eP aB Y
 have jy:=(W _ (E0 Y)).2
 have K:(ay.abs d).bf≤18446744073709551615∧(ay.abs d).ax≤18446744073709551615∧(ay.abs d).aY≤18446744073709551615∧s2 (ay.abs d).ak.ls≤4:=B.2.2.2.1 _ (E0 bz)
 have hz201p0:d.bf≤18446744073709551615:=by have F:=K.1; first | exact F | (simp only [ay.abs,s6] at F; exact F)
 have hz201p1:d.ax≤18446744073709551615:=by have F:=K.2.1; first | exact F | (simp only [ay.abs,s6] at F; exact F)
 have hz201p2:d.aY≤18446744073709551615:=by have F:=K.2.2.1; first | exact F | (simp only [ay.abs,s6] at F; exact F)
 have hz201p3:d.ak.ls.length≤4:=by have F:=K.2.2.2; first | exact F | (simp only [ay.abs,s6] at F; exact F)
 have eO:=drop_at bz
 refine jT (dT dn) (sk (EP (bo (sr (fw (.pointer (some ⟨ab o,ao o+h *5,none⟩)) (ET (kv) rfl rfl ((P.ro V).addr (i:=h) e6) e6) (fw (.agg (ay.cells d).toArray) (EY rfl (Fb (cs:=(ay.cells d)) Tryz.isAgg60 N5 ((P.ro V).elem ay.len Y f3))) ?_))))))
 refine dK [.int .u64 0,vI 0, .int .u64 0, .int .u64 0, .slice none 0 0] 60 P ?_
 intro kR kS gZ
 refine dN (ay.cells d) 0 gZ N5 ?_
 intro kT dw
 refine nt (EO (Mz rfl (La (ay.cells d) dw 0 Tryz.isAgg60 N5 ?_)))
 have ib:=dw.pf [1,4]
 obtain⟨bA,bB⟩:∃ q,mR (dI.mk (E4 m)) (bL.mk d.bf d.aS d.ax d.aY (E4 d.ak.ls))=q:=⟨_,rfl⟩
 obtain⟨kU,eQ,eT,eU,jA⟩:=Fv ib
 refine WL.do rfl (Fw Tryz.call83 rfl rfl (rH _ _ f (dI.mk (E4 m)) av aA (bL.mk d.bf d.aS d.ax d.aY (E4 d.ak.ls)) d.ak.A d.ak.ls.length d.ak.c bA eQ rfl (eT _ (W _ (E0 Y)).1) (show d.ak.ls.length≤d.ak.c∧d.ak.ls.length≤9223372036854775807 from by omega) f6 (by exact K) bB) ?_)
 rintro _ kV ⟨ic,ig,rfl,eX,bC⟩
 have dx:=eU _ _ eX
 have jE:=dx.rowC (i:=1) rfl
 replace bC:bA.xb.ls.length≤m.length+100:=bC
 refine D0 (bN (ER (EO (fw (vJ (h+1)) (EQ (e:=C7.wrap (((h:Nat):Int)+1)) yk f1) (Mz rfl (D0 ?_))))))
 have ik:=dx.px [] [2] [1]
 exact E8 (h+1,ic,ig,bA.xb.ls) ⟨rfl,rfl,rfl,rfl,trivial⟩ (aG.2 ⟨ik,e6,e6,et (bu) (et (congrArg (fun q=>jC a q m) eO) (ah bB))⟩) (by show a.aj.ls.length - (h+1) < a.aj.ls.length - h; omega)
 refine jF (dF dn) (D1 (EX ?_))
 have eY:jC a a.aj.ls O.xb.ls=m:=et (bu) (et (congrArg (fun q=>jC a q m) (eD (ls:=a.aj.ls) (i:=h) e6)) rfl)
 refine EX (Fg (Ff (res0 rfl) (D0 (Ff (res0 rfl) (ns (Mz rfl (Kz (vP I 6) (Lz (.slice p a.aF.ls.length u) P 2 Tryz.isAgg31 (Mz rfl (Kz (.func (.func 85) #[vP f 0] #[]) ?_))))))))))
 refine WL.do rfl (Fe Tryz.call84 rfl ?_ (fun _ _ k=>k))
 refine cb Tryz.func84 ?_
 refine sr (Mz rfl (Mz rfl (Kz (vJ a.aF.ls.length) ?_)))
 refine WL.do rfl (Fe N1 rfl ?_ (fun _ _ k=>k))
 refine cb N2 ?_
 refine EO (Mz rfl (Mz rfl (fw (vU a.aF.ls.length) (EQ (e:=D3.wrap ((a.aF.ls.length:Nat):Int)) yk (IntWalk.u64_in _ e6)) ?_)))
 have il:=P.pb [1,2]
 obtain⟨Q,bE⟩:∃ q,bV (dI.mk (E4 m)) a.aF.ls.length=q:=⟨_,rfl⟩
 obtain⟨kW,fo,jG,fq,jH⟩:=Fv il
 refine cl N3 (dQ _ _ f (dI.mk (E4 m)) av aA a.aF.ls.length Q fo f6 bE) ?_
 rintro _ kX ⟨iq,iw,rfl,fu,bF⟩
 have dz:=fq _ _ fu
 have jI:=dz.rowC (i:=1) rfl
 replace bF:Q.xb.ls.length≤m.length+10:=bF
 refine D0 (Ff (res0 rfl) (nt (EO (Mz rfl (Mz rfl ?_)))))
 refine WL.do rfl (Fe Tryz.call122 rfl ?_ (fun _ _ k=>k))
 refine cb Tryz.func122 ?_
 refine sr (Mz rfl (Kz (vJ a.aF.ls.length) (Mn rfl (bo ?_))))
 have iy:=dz.pb [1]
 obtain⟨iA,aH⟩:=rD fun(j:Nat) (R:Option Addr) (S:Nat) (r:List UInt8) (w':World)=>Own w D w' [blk f [.slice R r.length S] 159,row E 3 3 (q6 (eN .u64) ([a.ax,a.bi,a.aI])) 28 1,blk I [vI a.ak,vU a.ax,vU a.bi,vU a.aI, .slice n a.ag.ls.length s, .slice o a.aj.ls.length t, .slice p a.aF.ls.length u] 33,row R r.length S (q6 eB r) 5 1]∧j≤a.aF.ls.length∧((r.length:Nat):Int)≤((Q.xb.ls.length:Nat):Int)+8000 *((j:Nat):Int)∧jD a.aF.ls Q.xb.ls=jD (r6 j a.aF.ls) r
 refine Wp.loop (fun i:Nat × (Option Addr) × Nat × (List UInt8)=> [(8,vJ i.1),(7,vJ a.aF.ls.length),(6, .slice p a.aF.ls.length u),(0, .func (.func 85) #[vP f 0] #[])]) iA (fun i=>a.aF.ls.length - i.1) (0,iq,iw,Q.xb.ls) ⟨rfl,rfl,rfl,rfl,trivial⟩ (aH.2 ⟨iy,e6,e6,rfl⟩) ?_
 rintro ⟨j,R,S,r⟩ kY fA
 obtain⟨T,jJ,jK,bG⟩:=aH.1 fA
 refine sr (Kz (.bool (decide (((j:Nat):Int) < ((a.aF.ls.length:Nat):Int)))) (nt (EP ?_)))
 by_cases dB:((j:Nat):Int) < ((a.aF.ls.length:Nat):Int)
 obtain⟨b,G⟩:=dG (ls:=ae) (i:=j) aV.len f3 (T.ro X) e9
 have bH:=eP aC G
 have jL:=(C _ (E0 G)).2.1
 have jM:s2 (s8 af.abs b.ai.ls)=b.ai.ls.length:=s6 ..
 have Z:(aV.abs b).ax≤18446744073709551615∧(aV.abs b).aY≤18446744073709551615∧s2 (aV.abs b).ai.ls≤24∧∀ z ∈ (aV.abs b).ai.ls,z.aU.length≤16∧z.au.ls.length≤4∧∀ q ∈ z.au.ls,q.bY.length≤12∧q.aU.length≤16:=B.2.2.2.2.2.1 _ (E0 bH)
 have hz260p0:b.ax≤18446744073709551615:=by have F:=Z.1; first | exact F | (simp only [aV.abs,s6] at F; exact F)
 have hz260p1:b.aY≤18446744073709551615:=by have F:=Z.2.1; first | exact F | (simp only [aV.abs,s6] at F; exact F)
 have hz260p2:b.ai.ls.length≤24:=by have F:=Z.2.2.1; first | exact F | (simp only [aV.abs,s6] at F; exact F)
 have fB:=drop_at bH
 refine jT (dT dB) (sk (EP (bo (sr (fw (.pointer (some ⟨ab p,ao p+j *4,none⟩)) (ET (lI) rfl rfl ((T.ro X).addr (i:=j) e6) e6) (fw (.agg (aV.cells b).toArray) (EY rfl (Fb (cs:=(aV.cells b)) Tryz.isAgg56 N6 ((T.ro X).elem aV.len G f3))) ?_))))))
 refine dK [vI 0, .int .u64 0, .int .u64 0, .slice none 0 0] 56 T ?_
 intro kZ lc iB
 refine dN (aV.cells b) 0 iB N6 ?_
 intro lg dC
 refine nt (EO (Mz rfl (La (aV.cells b) dC 0 Tryz.isAgg56 N6 ?_)))
 have iC:=dC.pf [1,4]
 obtain⟨bI,bJ⟩:∃ q,oI (dI.mk (E4 r)) (fF.mk b.aS b.ax b.aY (E4 (s8 af.abs b.ai.ls)))=q:=⟨_,rfl⟩
 obtain⟨lh,fC,bK,fD,jN⟩:=Fv iC
 refine WL.do rfl (Fw Tryz.call85 rfl rfl (tQ _ _ f (dI.mk (E4 r)) R S (fF.mk b.aS b.ax b.aY (E4 (s8 af.abs b.ai.ls))) b.ai.A b.ai.ls.length b.ai.c b.ai.ls bI fC (rfl:s8 af.abs b.ai.ls=s8 af.abs b.ai.ls) f0 (fun w9 h9=>oD (az (rfl:s8 af.abs b.ai.ls=s8 af.abs b.ai.ls)) ((bK _ (C _ (E0 G)).1) w9 h9)) (show s2 (s8 af.abs b.ai.ls)≤b.ai.c∧s2 (s8 af.abs b.ai.ls)≤9223372036854775807 from by omega) (fun x9 h9=>⟨bK _ ((C _ (E0 G)).2.2 x9 h9).1,((C _ (E0 G)).2.2 x9 h9).2⟩) f6 (by exact Z) bJ) ?_)
 rintro _ ll ⟨iD,iE,rfl,fE,bM⟩
 have dD:=fD _ _ fE
 have jO:=dD.rowC (i:=1) rfl
 replace bM:bI.xb.ls.length≤r.length+8000:=bM
 refine D0 (bN (ER (EO (fw (vJ (j+1)) (EQ (e:=C7.wrap (((j:Nat):Int)+1)) yk f1) (Mz rfl (D0 ?_))))))
 have iF:=dD.px [] [2] [1]
 exact E8 (j+1,iD,iE,bI.xb.ls) ⟨rfl,rfl,rfl,rfl,trivial⟩ (aH.2 ⟨iF,e6,e6,et (bG) (et (congrArg (fun q=>jD q r) fB) (ah bJ))⟩) (by show a.aF.ls.length - (j+1) < a.aF.ls.length - j; omega)
 refine jF (dF dB) (D1 (EX ?_))
 have fG:jD a.aF.ls Q.xb.ls=r:=et (bG) (et (congrArg (fun q=>jD q r) (eD (ls:=a.aF.ls) (i:=j) e6)) rfl)
 refine EX (Fg (Ff (res0 rfl) (D0 (Ff (res0 rfl) (ns (Mz rfl (Kz (vP f 0) (Kz (vP f 0) (Lz (.slice R r.length S) T 0 Tryz.isAgg134 (Az rfl (An rfl (rt (Fin.res (lT rfl rfl rfl) ?_)))))))))))))
 have iG:=T.pk [3]
 obtain⟨rfl,rfl⟩:=fT (hr.symm.trans (show _=(r,0) from et (ah aI) (et (ip bQ) (et (ah bY) (et (ah cz) (et (ah cK) (et (ah aR) (et (ah aU) (et (ah ed) (et (ah bn) (et (ah eY) (et (ah bE) (ah fG)))))))))))))
 exact⟨R,S,rfl,iG,(by first | omega | exact IU _)⟩
 refine jT (dT bQ) (sr (Mz rfl (Az rfl (An rfl (rt (tR (Fin.res (lT rfl rfl rfl) ?_)))))))
 have iH:Own w D iQ [row none 0 0 (q6 eB ([])) 5 1,blk I [vI a.ak,vU a.ax,vU a.bi,vU a.aI, .slice n a.ag.ls.length s, .slice o a.aj.ls.length t, .slice p a.aF.ls.length u] 33]:=fO.free (eZ 5 1)
 have iI:=iH.pk [0]
 obtain⟨rfl,rfl⟩:=fT (hr.symm.trans (show _=(([]:List UInt8),aL) from et (ah aI) (iN bQ)))
 exact⟨none,0,rfl,iI,(by first | omega | exact IU _)⟩
end Go.Proofs.YtbkagebjhbphaaaGreat
