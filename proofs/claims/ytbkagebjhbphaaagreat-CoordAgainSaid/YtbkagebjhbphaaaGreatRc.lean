/-
 record: the coordinator's state as bytes.
-/
import Derived.Test.YtbkagebjhbphaaaGreatRb
namespace Go.Proofs.YtbkagebjhbphaaaGreat
open Int renaming toNat→D2
open IntKind renaming i64→C7,u64→D3
open List renaming drop→r6,flatMap→q6,length→s2,length_map→s6,map→s8,mem_of_getElem?→E0
open Ll renaming mk→E4
open _root_.Go.Proofs.Tryz renaming call77→N7,call79→N9,func77→N8,isAgg28→E1,sizeOf56→O2,sizeOf60→O1,sizeOf89→O0
open WL renaming nil→D0
open Wp renaming exit→D1
set_option maxRecDepth 100000
open Go.RowKit
set_option linter.unusedVariables false
set_option linter.unusedSectionVars false
set_option linter.unusedSimpArgs false
def jH (e:dC):List bv→List UInt8→(List UInt8)
  | [],a=>a
  | c::d,a=>bnd (oI (dJ.mk (E4 a)) c) fun b=>jH e d b.xb.ls
def jI (e:dC):List bM→List UInt8→(List UInt8)
  | [],b=>b
  | a::d,b=>bnd (ni (dJ.mk (E4 b)) (bM.mk a.bi a.aS a.ax a.aU (E4 a.av.ls))) fun c=>jI e d c.xb.ls
def jJ:List fE→List UInt8→(List UInt8)
  | [],b=>b
  | a::d,b=>bnd (oU (dJ.mk (E4 b)) (fE.mk a.aS a.ax a.aU (E4 a.ah.ls))) fun c=>jJ d c.xb.ls
def eD (a:dC):(List UInt8) × Int:=
 bnd (jc a) fun b=>if b=0 then bnd (bX (dJ.mk (E4 ([67]))) (D2 (D3.wrap a.av))) fun g=>bnd (bX g a.ax) fun h=>bnd (bX h a.bf) fun i=>bnd (bX i a.aK) fun c=>bnd (bX c a.ag.ls.length) fun d=>bnd (jH a a.ag.ls d.xb.ls) fun sLrbtbbbbbL=>bnd (bX (dJ.mk (E4 sLrbtbbbbbL)) a.aj.ls.length) fun e=>bnd (jI a a.aj.ls e.xb.ls) fun sLrbtbbbbbLabL=>bnd (bX (dJ.mk (E4 sLrbtbbbbbLabL)) a.aI.ls.length) fun f=>bnd (jJ a.aI.ls f.xb.ls) fun sLrbtbbbbbLabLabL=>(sLrbtbbbbbLabLabL,0) else(([]:List UInt8),b)
set_option maxHeartbeats 4000000 in
theorem kg (w:World) (D:Nat→Prop) (a:dC) (n:Option Addr) (bU s:Nat) (o:Option Addr) (bV t:Nat) (aa:List aA) (p:Option Addr) (bW u:Nat) (ae:List aZ) (r0:List UInt8) (r1:Int) (H:Own w D w []) (dE:bU=a.ag.ls.length) (U:Ro w D fun w'=>bD w' 2 n a.ag.ls.length (q6 bv.cells a.ag.ls)) (iL:a.ag.ls.length≤s∧a.ag.ls.length≤9223372036854775807) (aB:s8 aA.abs aa=a.aj.ls) (dG:bV=a.aj.ls.length) (V:Ro w D fun w'=>bD w' 5 o a.aj.ls.length (q6 aA.cells aa)) (iM:a.aj.ls.length≤t∧a.aj.ls.length≤9223372036854775807) (W:∀ x ∈ aa,Ro w D (fun w'=>bD w' 1 x.av.A x.av.ls.length (q6 (eI .i64) x.av.ls))∧(x.av.ls.length≤x.av.c∧x.av.ls.length≤9223372036854775807)) (aC:s8 aZ.abs ae=a.aI.ls) (dH:bW=a.aI.ls.length) (X:Ro w D fun w'=>bD w' 4 p a.aI.ls.length (q6 aZ.cells ae)) (iO:a.aI.ls.length≤u∧a.aI.ls.length≤9223372036854775807) (C:∀ x ∈ ae,Ro w D (fun w'=>bD w' 3 x.ah.A x.ah.ls.length (q6 af.cells x.ah.ls))∧(x.ah.ls.length≤x.ah.c∧x.ah.ls.length≤9223372036854775807)∧(∀ y1 ∈ x.ah.ls,Ro w D (fun w'=>bD w' 2 y1.au.A y1.au.ls.length (q6 aL.cells y1.au.ls))∧(y1.au.ls.length≤y1.au.c∧y1.au.ls.length≤9223372036854775807))) (lm:a.ag.ls.length≤140737488355328∧a.aj.ls.length≤140737488355328∧a.aI.ls.length≤140737488355328) (iP:EA a) (hr:eD a=(r0,r1)):
    Calls Tryz.prog 54 #[.agg #[vI a.av,vU a.ax,vU a.bf,vU a.aK, .slice n bU s, .slice o bV t, .slice p bW u]] w (dR fun v w'=> ∃ (B0:Option Addr) (b0:Nat),v= .tuple #[.slice B0 r0.length b0,vI r1]∧Own w D w' [row B0 r0.length b0 (q6 eB r0) 5 1]∧(r0.length≤100000)):=by
 subst dE dG dH
 have iJ:=az aB
 have iK:=az aC
 refine cb Tryz.func54 ?_
 refine sr ?_
 refine dM [vI a.av,vU a.ax,vU a.bf,vU a.aK, .slice n a.ag.ls.length s, .slice o a.aj.ls.length t, .slice p a.aI.ls.length u] 33 H ?_
 intro I lq fI
 refine Az rfl (An rfl (FU (sr (La ([vI a.av,vU a.ax,vU a.bf,vU a.aK, .slice n a.ag.ls.length s, .slice o a.aj.ls.length t, .slice p a.aI.ls.length u]) fI 0 Tryz.isAgg33 Tryz.sizeOf33 ?_))))
 obtain⟨aK,aI⟩:∃ q,jc a=q:=⟨_,rfl⟩
 obtain⟨lu,fJ,L,fK,jS⟩:=FY fI
 refine cl Tryz.call19 (nW _ _ a n a.ag.ls.length s o a.aj.ls.length t aa p a.aI.ls.length u ae aK fJ rfl (L _ U) (show a.ag.ls.length≤s∧a.ag.ls.length≤9223372036854775807 from by omega) aB rfl (L _ V) (show a.aj.ls.length≤t∧a.aj.ls.length≤9223372036854775807 from by omega) (fun x9 h9=>⟨L _ (W x9 h9).1,(W x9 h9).2⟩) aC rfl (L _ X) (show a.aI.ls.length≤u∧a.aI.ls.length≤9223372036854775807 from by omega) (fun x9 h9=>⟨L _ (C x9 h9).1,(C x9 h9).2.1,(fun y1 k1=>⟨L _ ((C x9 h9).2.2 y1 k1).1,((C x9 h9).2.2 y1 k1).2⟩)⟩) e8 aI) ?_
 rintro _ iQ ⟨rfl,fM⟩
 have fO:=fK _ _ fM
 refine Ar rfl (Mz rfl (fw (.bool (decide (¬ (aK=0)))) (Gi (e:= !(decide (aK=0))) yk decide_not.symm) (nt ?_)))
 by_cases bQ:aK=0
 refine jF (dF (JP bQ)) (sk (sr ?_))
 have B:=EI (by rw [aI]; omega) iP
 have jV:a.ag.ls.length≤6:=B.1
 have jW:a.aj.ls.length≤8:=B.2.2.1
 have jX:a.aI.ls.length≤4:=B.2.2.2.2.1
 have jY:a.ax≤18446744073709551615:=B.2.2.2.2.2.2.1
 have jZ:a.bf≤18446744073709551615:=B.2.2.2.2.2.2.2.1
 have j3:a.aK≤18446744073709551615:=B.2.2.2.2.2.2.2.2
 refine kL [.int .u8 67] 5 1 1 fO ?_
 intro bR lv dI
 replace dI:=Gq (y:=row bR 1 1 (q6 eB ([67])) 5 1) rfl dI
 refine Kz (.agg #[.slice bR 1 1]) ?_
 refine dM [.slice bR 1 1] 159 dI ?_
 intro f lw fP
 refine Ar rfl (Mz rfl (Kz (vP I 0) (Lz (vI a.av) fP 2 Tryz.isAgg3 ?_)))
 refine WL.do rfl (Gd N7 rfl ?_ (fun _ _ k=>k))
 refine cb N8 ?_
 refine FT (Mz rfl (Mz rfl ?_))
 have j4:D2 (D3.wrap a.av)≤18446744073709551615:=mh _
 refine fw (vU (D2 (D3.wrap a.av))) (FV (e:=D3.wrap a.av) yk (fC _)) ?_
 obtain⟨aM,bY⟩:∃ q,bX (dJ.mk (E4 ([67]))) (D2 (D3.wrap a.av))=q:=⟨_,rfl⟩
 obtain⟨lC,fQ,j5,fT,j6⟩:=Gm fP
 refine cl N9 (dQ _ _ f (dJ.mk (E4 ([67]))) bR 1 (D2 (D3.wrap a.av)) aM fQ f6 bY) ?_
 rintro _ lD ⟨iR,iT,rfl,fU,cu⟩
 have aN:=fT _ _ fU
 have ko:=aN.rowC (i:=1) rfl
 replace cu:aM.xb.ls.length≤1+10:=cu
 refine D0 (Gf (res0 rfl) (ns (Mz rfl (Kz (.func (.func 79) #[vP f 0] #[]) (Kz (vP I 1) (Lz (vU a.ax) aN 2 E1 (Kz (vP I 2) (Lz (vU a.bf) aN 2 E1 (Kz (vP I 3) (Lz (vU a.aK) aN 2 E1 ?_))))))))))
 refine kL [vU a.ax,vU a.bf,vU a.aK] 28 1 3 aN ?_
 intro E lF aO
 replace aO:=Gq (y:=row E 3 3 (q6 (eN .u64) ([a.ax,a.bf,a.aK])) 28 1) rfl aO
 refine WL.do rfl (Gd Tryz.call78 rfl ?_ (fun _ _ k=>k))
 refine cb Tryz.func78 ?_
 refine sr (Mz rfl (Kz (vI 3) (Mn rfl (bo (Hr 200 (sr (Kz (.bool true) (nt (FU (jt (sk (FU (bo (sr ?_))))))))))))))
 have fV:([a.ax,a.bf,a.aK]:List Nat)[0]? =some a.ax:=rfl
 refine fw (.pointer (some ⟨ab E,ao E+0 *1,none⟩)) (FZ (uC) rfl rfl ((aO.rds (i:=0) rfl).addr (i:=0) e6) e6) (fw (vU a.ax) (F5 rfl (bZ.one E1 (((aO.rds (i:=0) rfl).elem pE fV f3).at_ (k:=0) rfl))) (An rfl (FT (Mz rfl (Mz rfl ?_)))))
 have iU:=aO.pb [0,3]
 obtain⟨aP,cz⟩:∃ q,bX aM a.ax=q:=⟨_,rfl⟩
 obtain⟨lG,fZ,kr,gp,ku⟩:=Gm iU
 refine WL.do rfl (Gp N9 rfl rfl (dQ _ _ f aM iR iT a.ax aP fZ f6 cz) ?_)
 rintro _ lH ⟨iV,iW,rfl,gq,cB⟩
 have bS:=gp _ _ gq
 have kv:=bS.rowC (i:=1) rfl
 replace cB:aP.xb.ls.length≤aM.xb.ls.length+10:=cB
 refine D0 (bN (FW (FT (Kz (vI 1) (Mz rfl (D0 (GL [(8,vI 1),(7,vI 3),(6, .slice E 3 3),(0, .func (.func 79) #[vP f 0] #[])] ⟨rfl,rfl,rfl,rfl,trivial⟩ (sr (Kz (.bool true) (nt (FU (jt (sk (FU (bo (sr ?_))))))))))))))))
 have gu:([a.ax,a.bf,a.aK]:List Nat)[1]? =some a.bf:=rfl
 refine fw (.pointer (some ⟨ab E,ao E+1 *1,none⟩)) (FZ (uC) rfl rfl ((bS.rds (i:=2) rfl).addr (i:=1) e6) e6) (fw (vU a.bf) (F5 rfl (bZ.one E1 (((bS.rds (i:=2) rfl).elem pE gu f3).at_ (k:=0) rfl))) (An rfl (FT (Mz rfl (Mz rfl ?_)))))
 obtain⟨aQ,cK⟩:∃ q,bX aP a.bf=q:=⟨_,rfl⟩
 obtain⟨lI,gy,kw,gz,ky⟩:=Gm bS
 refine WL.do rfl (Gp N9 rfl rfl (dQ _ _ f aP iV iW a.bf aQ gy f6 cK) ?_)
 rintro _ lJ ⟨iX,iY,rfl,gB,cO⟩
 have bT:=gz _ _ gB
 have kz:=bT.rowC (i:=1) rfl
 replace cO:aQ.xb.ls.length≤aP.xb.ls.length+10:=cO
 refine D0 (bN (FW (FT (Kz (vI 2) (Mz rfl (D0 (GL [(8,vI 2),(7,vI 3),(6, .slice E 3 3),(0, .func (.func 79) #[vP f 0] #[])] ⟨rfl,rfl,rfl,rfl,trivial⟩ (sr (Kz (.bool true) (nt (FU (jt (sk (FU (bo (sr ?_))))))))))))))))
 have gD:([a.ax,a.bf,a.aK]:List Nat)[2]? =some a.aK:=rfl
 refine fw (.pointer (some ⟨ab E,ao E+2 *1,none⟩)) (FZ (uC) rfl rfl ((bT.rds (i:=2) rfl).addr (i:=2) e6) e6) (fw (vU a.aK) (F5 rfl (bZ.one E1 (((bT.rds (i:=2) rfl).elem pE gD f3).at_ (k:=0) rfl))) (An rfl (FT (Mz rfl (Mz rfl ?_)))))
 obtain⟨ag,aR⟩:∃ q,bX aQ a.aK=q:=⟨_,rfl⟩
 obtain⟨lK,gF,iZ,dL,ja⟩:=Gm bT
 refine WL.do rfl (Gp N9 rfl rfl (dQ _ _ f aQ iX iY a.aK ag gF f6 aR) ?_)
 rintro _ kC ⟨gG,gH,rfl,dO,aS⟩
 have aT:=dL _ _ dO
 have jb:=aT.rowC (i:=1) rfl
 replace aS:ag.xb.ls.length≤aQ.xb.ls.length+10:=aS
 refine D0 (bN (FW (FT (Kz (vI 3) (Mz rfl (D0 (GL [(8,vI 3),(7,vI 3),(6, .slice E 3 3),(0, .func (.func 79) #[vP f 0] #[])] ⟨rfl,rfl,rfl,rfl,trivial⟩ (sr (Kz (.bool false) (nt (FU (jf (D1 (F4 (F4 (Gg (Gf (res0 rfl) (ns (Mz rfl (Kz (vP I 4) (Lz (.slice n a.ag.ls.length s) aT 3 Tryz.isAgg29 (Mz rfl (Kz (.func (.func 81) #[vP f 0] #[]) ?_)))))))))))))))))))))))
 refine WL.do rfl (Gd Tryz.call80 rfl ?_ (fun _ _ k=>k))
 refine cb Tryz.func80 ?_
 refine sr (Mz rfl (Mz rfl (Kz (vJ a.ag.ls.length) ?_)))
 refine WL.do rfl (Gd N7 rfl ?_ (fun _ _ k=>k))
 refine cb N8 ?_
 refine FT (Mz rfl (Mz rfl (fw (vU a.ag.ls.length) (FV (e:=D3.wrap ((a.ag.ls.length:Nat):Int)) yk (IntWalk.u64_in _ e6)) ?_)))
 obtain⟨M,aV⟩:∃ q,bX ag a.ag.ls.length=q:=⟨_,rfl⟩
 obtain⟨kD,dP,jd,dS,je⟩:=Gm aT
 refine cl N9 (dQ _ _ f ag gG gH a.ag.ls.length M dP f6 aV) ?_
 rintro _ kE ⟨gI,gJ,rfl,dU,aW⟩
 have cZ:=dS _ _ dU
 have jg:=cZ.rowC (i:=1) rfl
 replace aW:M.xb.ls.length≤ag.xb.ls.length+10:=aW
 refine D0 (Gf (res0 rfl) (nt (FT (Mz rfl (Mz rfl ?_)))))
 refine WL.do rfl (Gd Tryz.call118 rfl ?_ (fun _ _ k=>k))
 refine cb Tryz.func118 ?_
 refine sr (Mz rfl (Kz (vJ a.ag.ls.length) (Mn rfl (bo ?_))))
 have gK:=cZ.pb [1]
 obtain⟨gL,aD⟩:=rX fun(g:Nat) (aj:Option Addr) (ak:Nat) (l:List UInt8) (w':World)=>Own w D w' [blk f [.slice aj l.length ak] 159,row E 3 3 (q6 (eN .u64) ([a.ax,a.bf,a.aK])) 28 1,blk I [vI a.av,vU a.ax,vU a.bf,vU a.aK, .slice n a.ag.ls.length s, .slice o a.aj.ls.length t, .slice p a.aI.ls.length u] 33,row aj l.length ak (q6 eB l) 5 1]∧g≤a.ag.ls.length∧((l.length:Nat):Int)≤((M.xb.ls.length:Nat):Int)+40 *((g:Nat):Int)∧jH a a.ag.ls M.xb.ls=jH a (r6 g a.ag.ls) l
 refine Wp.loop (fun i:Nat × (Option Addr) × Nat × (List UInt8)=> [(8,vJ i.1),(7,vJ a.ag.ls.length),(6, .slice n a.ag.ls.length s),(0, .func (.func 81) #[vP f 0] #[])]) gL (fun i=>a.ag.ls.length - i.1) (0,gI,gJ,M.xb.ls) ⟨rfl,rfl,rfl,rfl,trivial⟩ (aD.2 ⟨gK,e6,e6,rfl⟩) ?_
 rintro ⟨g,aj,ak,l⟩ kF dV
 obtain⟨N,jh,ji,aX⟩:=aD.1 dV
 refine sr (Kz (.bool (decide (((g:Nat):Int) < ((a.ag.ls.length:Nat):Int)))) (nt (FU ?_)))
 by_cases df:((g:Nat):Int) < ((a.ag.ls.length:Nat):Int)
 obtain⟨J,aF⟩:=dK (ls:=a.ag.ls) (i:=g) bv.len f3 (N.ro U) e9
 have dW:J.bK.length≤12:=B.2.1 _ (E0 aF)
 have dX:=drop_at aF
 refine jT (dT df) (sk (FU (bo (sr (fw (.pointer (some ⟨ab n,ao n+g *2,none⟩)) (FZ (qy) rfl rfl ((N.ro U).addr (i:=g) e6) e6) (fw (.agg (bv.cells J).toArray) (F5 rfl (Gc (cs:=(bv.cells J)) Tryz.isAgg89 O0 ((N.ro U).elem bv.len aF f3))) ?_))))))
 refine dM [.string ⟨List.toArray ([])⟩,vI 0] 89 N ?_
 intro kH kI gM
 refine dN (bv.cells J) 0 gM O0 ?_
 intro kJ dh
 refine nt (FT (Mz rfl (La (bv.cells J) dh 0 Tryz.isAgg89 O0 ?_)))
 have gN:=dh.pf [1,4]
 obtain⟨aY,bf⟩:∃ q,oI (dJ.mk (E4 l)) J=q:=⟨_,rfl⟩
 obtain⟨kK,dY,jk,dZ,jl⟩:=Gm gN
 refine WL.do rfl (Gp Tryz.call81 rfl rfl (tQ _ _ f (dJ.mk (E4 l)) aj ak J aY dY f6 (by exact dW) bf) ?_)
 rintro _ kM ⟨gP,gQ,rfl,d9,bg⟩
 have di:=dZ _ _ d9
 have jm:=di.rowC (i:=1) rfl
 replace bg:aY.xb.ls.length≤l.length+40:=bg
 refine D0 (bN (FW (FT (fw (vJ (g+1)) (FV (e:=C7.wrap (((g:Nat):Int)+1)) yk f1) (Mz rfl (D0 ?_))))))
 have gT:=di.px [] [2] [1]
 exact F9 (g+1,gP,gQ,aY.xb.ls) ⟨rfl,rfl,rfl,rfl,trivial⟩ (aD.2 ⟨gT,e6,e6,et (aX) (et (congrArg (fun q=>jH a q l) dX) (ai bf))⟩) (by show a.ag.ls.length - (g+1) < a.ag.ls.length - g; omega)
 refine jF (dF df) (D1 (F4 ?_))
 have ed:jH a a.ag.ls M.xb.ls=l:=et (aX) (et (congrArg (fun q=>jH a q l) (eZ (ls:=a.ag.ls) (i:=g) e6)) rfl)
 refine F4 (Gg (Gf (res0 rfl) (D0 (Gf (res0 rfl) (ns (Mz rfl (Kz (vP I 5) (Lz (.slice o a.aj.ls.length t) N 2 Tryz.isAgg30 (Mz rfl (Kz (.func (.func 83) #[vP f 0] #[]) ?_))))))))))
 refine WL.do rfl (Gd Tryz.call82 rfl ?_ (fun _ _ k=>k))
 refine cb Tryz.func82 ?_
 refine sr (Mz rfl (Mz rfl (Kz (vJ a.aj.ls.length) ?_)))
 refine WL.do rfl (Gd N7 rfl ?_ (fun _ _ k=>k))
 refine cb N8 ?_
 refine FT (Mz rfl (Mz rfl (fw (vU a.aj.ls.length) (FV (e:=D3.wrap ((a.aj.ls.length:Nat):Int)) yk (IntWalk.u64_in _ e6)) ?_)))
 have gU:=N.pb [1,2]
 obtain⟨O,bn⟩:∃ q,bX (dJ.mk (E4 l)) a.aj.ls.length=q:=⟨_,rfl⟩
 obtain⟨kN,ek,jo,eu,jq⟩:=Gm gU
 refine cl N9 (dQ _ _ f (dJ.mk (E4 l)) aj ak a.aj.ls.length O ek f6 bn) ?_
 rintro _ kP ⟨gV,gW,rfl,eF,bq⟩
 have dm:=eu _ _ eF
 have jr:=dm.rowC (i:=1) rfl
 replace bq:O.xb.ls.length≤l.length+10:=bq
 refine D0 (Gf (res0 rfl) (nt (FT (Mz rfl (Mz rfl ?_)))))
 refine WL.do rfl (Gd Tryz.call120 rfl ?_ (fun _ _ k=>k))
 refine cb Tryz.func120 ?_
 refine sr (Mz rfl (Kz (vJ a.aj.ls.length) (Mn rfl (bo ?_))))
 have gX:=dm.pb [1]
 obtain⟨gY,aG⟩:=rX fun(h:Nat) (au:Option Addr) (ay:Nat) (m:List UInt8) (w':World)=>Own w D w' [blk f [.slice au m.length ay] 159,row E 3 3 (q6 (eN .u64) ([a.ax,a.bf,a.aK])) 28 1,blk I [vI a.av,vU a.ax,vU a.bf,vU a.aK, .slice n a.ag.ls.length s, .slice o a.aj.ls.length t, .slice p a.aI.ls.length u] 33,row au m.length ay (q6 eB m) 5 1]∧h≤a.aj.ls.length∧((m.length:Nat):Int)≤((O.xb.ls.length:Nat):Int)+100 *((h:Nat):Int)∧jI a a.aj.ls O.xb.ls=jI a (r6 h a.aj.ls) m
 refine Wp.loop (fun i:Nat × (Option Addr) × Nat × (List UInt8)=> [(8,vJ i.1),(7,vJ a.aj.ls.length),(6, .slice o a.aj.ls.length t),(0, .func (.func 83) #[vP f 0] #[])]) gY (fun i=>a.aj.ls.length - i.1) (0,gV,gW,O.xb.ls) ⟨rfl,rfl,rfl,rfl,trivial⟩ (aG.2 ⟨gX,e6,e6,rfl⟩) ?_
 rintro ⟨h,au,ay,m⟩ kQ eG
 obtain⟨P,jv,jw,bu⟩:=aG.1 eG
 refine sr (Kz (.bool (decide (((h:Nat):Int) < ((a.aj.ls.length:Nat):Int)))) (nt (FU ?_)))
 by_cases dn:((h:Nat):Int) < ((a.aj.ls.length:Nat):Int)
 obtain⟨d,Y⟩:=dK (ls:=aa) (i:=h) aA.len f3 (P.ro V) e9
 have bz:=fo aB Y
 have jy:=(W _ (E0 Y)).2
 have K:(aA.abs d).bi≤18446744073709551615∧(aA.abs d).ax≤18446744073709551615∧(aA.abs d).aU≤18446744073709551615∧s2 (aA.abs d).av.ls≤4:=B.2.2.2.1 _ (E0 bz)
 have hz201p0:d.bi≤18446744073709551615:=by have F:=K.1; first | exact F | (simp only [aA.abs,s6] at F; exact F)
 have hz201p1:d.ax≤18446744073709551615:=by have F:=K.2.1; first | exact F | (simp only [aA.abs,s6] at F; exact F)
 have hz201p2:d.aU≤18446744073709551615:=by have F:=K.2.2.1; first | exact F | (simp only [aA.abs,s6] at F; exact F)
 have hz201p3:d.av.ls.length≤4:=by have F:=K.2.2.2; first | exact F | (simp only [aA.abs,s6] at F; exact F)
 have eH:=drop_at bz
 refine jT (dT dn) (sk (FU (bo (sr (fw (.pointer (some ⟨ab o,ao o+h *5,none⟩)) (FZ (kG) rfl rfl ((P.ro V).addr (i:=h) e6) e6) (fw (.agg (aA.cells d).toArray) (F5 rfl (Gc (cs:=(aA.cells d)) Tryz.isAgg60 O1 ((P.ro V).elem aA.len Y f3))) ?_))))))
 refine dM [.int .u64 0,vI 0, .int .u64 0, .int .u64 0, .slice none 0 0] 60 P ?_
 intro kR kS gZ
 refine dN (aA.cells d) 0 gZ O1 ?_
 intro kT dw
 refine nt (FT (Mz rfl (La (aA.cells d) dw 0 Tryz.isAgg60 O1 ?_)))
 have ib:=dw.pf [1,4]
 obtain⟨bA,bB⟩:∃ q,ni (dJ.mk (E4 m)) (bM.mk d.bi d.aS d.ax d.aU (E4 d.av.ls))=q:=⟨_,rfl⟩
 obtain⟨kU,eO,eP,eQ,jA⟩:=Gm ib
 refine WL.do rfl (Gp Tryz.call83 rfl rfl (sj _ _ f (dJ.mk (E4 m)) au ay (bM.mk d.bi d.aS d.ax d.aU (E4 d.av.ls)) d.av.A d.av.ls.length d.av.c bA eO rfl (eP _ (W _ (E0 Y)).1) (show d.av.ls.length≤d.av.c∧d.av.ls.length≤9223372036854775807 from by omega) f6 (by exact K) bB) ?_)
 rintro _ kV ⟨ic,ig,rfl,eT,bC⟩
 have dx:=eQ _ _ eT
 have jB:=dx.rowC (i:=1) rfl
 replace bC:bA.xb.ls.length≤m.length+100:=bC
 refine D0 (bN (FW (FT (fw (vJ (h+1)) (FV (e:=C7.wrap (((h:Nat):Int)+1)) yk f1) (Mz rfl (D0 ?_))))))
 have ik:=dx.px [] [2] [1]
 exact F9 (h+1,ic,ig,bA.xb.ls) ⟨rfl,rfl,rfl,rfl,trivial⟩ (aG.2 ⟨ik,e6,e6,et (bu) (et (congrArg (fun q=>jI a q m) eH) (ai bB))⟩) (by show a.aj.ls.length - (h+1) < a.aj.ls.length - h; omega)
 refine jF (dF dn) (D1 (F4 ?_))
 have eU:jI a a.aj.ls O.xb.ls=m:=et (bu) (et (congrArg (fun q=>jI a q m) (eZ (ls:=a.aj.ls) (i:=h) e6)) rfl)
 refine F4 (Gg (Gf (res0 rfl) (D0 (Gf (res0 rfl) (ns (Mz rfl (Kz (vP I 6) (Lz (.slice p a.aI.ls.length u) P 2 Tryz.isAgg31 (Mz rfl (Kz (.func (.func 85) #[vP f 0] #[]) ?_))))))))))
 refine WL.do rfl (Gd Tryz.call84 rfl ?_ (fun _ _ k=>k))
 refine cb Tryz.func84 ?_
 refine sr (Mz rfl (Mz rfl (Kz (vJ a.aI.ls.length) ?_)))
 refine WL.do rfl (Gd N7 rfl ?_ (fun _ _ k=>k))
 refine cb N8 ?_
 refine FT (Mz rfl (Mz rfl (fw (vU a.aI.ls.length) (FV (e:=D3.wrap ((a.aI.ls.length:Nat):Int)) yk (IntWalk.u64_in _ e6)) ?_)))
 have il:=P.pb [1,2]
 obtain⟨Q,bE⟩:∃ q,bX (dJ.mk (E4 m)) a.aI.ls.length=q:=⟨_,rfl⟩
 obtain⟨kW,eX,jC,eY,jD⟩:=Gm il
 refine cl N9 (dQ _ _ f (dJ.mk (E4 m)) au ay a.aI.ls.length Q eX f6 bE) ?_
 rintro _ kX ⟨iq,iw,rfl,fe,bF⟩
 have dz:=eY _ _ fe
 have jE:=dz.rowC (i:=1) rfl
 replace bF:Q.xb.ls.length≤m.length+10:=bF
 refine D0 (Gf (res0 rfl) (nt (FT (Mz rfl (Mz rfl ?_)))))
 refine WL.do rfl (Gd Tryz.call122 rfl ?_ (fun _ _ k=>k))
 refine cb Tryz.func122 ?_
 refine sr (Mz rfl (Kz (vJ a.aI.ls.length) (Mn rfl (bo ?_))))
 have iy:=dz.pb [1]
 obtain⟨iA,aH⟩:=rX fun(j:Nat) (R:Option Addr) (S:Nat) (r:List UInt8) (w':World)=>Own w D w' [blk f [.slice R r.length S] 159,row E 3 3 (q6 (eN .u64) ([a.ax,a.bf,a.aK])) 28 1,blk I [vI a.av,vU a.ax,vU a.bf,vU a.aK, .slice n a.ag.ls.length s, .slice o a.aj.ls.length t, .slice p a.aI.ls.length u] 33,row R r.length S (q6 eB r) 5 1]∧j≤a.aI.ls.length∧((r.length:Nat):Int)≤((Q.xb.ls.length:Nat):Int)+8000 *((j:Nat):Int)∧jJ a.aI.ls Q.xb.ls=jJ (r6 j a.aI.ls) r
 refine Wp.loop (fun i:Nat × (Option Addr) × Nat × (List UInt8)=> [(8,vJ i.1),(7,vJ a.aI.ls.length),(6, .slice p a.aI.ls.length u),(0, .func (.func 85) #[vP f 0] #[])]) iA (fun i=>a.aI.ls.length - i.1) (0,iq,iw,Q.xb.ls) ⟨rfl,rfl,rfl,rfl,trivial⟩ (aH.2 ⟨iy,e6,e6,rfl⟩) ?_
 rintro ⟨j,R,S,r⟩ kY fq
 obtain⟨T,jG,jK,bG⟩:=aH.1 fq
 refine sr (Kz (.bool (decide (((j:Nat):Int) < ((a.aI.ls.length:Nat):Int)))) (nt (FU ?_)))
 by_cases dA:((j:Nat):Int) < ((a.aI.ls.length:Nat):Int)
 obtain⟨b,G⟩:=dK (ls:=ae) (i:=j) aZ.len f3 (T.ro X) e9
 have bH:=fo aC G
 have jL:=(C _ (E0 G)).2.1
 have jM:s2 (s8 af.abs b.ah.ls)=b.ah.ls.length:=s6 ..
 have Z:(aZ.abs b).ax≤18446744073709551615∧(aZ.abs b).aU≤18446744073709551615∧s2 (aZ.abs b).ah.ls≤24∧∀ z ∈ (aZ.abs b).ah.ls,z.aW.length≤16∧z.au.ls.length≤4∧∀ q ∈ z.au.ls,q.bY.length≤12∧q.aW.length≤16:=B.2.2.2.2.2.1 _ (E0 bH)
 have hz260p0:b.ax≤18446744073709551615:=by have F:=Z.1; first | exact F | (simp only [aZ.abs,s6] at F; exact F)
 have hz260p1:b.aU≤18446744073709551615:=by have F:=Z.2.1; first | exact F | (simp only [aZ.abs,s6] at F; exact F)
 have hz260p2:b.ah.ls.length≤24:=by have F:=Z.2.2.1; first | exact F | (simp only [aZ.abs,s6] at F; exact F)
 have fu:=drop_at bH
 refine jT (dT dA) (sk (FU (bo (sr (fw (.pointer (some ⟨ab p,ao p+j *4,none⟩)) (FZ (lN) rfl rfl ((T.ro X).addr (i:=j) e6) e6) (fw (.agg (aZ.cells b).toArray) (F5 rfl (Gc (cs:=(aZ.cells b)) Tryz.isAgg56 O2 ((T.ro X).elem aZ.len G f3))) ?_))))))
 refine dM [vI 0, .int .u64 0, .int .u64 0, .slice none 0 0] 56 T ?_
 intro kZ lc iB
 refine dN (aZ.cells b) 0 iB O2 ?_
 intro lg dB
 refine nt (FT (Mz rfl (La (aZ.cells b) dB 0 Tryz.isAgg56 O2 ?_)))
 have iC:=dB.pf [1,4]
 obtain⟨bI,bJ⟩:∃ q,oU (dJ.mk (E4 r)) (fE.mk b.aS b.ax b.aU (E4 (s8 af.abs b.ah.ls)))=q:=⟨_,rfl⟩
 obtain⟨lh,fA,bK,fD,jN⟩:=Gm iC
 refine WL.do rfl (Gp Tryz.call85 rfl rfl (um _ _ f (dJ.mk (E4 r)) R S (fE.mk b.aS b.ax b.aU (E4 (s8 af.abs b.ah.ls))) b.ah.A b.ah.ls.length b.ah.c b.ah.ls bI fA (rfl:s8 af.abs b.ah.ls=s8 af.abs b.ah.ls) f0 (fun w9 h9=>o8 (az (rfl:s8 af.abs b.ah.ls=s8 af.abs b.ah.ls)) ((bK _ (C _ (E0 G)).1) w9 h9)) (show s2 (s8 af.abs b.ah.ls)≤b.ah.c∧s2 (s8 af.abs b.ah.ls)≤9223372036854775807 from by omega) (fun x9 h9=>⟨bK _ ((C _ (E0 G)).2.2 x9 h9).1,((C _ (E0 G)).2.2 x9 h9).2⟩) f6 (by exact Z) bJ) ?_)
 rintro _ ll ⟨iD,iE,rfl,fF,bL⟩
 have dD:=fD _ _ fF
 have jO:=dD.rowC (i:=1) rfl
 replace bL:bI.xb.ls.length≤r.length+8000:=bL
 refine D0 (bN (FW (FT (fw (vJ (j+1)) (FV (e:=C7.wrap (((j:Nat):Int)+1)) yk f1) (Mz rfl (D0 ?_))))))
 have iF:=dD.px [] [2] [1]
 exact F9 (j+1,iD,iE,bI.xb.ls) ⟨rfl,rfl,rfl,rfl,trivial⟩ (aH.2 ⟨iF,e6,e6,et (bG) (et (congrArg (fun q=>jJ q r) fu) (ai bJ))⟩) (by show a.aI.ls.length - (j+1) < a.aI.ls.length - j; omega)
 refine jF (dF dA) (D1 (F4 ?_))
 have fG:jJ a.aI.ls Q.xb.ls=r:=et (bG) (et (congrArg (fun q=>jJ q r) (eZ (ls:=a.aI.ls) (i:=j) e6)) rfl)
 refine F4 (Gg (Gf (res0 rfl) (D0 (Gf (res0 rfl) (ns (Mz rfl (Kz (vP f 0) (Kz (vP f 0) (Lz (.slice R r.length S) T 0 Tryz.isAgg134 (Az rfl (An rfl (rt (Fin.res (lY rfl rfl rfl) ?_)))))))))))))
 have iG:=T.pk [3]
 obtain⟨rfl,rfl⟩:=gm (hr.symm.trans (show _=(r,0) from et (ai aI) (et (ip bQ) (et (ai bY) (et (ai cz) (et (ai cK) (et (ai aR) (et (ai aV) (et (ai ed) (et (ai bn) (et (ai eU) (et (ai bE) (ai fG)))))))))))))
 exact⟨R,S,rfl,iG,(by first | omega | exact JO _)⟩
 refine jT (dT bQ) (sr (Mz rfl (Az rfl (An rfl (rt (tR (Fin.res (lY rfl rfl rfl) ?_)))))))
 have iH:Own w D iQ [row none 0 0 (q6 eB ([])) 5 1,blk I [vI a.av,vU a.ax,vU a.bf,vU a.aK, .slice n a.ag.ls.length s, .slice o a.aj.ls.length t, .slice p a.aI.ls.length u] 33]:=fO.free (fB 5 1)
 have iI:=iH.pk [0]
 obtain⟨rfl,rfl⟩:=gm (hr.symm.trans (show _=(([]:List UInt8),aK) from et (ai aI) (iN bQ)))
 exact⟨none,0,rfl,iI,(by first | omega | exact JO _)⟩
end Go.Proofs.YtbkagebjhbphaaaGreat
