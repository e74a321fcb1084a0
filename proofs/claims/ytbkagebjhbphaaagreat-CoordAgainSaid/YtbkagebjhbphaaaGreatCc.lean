/-
 coord: what it answers.
-/
import Derived.Test.YtbkagebjhbphaaaGreatCoM
import Derived.Test.YtbkagebjhbphaaaGreatRc
import Derived.Test.YtbkagebjhbphaaaGreatWc
import Derived.Test.YtbkagebjhbphaaaGreatOc
import Derived.Test.YtbkagebjhbphaaaGreatGc
namespace Go.Proofs.YtbkagebjhbphaaaGreat
open Int renaming toNat→D2
open IntKind renaming i64→C7,u64→D3
open List renaming flatMap→q6,getD→C2,length→s2,length_map→s6,map→s8,mem_of_getElem?→E0,not_mem_nil→B3
open Ll renaming mk→E4
open _root_.Go.Proofs.Tryz renaming call65→O6,call89→O4,func89→O5,isAgg24→O3,isAgg28→E1,prog→y4,sizeOf81→O7
open WL renaming nil→D0
set_option maxRecDepth 100000
open Go.RowKit
set_option linter.unusedVariables false
set_option linter.unusedSectionVars false
set_option linter.unusedSimpArgs false
def gP (a:aB):Nat:=
 D2 (D3.wrap (((D2 (D3.wrap (((fD a.aa.ax 32:Nat):Int)+((a.bI:Nat):Int))):Nat):Int)+1))
theorem qf (w:World) (D:Nat→Prop) (x:Nat) (a:aB) (b:Option Addr) (c:Nat) (d:Option Addr) (f:Nat) (g:Option Addr) (h:Nat) (i:Option Addr) (j:Nat) (k:Option Addr) (l:Nat) (n:Option Addr) (o:Nat) (p:Option Addr) (q:Nat) (r:Option Addr) (s:Nat) (t:Option Addr) (u:Nat) (z:Nat) (H:Own w D w [blk x [.int .i64 a.aa.av, .int .u64 ((a.aa.ax:Nat):Int), .int .u64 ((a.aa.bf:Nat):Int), .int .u64 ((a.aa.aK:Nat):Int), .slice b a.aa.ag.ls.length c, .slice d a.aa.aj.ls.length f, .slice g a.aa.aI.ls.length h, .int .u64 ((a.bI:Nat):Int), .slice i a.ak.ls.length j, .bool a.aR.aT, .int .u64 ((a.aR.aF:Nat):Int), .int .i64 a.aR.bn, .slice k a.aR.ae.ls.length l, .bool a.aN.aT, .int .u64 ((a.aN.aF:Nat):Int), .int .i64 a.aN.bn, .slice n a.aN.ae.ls.length o, .bool a.aO.aT, .int .u64 ((a.aO.aF:Nat):Int), .int .i64 a.aO.bn, .slice p a.aO.ae.ls.length q, .bool a.aP.aT, .int .u64 ((a.aP.aF:Nat):Int), .int .i64 a.aP.bn, .slice r a.aP.ae.ls.length s, .bool a.aM.aT, .int .u64 ((a.aM.aF:Nat):Int), .int .i64 a.aM.bn, .slice t a.aM.ae.ls.length u, .int .u64 ((a.di:Nat):Int), .int .u64 ((a.cz:Nat):Int), .int .u64 ((a.cK:Nat):Int), .int .u64 ((a.cB:Nat):Int), .int .u64 ((a.cu:Nat):Int), .pointer none] 86]) (hr:gP a=z):
    Calls y4 126 #[vP x 0] w (dR fun v w'=>v=vU z∧Own w D w' [blk x [vI a.aa.av,vU a.aa.ax,vU a.aa.bf,vU a.aa.aK, .slice b a.aa.ag.ls.length c, .slice d a.aa.aj.ls.length f, .slice g a.aa.aI.ls.length h,vU a.bI, .slice i a.ak.ls.length j, .bool a.aR.aT,vU a.aR.aF,vI a.aR.bn, .slice k a.aR.ae.ls.length l, .bool a.aN.aT,vU a.aN.aF,vI a.aN.bn, .slice n a.aN.ae.ls.length o, .bool a.aO.aT,vU a.aO.aF,vI a.aO.bn, .slice p a.aO.ae.ls.length q, .bool a.aP.aT,vU a.aP.aF,vI a.aP.bn, .slice r a.aP.ae.ls.length s, .bool a.aM.aT,vU a.aM.aF,vI a.aM.bn, .slice t a.aM.ae.ls.length u,vU a.di,vU a.cz,vU a.cK,vU a.cB,vU a.cu, .pointer none] 86]∧(z≤18446744073709551615)):=by
 refine cb Tryz.func126 ?_
 refine sr (An rfl (FU ?_))
 have y:=H.drew
 refine G6 [] (fun W=> ∃ L',Own w D W ([blk x [vI a.aa.av,vU a.aa.ax,vU a.aa.bf,vU a.aa.aK, .slice b a.aa.ag.ls.length c, .slice d a.aa.aj.ls.length f, .slice g a.aa.aI.ls.length h,vU a.bI, .slice i a.ak.ls.length j, .bool a.aR.aT,vU a.aR.aF,vI a.aR.bn, .slice k a.aR.ae.ls.length l, .bool a.aN.aT,vU a.aN.aF,vI a.aN.bn, .slice n a.aN.ae.ls.length o, .bool a.aO.aT,vU a.aO.aF,vI a.aO.bn, .slice p a.aO.ae.ls.length q, .bool a.aP.aT,vU a.aP.aF,vI a.aP.bn, .slice r a.aP.ae.ls.length s, .bool a.aM.aT,vU a.aM.aF,vI a.aM.bn, .slice t a.aM.ae.ls.length u,vU a.di,vU a.cz,vU a.cK,vU a.cB,vU a.cu, .pointer none] 86]++L')) e7 e7 (F8 Gh) ⟨_,y⟩ ?_
 revert y
 generalize World.drew w=C
 intro y
 refine qv 0 rfl rfl (qp x 0 1 rfl (qp x 0 2 rfl (qp x 1 3 rfl (ql 4 rfl 0 E1 rfl rfl rfl ?_))))
 have B:fD a.aa.ax 32≤18446744073709551615:=oO _ _
 refine qt (v:=vU (fD a.aa.ax 32)) 5 rfl (fun _ _=>FV (Hw (m:=32) rfl rfl) (fC _)) (qv 6 rfl rfl (qp x 0 7 rfl (qp x 7 8 rfl (ql 9 rfl 0 E1 rfl rfl rfl (qt (v:= .int .u64 ((D2 (D3.wrap (((fD a.aa.ax 32:Nat):Int)+((a.bI:Nat):Int))):Nat):Int)) 10 rfl (fun _ _=>FV (e:=D3.wrap (((fD a.aa.ax 32:Nat):Int)+((a.bI:Nat):Int))) yk (fC _)) (qt (v:= .int .u64 ((D2 (D3.wrap (((D2 (D3.wrap (((fD a.aa.ax 32:Nat):Int)+((a.bI:Nat):Int))):Nat):Int)+1)):Nat):Int)) 11 rfl (fun _ _=>FV (e:=D3.wrap (((D2 (D3.wrap (((fD a.aa.ax 32:Nat):Int)+((a.bI:Nat):Int))):Nat):Int)+1)) yk (fC _)) (qa 12 rfl rfl (qn (FW (rt (rs ?_)))))))))))
 have A:=y.pf []
 obtain rfl:_=D2 (D3.wrap (((D2 (D3.wrap (((fD a.aa.ax 32:Nat):Int)+((a.bI:Nat):Int))):Nat):Int)+1)):=hr.symm.trans rfl
 exact⟨rfl,A,(by first | exact mh _ | omega)⟩
def gG (b:aB):Nat:=
 bnd (gP b) fun a=>bnd (if((b.ak.ls.length:Nat):Int) > 0 then bnd (C2 b.ak.ls 0 default) fun c=>min a c.aX else a) fun sJrbJ=>if((b.aa.aj.ls.length:Nat):Int) > 0 then bnd (C2 b.aa.aj.ls 0 default) fun d=>min sJrbJ d.bi else sJrbJ
set_option maxHeartbeats 4000000 in
theorem oh (w:World) (D:Nat→Prop) (p:Nat) (a:aB) (y:Option Addr) (z:Nat) (b:Option Addr) (f:Nat) (B:List aA) (C:Option Addr) (E:Nat) (d:Option Addr) (g:Nat) (F:List bA) (G:Option Addr) (I:Nat) (J:Option Addr) (K:Nat) (L:Option Addr) (M:Nat) (N:Option Addr) (O:Nat) (P:Option Addr) (Q:Nat) (r0:Nat) (H:Own w D w [blk p [.int .i64 a.aa.av, .int .u64 ((a.aa.ax:Nat):Int), .int .u64 ((a.aa.bf:Nat):Int), .int .u64 ((a.aa.aK:Nat):Int), .slice y a.aa.ag.ls.length z, .slice b a.aa.aj.ls.length f, .slice C a.aa.aI.ls.length E, .int .u64 ((a.bI:Nat):Int), .slice d a.ak.ls.length g, .bool a.aR.aT, .int .u64 ((a.aR.aF:Nat):Int), .int .i64 a.aR.bn, .slice G a.aR.ae.ls.length I, .bool a.aN.aT, .int .u64 ((a.aN.aF:Nat):Int), .int .i64 a.aN.bn, .slice J a.aN.ae.ls.length K, .bool a.aO.aT, .int .u64 ((a.aO.aF:Nat):Int), .int .i64 a.aO.bn, .slice L a.aO.ae.ls.length M, .bool a.aP.aT, .int .u64 ((a.aP.aF:Nat):Int), .int .i64 a.aP.bn, .slice N a.aP.ae.ls.length O, .bool a.aM.aT, .int .u64 ((a.aM.aF:Nat):Int), .int .i64 a.aM.bn, .slice P a.aM.ae.ls.length Q, .int .u64 ((a.di:Nat):Int), .int .u64 ((a.cz:Nat):Int), .int .u64 ((a.cK:Nat):Int), .int .u64 ((a.cB:Nat):Int), .int .u64 ((a.cu:Nat):Int), .pointer none] 86]) (R:s8 aA.abs B=a.aa.aj.ls) (r:Ro w D fun w'=>bD w' 5 b a.aa.aj.ls.length (q6 aA.cells B)) (aF:a.aa.aj.ls.length≤f∧a.aa.aj.ls.length≤9223372036854775807) (ae:∀ x ∈ B,Ro w D (fun w'=>bD w' 1 x.av.A x.av.ls.length (q6 (eI .i64) x.av.ls))∧(x.av.ls.length≤x.av.c∧x.av.ls.length≤9223372036854775807)) (S:s8 bA.abs F=a.ak.ls) (s:Ro w D fun w'=>bD w' 9 d a.ak.ls.length (q6 bA.cells F)) (aG:a.ak.ls.length≤g∧a.ak.ls.length≤9223372036854775807) (m:∀ x ∈ F,Ro w D (fun w'=>bD w' 6 x.bS.A x.bS.ls.length (q6 bC.cells x.bS.ls))∧(x.bS.ls.length≤x.bS.c∧x.bS.ls.length≤9223372036854775807)∧Ro w D (fun w'=>bD w' 3 x.aD.A x.aD.ls.length (q6 bG.cells x.aD.ls))∧(x.aD.ls.length≤x.aD.c∧x.aD.ls.length≤9223372036854775807)∧(∀ j ∈ x.aD.ls,Ro w D (fun w'=>bD w' 6 j.aG.A j.aG.ls.length (q6 bC.cells j.aG.ls))∧(j.aG.ls.length≤j.aG.c∧j.aG.ls.length≤9223372036854775807)∧Ro w D (fun w'=>bD w' 1 j.aJ.A j.aJ.ls.length (q6 (eI .i64) j.aJ.ls))∧(j.aJ.ls.length≤j.aJ.c∧j.aJ.ls.length≤9223372036854775807))∧Ro w D (fun w'=>bD w' 1 x.bE.A x.bE.ls.length (q6 eL x.bE.ls))∧(x.bE.ls.length≤x.bE.c∧x.bE.ls.length≤9223372036854775807)∧Ro w D (fun w'=>bD w' 1 x.ae.A x.ae.ls.length (q6 (Gy (β:=af)) x.ae.ls))∧(x.ae.ls.length≤x.ae.c∧x.ae.ls.length≤9223372036854775807)∧(∀ j ∈ x.ae.ls,Ro w D (fun w'=>bD w' 3 j.A j.ls.length (q6 af.cells j.ls))∧(j.ls.length≤j.c∧j.ls.length≤9223372036854775807)∧(∀ y2 ∈ j.ls,Ro w D (fun w'=>bD w' 2 y2.au.A y2.au.ls.length (q6 aL.cells y2.au.ls))∧(y2.au.ls.length≤y2.au.c∧y2.au.ls.length≤9223372036854775807)))) (aY:a.aa.ag.ls.length≤1000∧a.aa.aj.ls.length≤1000∧a.aa.aI.ls.length≤1000∧a.ak.ls.length≤1000) (hr:gG a=r0):
    Calls y4 108 #[vP p 0] w (dR fun v w'=>v=vU r0∧Own w D w' [blk p [vI a.aa.av,vU a.aa.ax,vU a.aa.bf,vU a.aa.aK, .slice y a.aa.ag.ls.length z, .slice b a.aa.aj.ls.length f, .slice C a.aa.aI.ls.length E,vU a.bI, .slice d a.ak.ls.length g, .bool a.aR.aT,vU a.aR.aF,vI a.aR.bn, .slice G a.aR.ae.ls.length I, .bool a.aN.aT,vU a.aN.aF,vI a.aN.bn, .slice J a.aN.ae.ls.length K, .bool a.aO.aT,vU a.aO.aF,vI a.aO.bn, .slice L a.aO.ae.ls.length M, .bool a.aP.aT,vU a.aP.aF,vI a.aP.bn, .slice N a.aP.ae.ls.length O, .bool a.aM.aT,vU a.aM.aF,vI a.aM.bn, .slice P a.aM.ae.ls.length Q,vU a.di,vU a.cz,vU a.cK,vU a.cB,vU a.cu, .pointer none] 86]):=by
 have aC:=az R
 have aD:=az S
 refine cb Tryz.func108 ?_
 refine sr (Ar rfl (Mz rfl ?_))
 obtain⟨h,T⟩:∃ q,gP a=q:=⟨_,rfl⟩
 obtain⟨aZ,ah,aO,aj,aP⟩:=Gn H
 refine cl Tryz.call126 (qf _ _ p a y z b f C E d g G I J K L M N O P Q h ah T) ?_
 rintro _ bf ⟨rfl,ak,Z⟩
 have t:=aj _ _ ak
 replace Z:h≤18446744073709551615:=Z
 refine An rfl (FU (sr (Mz rfl (Kz (vP p 0) (Kz (vP p 8) (Lz (.slice d a.ak.ls.length g) t 0 Tryz.isAgg79 (Kz (vJ a.ak.ls.length) (Kz (.bool (decide (((a.ak.ls.length:Nat):Int) > 0))) (nt ?_)))))))))
 obtain⟨aH,U⟩:=mX fun(n:Nat) (w':World)=>Own w D w' [blk p [vI a.aa.av,vU a.aa.ax,vU a.aa.bf,vU a.aa.aK, .slice y a.aa.ag.ls.length z, .slice b a.aa.aj.ls.length f, .slice C a.aa.aI.ls.length E,vU a.bI, .slice d a.ak.ls.length g, .bool a.aR.aT,vU a.aR.aF,vI a.aR.bn, .slice G a.aR.ae.ls.length I, .bool a.aN.aT,vU a.aN.aF,vI a.aN.bn, .slice J a.aN.ae.ls.length K, .bool a.aO.aT,vU a.aO.aF,vI a.aO.bn, .slice L a.aO.ae.ls.length M, .bool a.aP.aT,vU a.aP.aF,vI a.aP.bn, .slice N a.aP.ae.ls.length O, .bool a.aM.aT,vU a.aM.aF,vI a.aM.bn, .slice P a.aM.ae.ls.length Q,vU a.di,vU a.cz,vU a.cK,vU a.cB,vU a.cu, .pointer none] 86]∧n≤h∧(if((a.ak.ls.length:Nat):Int) > 0 then bnd (C2 a.ak.ls 0 default) fun au=>min h au.aX else h)=n
 refine GA (fun i:Nat=> [(3,vU i),(2, .int .u64 0),(0,vP p 0)]) aH ?_ ?_
 by_cases X:((a.ak.ls.length:Nat):Int) > 0
 refine jT (dT X) (FT (Mz rfl (Mz rfl (Kz (vP p 0) (Kz (vP p 8) (Lz (.slice d a.ak.ls.length g) t 0 Tryz.isAgg79 ?_))))))
 obtain⟨o,l⟩:=dK (ls:=F) (i:=0) bA.len f3 (t.ro s) e9
 have av:=fo S l
 have aQ:=(m _ (E0 l)).2.1
 have aR:=(m _ (E0 l)).2.2.2.1
 have aS:s2 (s8 bG.abs o.aD.ls)=o.aD.ls.length:=s6 ..
 have aT:=(m _ (E0 l)).2.2.2.2.2.2.1
 have aU:=(m _ (E0 l)).2.2.2.2.2.2.2.2.1
 have aV:s2 (s8 bO.abs o.ae.ls)=o.ae.ls.length:=s6 ..
 refine fw (.pointer (some ⟨ab d,ao d+0 *9,none⟩)) (FZ (pg) rfl rfl ((t.ro s).addr (i:=0) e6) e6) (Kz (.pointer (some ⟨ab d,ao d+0 *9,none⟩)) (fw (vU o.aX) (F5 rfl (bZ.one E1 (((t.ro s).elem bA.len l f3).at_ (k:=0) rfl))) (fw (vU (min h o.aX)) (FV (e:=if((o.aX:Nat):Int) < ((h:Nat):Int) then((o.aX:Nat):Int) else((h:Nat):Int)) yk e6) (Az rfl (D0 ?_)))))
 have aI:=t.pf []
 exact Gt (min h o.aX) ⟨rfl,rfl,rfl,trivial⟩ (U.2 ⟨aI,e6,et (ip X) (ai (bJ av))⟩)
 refine jF (dF X) (Gj ?_)
 have aJ:=t.pf []
 exact Gt h ⟨rfl,rfl,rfl,trivial⟩ (U.2 ⟨aJ,e6,iN X⟩)
 rintro n bg ax
 obtain⟨u,aW,aa⟩:=U.1 ax
 refine FU (sr (Mz rfl (Kz (vP p 0) (Kz (vP p 0) (Kz (vP p 5) (Lz (.slice b a.aa.aj.ls.length f) u 0 Tryz.isAgg30 (Kz (vJ a.aa.aj.ls.length) (Kz (.bool (decide (((a.aa.aj.ls.length:Nat):Int) > 0))) (nt ?_)))))))))
 by_cases Y:((a.aa.aj.ls.length:Nat):Int) > 0
 refine jT (dT Y) (FT (Mz rfl (Mz rfl (Kz (vP p 0) (Kz (vP p 0) (Kz (vP p 5) (Lz (.slice b a.aa.aj.ls.length f) u 0 Tryz.isAgg30 ?_)))))))
 obtain⟨V,W⟩:=dK (ls:=B) (i:=0) aA.len f3 (u.ro r) e9
 have ay:=fo R W
 have aX:=(ae _ (E0 W)).2
 refine fw (.pointer (some ⟨ab b,ao b+0 *5,none⟩)) (FZ (kG) rfl rfl ((u.ro r).addr (i:=0) e6) e6) (Kz (.pointer (some ⟨ab b,ao b+0 *5,none⟩)) (fw (vU V.bi) (F5 rfl (bZ.one E1 (((u.ro r).elem aA.len W f3).at_ (k:=0) rfl))) (fw (vU (min n V.bi)) (FV (e:=if((V.bi:Nat):Int) < ((n:Nat):Int) then((V.bi:Nat):Int) else((n:Nat):Int)) yk e6) (Ar rfl (Mz rfl (An rfl (rt (rs ?_))))))))
 have aK:=u.pf []
 obtain rfl:_=min n V.bi:=hr.symm.trans (et (ai T) (et (ai aa) (et (ip Y) (ai (bJ ay)))))
 exact⟨rfl,aK⟩
 refine jF (dF Y) (sk (sr (Mz rfl (An rfl (rt (rs ?_))))))
 have aM:=u.pf []
 obtain rfl:_=n:=hr.symm.trans (et (ai T) (et (ai aa) (iN Y)))
 exact⟨rfl,aM⟩
def fu (g:bH) (e:Int) (d:bQ) (a:aB):List fE→Unit ⊕ bH
  | []=>Sum.inl ()
  | b::c=>if b.aS=e then if((b.ax:Nat):Int)=((d.ax:Nat):Int) then if((b.aU:Nat):Int)=((d.aU:Nat):Int) then bnd (dA g (bQ.mk 2 0 (C7.wrap (10+e)) 0 1 0 d.aU a.aa.ax 0 0 0 0 0 0 0 false (bL.mk ([]) ([])) (E4 ([])) (E4 b.ah.ls) (E4 ([])))) fun f=>Sum.inr (f) else fu g e d a c else fu g e d a c else fu g e d a c
def lF (c:bH) (d:Int) (e:bQ) (a:aB):bH:=
 lp (fu c d e a a.aa.aI.ls) fun _=>bnd (dA c (bQ.mk 2 0 (C7.wrap (10+d)) 0 2 0 e.aU a.aa.ax 0 0 0 0 0 0 0 false (bL.mk ([]) ([])) (E4 ([])) (E4 ([])) (E4 ([])))) fun b=>b
set_option maxHeartbeats 4000000 in
theorem tT (w:World) (D:Nat→Prop) (g0:Nat) (K:bH) (L:Option Addr) (M:Nat) (G:List bF) (J:Int) (f:bQ) (au:Option Addr) (aO av:Nat) (ax:Option Addr) (aP ay:Nat) (aF:List af) (aA:Option Addr) (aQ aC:Nat) (d:Nat) (a:aB) (O:Option Addr) (P:Nat) (Q:Option Addr) (R:Nat) (h:Option Addr) (j:Nat) (p:List aZ) (S:Option Addr) (T:Nat) (r:Option Addr) (s:Nat) (U:List af) (t:Option Addr) (u:Nat) (V:List af) (y:Option Addr) (z:Nat) (W:List af) (B:Option Addr) (C:Nat) (X:List af) (E:Option Addr) (F:Nat) (Y:List af) (r0:bH) (H:Own w D w [blk g0 [.pointer (some ⟨d,0,none⟩), .slice L K.bB.ls.length M] 98,row L K.bB.ls.length M (q6 bF.cells G) 42 21,sepL (q6 bF.own G),blk d [.int .i64 a.aa.av, .int .u64 ((a.aa.ax:Nat):Int), .int .u64 ((a.aa.bf:Nat):Int), .int .u64 ((a.aa.aK:Nat):Int), .slice O a.aa.ag.ls.length P, .slice Q a.aa.aj.ls.length R, .slice h a.aa.aI.ls.length j, .int .u64 ((a.bI:Nat):Int), .slice S a.ak.ls.length T, .bool a.aR.aT, .int .u64 ((a.aR.aF:Nat):Int), .int .i64 a.aR.bn, .slice r a.aR.ae.ls.length s, .bool a.aN.aT, .int .u64 ((a.aN.aF:Nat):Int), .int .i64 a.aN.bn, .slice t a.aN.ae.ls.length u, .bool a.aO.aT, .int .u64 ((a.aO.aF:Nat):Int), .int .i64 a.aO.bn, .slice y a.aO.ae.ls.length z, .bool a.aP.aT, .int .u64 ((a.aP.aF:Nat):Int), .int .i64 a.aP.bn, .slice B a.aP.ae.ls.length C, .bool a.aM.aT, .int .u64 ((a.aM.aF:Nat):Int), .int .i64 a.aM.bn, .slice E a.aM.ae.ls.length F, .int .u64 ((a.di:Nat):Int), .int .u64 ((a.cz:Nat):Int), .int .u64 ((a.cK:Nat):Int), .int .u64 ((a.cB:Nat):Int), .int .u64 ((a.cu:Nat):Int), .pointer none] 86]) (ah:s8 bF.abs G=K.bB.ls) (bf:aO=f.aG.ls.length) (dL:Ro w D fun w'=>bD w' 6 au f.aG.ls.length (q6 bC.cells f.aG.ls)) (dO:f.aG.ls.length≤av∧f.aG.ls.length≤9223372036854775807) (bg:s8 af.abs aF=f.ah.ls) (bi:aP=f.ah.ls.length) (dP:Ro w D fun w'=>bD w' 3 ax f.ah.ls.length (q6 af.cells aF)) (dQ:f.ah.ls.length≤ay∧f.ah.ls.length≤9223372036854775807) (dS:∀ x ∈ aF,Ro w D (fun w'=>bD w' 2 x.au.A x.au.ls.length (q6 aL.cells x.au.ls))∧(x.au.ls.length≤x.au.c∧x.au.ls.length≤9223372036854775807)) (bn:aQ=f.ag.ls.length) (dU:Ro w D fun w'=>bD w' 2 aA f.ag.ls.length (q6 bv.cells f.ag.ls)) (dV:f.ag.ls.length≤aC∧f.ag.ls.length≤9223372036854775807) (Z:s8 aZ.abs p=a.aa.aI.ls) (I:Ro w D fun w'=>bD w' 4 h a.aa.aI.ls.length (q6 aZ.cells p)) (bO:a.aa.aI.ls.length≤j∧a.aa.aI.ls.length≤9223372036854775807) (n:∀ x ∈ p,Ro w D (fun w'=>bD w' 3 x.ah.A x.ah.ls.length (q6 af.cells x.ah.ls))∧(x.ah.ls.length≤x.ah.c∧x.ah.ls.length≤9223372036854775807)∧(∀ y1 ∈ x.ah.ls,Ro w D (fun w'=>bD w' 2 y1.au.A y1.au.ls.length (q6 aL.cells y1.au.ls))∧(y1.au.ls.length≤y1.au.c∧y1.au.ls.length≤9223372036854775807))) (aG:s8 af.abs U=a.aR.ae.ls) (bP:Ro w D fun w'=>bD w' 3 r a.aR.ae.ls.length (q6 af.cells U)) (bS:a.aR.ae.ls.length≤s∧a.aR.ae.ls.length≤9223372036854775807) (bT:∀ x ∈ U,Ro w D (fun w'=>bD w' 2 x.au.A x.au.ls.length (q6 aL.cells x.au.ls))∧(x.au.ls.length≤x.au.c∧x.au.ls.length≤9223372036854775807)) (aH:s8 af.abs V=a.aN.ae.ls) (bU:Ro w D fun w'=>bD w' 3 t a.aN.ae.ls.length (q6 af.cells V)) (bV:a.aN.ae.ls.length≤u∧a.aN.ae.ls.length≤9223372036854775807) (bW:∀ x ∈ V,Ro w D (fun w'=>bD w' 2 x.au.A x.au.ls.length (q6 aL.cells x.au.ls))∧(x.au.ls.length≤x.au.c∧x.au.ls.length≤9223372036854775807)) (aI:s8 af.abs W=a.aO.ae.ls) (bX:Ro w D fun w'=>bD w' 3 y a.aO.ae.ls.length (q6 af.cells W)) (bY:a.aO.ae.ls.length≤z∧a.aO.ae.ls.length≤9223372036854775807) (bZ:∀ x ∈ W,Ro w D (fun w'=>bD w' 2 x.au.A x.au.ls.length (q6 aL.cells x.au.ls))∧(x.au.ls.length≤x.au.c∧x.au.ls.length≤9223372036854775807)) (aJ:s8 af.abs X=a.aP.ae.ls) (cu:Ro w D fun w'=>bD w' 3 B a.aP.ae.ls.length (q6 af.cells X)) (cz:a.aP.ae.ls.length≤C∧a.aP.ae.ls.length≤9223372036854775807) (cB:∀ x ∈ X,Ro w D (fun w'=>bD w' 2 x.au.A x.au.ls.length (q6 aL.cells x.au.ls))∧(x.au.ls.length≤x.au.c∧x.au.ls.length≤9223372036854775807)) (aK:s8 af.abs Y=a.aM.ae.ls) (cK:Ro w D fun w'=>bD w' 3 E a.aM.ae.ls.length (q6 af.cells Y)) (cO:a.aM.ae.ls.length≤F∧a.aM.ae.ls.length≤9223372036854775807) (cZ:∀ x ∈ Y,Ro w D (fun w'=>bD w' 2 x.au.A x.au.ls.length (q6 aL.cells x.au.ls))∧(x.au.ls.length≤x.au.c∧x.au.ls.length≤9223372036854775807)) (fJ:a.aa.ag.ls.length≤1000∧a.aa.aj.ls.length≤1000∧a.aa.aI.ls.length≤1000∧a.ak.ls.length≤1000∧K.bB.ls.length≤100000) (fK:Mk a) (hr:lF K J f a=r0):
    Calls y4 86 #[vP g0 0,vI J, .agg (gD f.aH f.aJ f.eO f.aS f.dz f.eu f.aU f.ax f.bi f.dW f.bf f.aK f.dI f.cZ f.xN f.d9 f.bV.bK f.bV.bW au aO av ax aP ay aA aQ aC).toArray] w (dR fun v w'=> ∃ (B0ox0:Option Addr) (b0ox0:Nat) (e0ox0:List bF),v= .tuple #[]∧Own w D w' [blk g0 [vP d 0, .slice B0ox0 r0.bB.ls.length b0ox0] 98,row B0ox0 r0.bB.ls.length b0ox0 (q6 bF.cells e0ox0) 42 21,sepL (q6 bF.own e0ox0),blk d [vI a.aa.av,vU a.aa.ax,vU a.aa.bf,vU a.aa.aK, .slice O a.aa.ag.ls.length P, .slice Q a.aa.aj.ls.length R, .slice h a.aa.aI.ls.length j,vU a.bI, .slice S a.ak.ls.length T, .bool a.aR.aT,vU a.aR.aF,vI a.aR.bn, .slice r a.aR.ae.ls.length s, .bool a.aN.aT,vU a.aN.aF,vI a.aN.bn, .slice t a.aN.ae.ls.length u, .bool a.aO.aT,vU a.aO.aF,vI a.aO.bn, .slice y a.aO.ae.ls.length z, .bool a.aP.aT,vU a.aP.aF,vI a.aP.bn, .slice B a.aP.ae.ls.length C, .bool a.aM.aT,vU a.aM.aF,vI a.aM.bn, .slice E a.aM.ae.ls.length F,vU a.di,vU a.cz,vU a.cK,vU a.cB,vU a.cu, .pointer none] 86]∧(s8 bF.abs e0ox0=r0.bB.ls)):=by
 subst bf bi bn
 have dI:=az ah
 have dJ:=az bg
 have bB:=az Z
 have bE:=az aG
 have bG:=az aH
 have bI:=az aI
 have bJ:=az aJ
 have bK:=az aK
 have dW:=H.rowC (i:=1) rfl
 refine cb Tryz.func86 ?_
 refine sr ?_
 refine dM (gT f au av ax ay aA aC) 42 H ?_
 intro aj fM bq
 refine nt (FU (sr (Mz rfl (Kz (vP g0 0) (Kz (vP g0 0) (Lz (vP d 0) bq 1 O3 (Kz (vP d 0) (Kz (vP d 0) (Kz (vP d 6) (Lz (.slice h a.aa.aI.ls.length j) bq 4 Tryz.isAgg31 (Kz (vJ a.aa.aI.ls.length) (Mn rfl (bo ?_)))))))))))))
 have dX:=bq.pf []
 obtain⟨dY,aa⟩:=mX fun(g:Nat) (w':World)=>Own w D w' [blk aj (gT f au av ax ay aA aC) 42,blk g0 [vP d 0, .slice L K.bB.ls.length M] 98,row L K.bB.ls.length M (q6 bF.cells G) 42 21,sepL (q6 bF.own G),blk d [vI a.aa.av,vU a.aa.ax,vU a.aa.bf,vU a.aa.aK, .slice O a.aa.ag.ls.length P, .slice Q a.aa.aj.ls.length R, .slice h a.aa.aI.ls.length j,vU a.bI, .slice S a.ak.ls.length T, .bool a.aR.aT,vU a.aR.aF,vI a.aR.bn, .slice r a.aR.ae.ls.length s, .bool a.aN.aT,vU a.aN.aF,vI a.aN.bn, .slice t a.aN.ae.ls.length u, .bool a.aO.aT,vU a.aO.aF,vI a.aO.bn, .slice y a.aO.ae.ls.length z, .bool a.aP.aT,vU a.aP.aF,vI a.aP.bn, .slice B a.aP.ae.ls.length C, .bool a.aM.aT,vU a.aM.aF,vI a.aM.bn, .slice E a.aM.ae.ls.length F,vU a.di,vU a.cz,vU a.cK,vU a.cB,vU a.cu, .pointer none] 86]∧g≤a.aa.aI.ls.length∧fu K J f a a.aa.aI.ls=fu K J f a (List.drop g a.aa.aI.ls)
 refine Wp.loop (fun i:Nat=> [(17,vJ i),(16,vJ a.aa.aI.ls.length),(15, .slice h a.aa.aI.ls.length j),(5,vP aj 0),(0,vP g0 0),(1,vI J)]) dY (fun i=>a.aa.aI.ls.length - i) 0 ⟨rfl,rfl,rfl,rfl,rfl,rfl,trivial⟩ (aa.2 ⟨dX,e6,rfl⟩) ?_
 rintro g fO df
 obtain⟨ae,eU,ag⟩:=aa.1 df
 refine sr (Kz (.bool (decide (((g:Nat):Int) < ((a.aa.aI.ls.length:Nat):Int)))) (nt (FU ?_)))
 by_cases dh:((g:Nat):Int) < ((a.aa.aI.ls.length:Nat):Int)
 obtain⟨b,N⟩:=dK (ls:=p) (i:=g) aZ.len f3 (ae.ro I) e9
 have aR:=fo Z N
 have eX:=(n _ (E0 N)).2.1
 have eY:s2 (s8 af.abs b.ah.ls)=b.ah.ls.length:=s6 ..
 have di:mR (s8 af.abs b.ah.ls):=DY f4 aR
 have fe:b.ah.ls.length≤1000:=by have q9:=di.1; rw [s6] at q9; exact q9
 have aD:=drop_at aR
 refine jT (dT dh) (sk (FU (bo (sr (fw (.pointer (some ⟨ab h,ao h+g *4,none⟩)) (FZ (lN) rfl rfl ((ae.ro I).addr (i:=g) e6) e6) (fw (.agg (aZ.cells b).toArray) (F5 rfl (Gc (cs:=(aZ.cells b)) Tryz.isAgg56 Tryz.sizeOf56 ((ae.ro I).elem aZ.len N f3))) ?_))))))
 refine dM [vI 0, .int .u64 0, .int .u64 0, .slice none 0 0] 56 ae ?_
 intro aM fP dZ
 refine dN (aZ.cells b) 0 dZ Tryz.sizeOf56 ?_
 intro fQ o
 refine ns (Kz (vP aM 0) (Lz (vI b.aS) o 0 Tryz.isAgg3 (Mz rfl (Kz (.bool (decide (b.aS=J))) (Mz rfl ?_)))))
 by_cases l:b.aS=J
 refine Gz (vP aM 1) (dT l) (Gl (vU b.ax) (dT l) o 0 E1 (Gz (vP aj 7) (dT l) (Gl (vU f.ax) (dT l) o 1 E1 (Gz (.bool (decide (((b.ax:Nat):Int)=((f.ax:Nat):Int)))) (dT l) (fw (.bool (decide (((b.ax:Nat):Int)=((f.ax:Nat):Int)))) (Gb rfl (dT l) rfl) (Mz rfl ?_))))))
 by_cases m:((b.ax:Nat):Int)=((f.ax:Nat):Int)
 refine Gz (vP aM 2) (dT m) (Gl (vU b.aU) (dT m) o 0 E1 (Gz (vP aj 6) (dT m) (Gl (vU f.aU) (dT m) o 1 E1 (Gz (.bool (decide (((b.aU:Nat):Int)=((f.aU:Nat):Int)))) (dT m) (fw (.bool (decide (((b.aU:Nat):Int)=((f.aU:Nat):Int)))) (Gb rfl (dT m) rfl) (nt ?_))))))
 by_cases aN:((b.aU:Nat):Int)=((f.aU:Nat):Int)
 refine jT (dT aN) (sr (Mz rfl (Mz rfl (Kz (vP aj 6) (Lz (vU f.aU) o 1 E1 (Kz (vP aM 3) (Lz (.slice b.ah.A b.ah.ls.length b.ah.c) o 0 Tryz.isAgg40 ?_)))))))
 refine WL.do rfl (Gd O4 rfl ?_ (fun _ _ k=>k))
 refine cb O5 ?_
 refine FT (Mz rfl (Mz rfl (Kz (vI (C7.wrap (10+J))) (Mz rfl (Mz rfl (Kz (vP g0 0) (Kz (vP g0 0) (Lz (vP d 0) o 2 O3 (Kz (vP d 0) (Kz (vP d 0) (Kz (vP d 1) (Lz (vU a.aa.ax) o 5 E1 (Mz rfl (Mz rfl (Kz (.agg (gD 2 0 (C7.wrap (10+J)) 0 1 0 f.aU a.aa.ax 0 0 0 0 0 0 0 false ([]) ([]) none 0 0 b.ah.A b.ah.ls.length b.ah.c none 0 0).toArray) ?_)))))))))))))))
 have d9:=o.pb [0,1,5]
 obtain⟨bu,aS⟩:∃ q,dA K (bQ.mk 2 0 (C7.wrap (10+J)) 0 1 0 f.aU a.aa.ax 0 0 0 0 0 0 0 false (bL.mk ([]) ([])) (E4 ([])) (E4 (s8 af.abs b.ah.ls)) (E4 ([])))=q:=⟨_,rfl⟩
 obtain⟨fT,dm,aT,dn,fA⟩:=Gv d9
 refine cl O6 (fI _ _ g0 K L M G d (bQ.mk 2 0 (C7.wrap (10+J)) 0 1 0 f.aU a.aa.ax 0 0 0 0 0 0 0 false (bL.mk ([]) ([])) (E4 ([])) (E4 (s8 af.abs b.ah.ls)) (E4 ([]))) none 0 0 b.ah.A b.ah.ls.length b.ah.c b.ah.ls none 0 0 bu dm ah rfl (fun _ _=>bD.nil _ _ _) f2 (rfl:s8 af.abs b.ah.ls=s8 af.abs b.ah.ls) f0 (fun w9 h9=>o8 (az (rfl:s8 af.abs b.ah.ls=s8 af.abs b.ah.ls)) ((aT _ (n _ (E0 N)).1) w9 h9)) (show s2 (s8 af.abs b.ah.ls)≤b.ah.c∧s2 (s8 af.abs b.ah.ls)≤9223372036854775807 from by omega) (fun x9 h9=>⟨aT _ ((n _ (E0 N)).2.2 x9 h9).1,((n _ (E0 N)).2.2 x9 h9).2⟩) rfl (fun _ _=>bD.nil _ _ _) f2 e8 (by first | assumption | exact dG f4 | exact fun x hx=>absurd hx B3 | exact dG (Mk.l8 f4).1 | exact dG (Mk.lq f4).1 | exact dG (Mk.mq f4).1 | exact dG (Mk.mo f4).1 | exact dG (Mk.mr f4).1) aS) ?_
 rintro _ fV ⟨ed,ek,eu,rfl,dw,aU,aV⟩
 have dx:=dn _ _ dw
 have fC:=az aU
 have fD:=dx.rowC (i:=1) rfl
 replace aV:bu.bB.ls.length=K.bB.ls.length+1:=aV
 refine D0 (Gf (res0 rfl) (nt (rt (bR (tR (tR (bR (tR (Fin.res (res0 rfl) ?_)))))))))
 have eB:=dx.pk [0,1,2,5]
 obtain rfl:_=bu:=hr.symm.trans (jq (et (ag) (et (congrArg (fun q=>fu K J f a q) aD) (et (ip l) (et (ip m) (et (ip aN) (ai aS)))))))
 exact⟨ed,ek,eu,rfl,eB,aU⟩
 refine jF (dF aN) (Gj (bN (FW (FT (fw (vJ (g+1)) (FV (e:=C7.wrap (((g:Nat):Int)+1)) yk f1) (Mz rfl (D0 ?_)))))))
 have eD:=o.px [] [0] []
 exact F9 (g+1) ⟨rfl,rfl,rfl,rfl,rfl,rfl,trivial⟩ (aa.2 ⟨eD,e6,et (ag) (et (congrArg (fun q=>fu K J f a q) aD) (et (ip l) (et (ip m) (iN aN))))⟩) (by show a.aa.aI.ls.length - (g+1) < a.aa.aI.ls.length - g; omega)
 refine Sz (dF m) (Sz (dF m) (Sz (dF m) (Sz (dF m) (Sz (dF m) (fw (.bool false) (FX rfl (dF m) rfl) (nt (jf (Gj (bN (FW (FT (fw (vJ (g+1)) (FV (e:=C7.wrap (((g:Nat):Int)+1)) yk f1) (Mz rfl (D0 ?_))))))))))))))
 have eF:=o.px [] [0] []
 exact F9 (g+1) ⟨rfl,rfl,rfl,rfl,rfl,rfl,trivial⟩ (aa.2 ⟨eF,e6,et (ag) (et (congrArg (fun q=>fu K J f a q) aD) (et (ip l) (iN m)))⟩) (by show a.aa.aI.ls.length - (g+1) < a.aa.aI.ls.length - g; omega)
 refine Sz (dF l) (Sz (dF l) (Sz (dF l) (Sz (dF l) (Sz (dF l) (fw (.bool false) (FX rfl (dF l) rfl) (Mz rfl (Sz rfl (Sz rfl (Sz rfl (Sz rfl (Sz rfl (fw (.bool false) (FX rfl rfl rfl) (nt (jf (Gj (bN (FW (FT (fw (vJ (g+1)) (FV (e:=C7.wrap (((g:Nat):Int)+1)) yk f1) (Mz rfl (D0 ?_)))))))))))))))))))))
 have eG:=o.px [] [0] []
 exact F9 (g+1) ⟨rfl,rfl,rfl,rfl,rfl,rfl,trivial⟩ (aa.2 ⟨eG,e6,et (ag) (et (congrArg (fun q=>fu K J f a q) aD) (iN l))⟩) (by show a.aa.aI.ls.length - (g+1) < a.aa.aI.ls.length - g; omega)
 refine jF (dF dh) (Wp.exit (F4 ?_))
 have dz:fu K J f a a.aa.aI.ls=Sum.inl ():=et (ag) (et (congrArg (fun q=>fu K J f a q) (eZ (ls:=a.aa.aI.ls) (i:=g) e6)) rfl)
 refine F4 (Gg (FW (FT (Mz rfl (Mz rfl (Kz (vP aj 6) (Lz (vU f.aU) ae 0 E1 ?_)))))))
 refine WL.do rfl (Gd O4 rfl ?_ (fun _ _ k=>k))
 refine cb O5 ?_
 refine FT (Mz rfl (Mz rfl (Kz (vI (C7.wrap (10+J))) (Mz rfl (Mz rfl (Kz (vP g0 0) (Kz (vP g0 0) (Lz (vP d 0) ae 1 O3 (Kz (vP d 0) (Kz (vP d 0) (Kz (vP d 1) (Lz (vU a.aa.ax) ae 4 E1 (Mz rfl (Mz rfl (Kz (.agg (gD 2 0 (C7.wrap (10+J)) 0 2 0 f.aU a.aa.ax 0 0 0 0 0 0 0 false ([]) ([]) none 0 0 none 0 0 none 0 0).toArray) ?_)))))))))))))))
 have eH:=ae.pb [0,4]
 obtain⟨bz,aW⟩:∃ q,dA K (bQ.mk 2 0 (C7.wrap (10+J)) 0 2 0 f.aU a.aa.ax 0 0 0 0 0 0 0 false (bL.mk ([]) ([])) (E4 ([])) (E4 ([])) (E4 ([])))=q:=⟨_,rfl⟩
 obtain⟨fZ,dB,fE,dC,fF⟩:=Gv eH
 refine cl O6 (fI _ _ g0 K L M G d (bQ.mk 2 0 (C7.wrap (10+J)) 0 2 0 f.aU a.aa.ax 0 0 0 0 0 0 0 false (bL.mk ([]) ([])) (E4 ([])) (E4 ([])) (E4 ([]))) none 0 0 none 0 0 [] none 0 0 bz dB ah rfl (fun _ _=>bD.nil _ _ _) f2 rfl rfl (fun _ _=>bD.nil _ _ _) f2 (fun _ h9=>absurd h9 B3) rfl (fun _ _=>bD.nil _ _ _) f2 e8 (by first | assumption | exact dG f4 | exact fun x hx=>absurd hx B3 | exact dG (Mk.l8 f4).1 | exact dG (Mk.lq f4).1 | exact dG (Mk.mq f4).1 | exact dG (Mk.mo f4).1 | exact dG (Mk.mr f4).1) aW) ?_
 rintro _ gm ⟨eO,eP,eQ,rfl,dD,aX,aY⟩
 have dE:=dC _ _ dD
 have fG:=az aX
 have fH:=dE.rowC (i:=1) rfl
 replace aY:bz.bB.ls.length=K.bB.ls.length+1:=aY
 refine D0 (Gf (res0 rfl) (D0 (Gf (res0 rfl) ?_)))
 have eT:=dE.px [] [3] []
 obtain rfl:_=bz:=hr.symm.trans (et (nS dz) (ai aW))
 exact⟨eO,eP,eQ,rfl,eT,aX⟩
def dB (k:bH) (e:Int) (c:Nat) (d:Int) (g:List aY) (a:aB):bH × aB:=
 bnd (iO g) fun b=>if((D2 e:Nat):Int)=1 then bnd (dA k (bQ.mk 2 0 (10+e) 0 d 0 c a.aa.ax 0 0 0 0 0 0 0 false (bL.mk ([]) ([])) (E4 ([])) (E4 g) (E4 ([])))) fun h=>(h,aB.mk a.aa a.bI (E4 a.ak.ls) a.aR (dX.mk true c d (E4 b)) a.aO a.aP a.aM a.di a.cz a.cK a.cB a.cu) else if((D2 e:Nat):Int)=2 then bnd (dA k (bQ.mk 2 0 (10+e) 0 d 0 c a.aa.ax 0 0 0 0 0 0 0 false (bL.mk ([]) ([])) (E4 ([])) (E4 g) (E4 ([])))) fun i=>(i,aB.mk a.aa a.bI (E4 a.ak.ls) a.aR a.aN (dX.mk true c d (E4 b)) a.aP a.aM a.di a.cz a.cK a.cB a.cu) else if((D2 e:Nat):Int)=3 then bnd (dA k (bQ.mk 2 0 (10+e) 0 d 0 c a.aa.ax 0 0 0 0 0 0 0 false (bL.mk ([]) ([])) (E4 ([])) (E4 g) (E4 ([])))) fun j=>(j,aB.mk a.aa a.bI (E4 a.ak.ls) a.aR a.aN a.aO (dX.mk true c d (E4 b)) a.aM a.di a.cz a.cK a.cB a.cu) else bnd (dA k (bQ.mk 2 0 (10+e) 0 d 0 c a.aa.ax 0 0 0 0 0 0 0 false (bL.mk ([]) ([])) (E4 ([])) (E4 g) (E4 ([])))) fun f=>(f,aB.mk a.aa a.bI (E4 a.ak.ls) a.aR a.aN a.aO a.aP (dX.mk true c d (E4 b)) a.di a.cz a.cK a.cB a.cu)
set_option maxHeartbeats 4000000 in
theorem jP (w:World) (D:Nat→Prop) (W:Nat) (V:bH) (R:Option Addr) (S:Nat) (L:List bF) (s:Int) (M:Nat) (N:Int) (A4:Option Addr) (n4 Z:Nat) (d4:List af) (h:List aY) (b:Nat) (a:aB) (aa:Option Addr) (ae:Nat) (ag:Option Addr) (ah:Nat) (aj:Option Addr) (ak:Nat) (au:Option Addr) (av:Nat) (j:Option Addr) (l:Nat) (f:List af) (t:Option Addr) (u:Nat) (m:List af) (y:Option Addr) (z:Nat) (n:List af) (B:Option Addr) (C:Nat) (p:List af) (E:Option Addr) (F:Nat) (r:List af) (r0:bH) (d:aB) (H:Own w D w [blk W [.pointer (some ⟨b,0,none⟩), .slice R V.bB.ls.length S] 98,row R V.bB.ls.length S (q6 bF.cells L) 42 21,sepL (q6 bF.own L),blk b [.int .i64 a.aa.av, .int .u64 ((a.aa.ax:Nat):Int), .int .u64 ((a.aa.bf:Nat):Int), .int .u64 ((a.aa.aK:Nat):Int), .slice aa a.aa.ag.ls.length ae, .slice ag a.aa.aj.ls.length ah, .slice aj a.aa.aI.ls.length ak, .int .u64 ((a.bI:Nat):Int), .slice au a.ak.ls.length av, .bool a.aR.aT, .int .u64 ((a.aR.aF:Nat):Int), .int .i64 a.aR.bn, .slice j a.aR.ae.ls.length l, .bool a.aN.aT, .int .u64 ((a.aN.aF:Nat):Int), .int .i64 a.aN.bn, .slice t a.aN.ae.ls.length u, .bool a.aO.aT, .int .u64 ((a.aO.aF:Nat):Int), .int .i64 a.aO.bn, .slice y a.aO.ae.ls.length z, .bool a.aP.aT, .int .u64 ((a.aP.aF:Nat):Int), .int .i64 a.aP.bn, .slice B a.aP.ae.ls.length C, .bool a.aM.aT, .int .u64 ((a.aM.aF:Nat):Int), .int .i64 a.aM.bn, .slice E a.aM.ae.ls.length F, .int .u64 ((a.di:Nat):Int), .int .u64 ((a.cz:Nat):Int), .int .u64 ((a.cK:Nat):Int), .int .u64 ((a.cB:Nat):Int), .int .u64 ((a.cu:Nat):Int), .pointer none] 86,row j a.aR.ae.ls.length l (q6 af.cells f) 149 3,sepL (q6 af.own f),row t a.aN.ae.ls.length u (q6 af.cells m) 149 3,sepL (q6 af.own m),row y a.aO.ae.ls.length z (q6 af.cells n) 149 3,sepL (q6 af.own n),row B a.aP.ae.ls.length C (q6 af.cells p) 149 3,sepL (q6 af.own p),row E a.aM.ae.ls.length F (q6 af.cells r) 149 3,sepL (q6 af.own r)]) (O:s8 bF.abs L=V.bB.ls) (aC:s8 af.abs d4=h) (aF:Ro w D fun w'=>bD w' 3 A4 n4 (q6 af.cells d4)) (P:∀ x ∈ d4,Ro w D (fun w'=>bD w' 2 x.au.A x.au.ls.length (q6 aL.cells x.au.ls))∧(x.au.ls.length≤x.au.c∧x.au.ls.length≤9223372036854775807)) (dP:n4=h.length) (fJ:h.length *48≤211106232532992) (fK:h.length≤Z) (g:s8 af.abs f=a.aR.ae.ls) (G:s8 af.abs m=a.aN.ae.ls) (I:s8 af.abs n=a.aO.ae.ls) (J:s8 af.abs p=a.aP.ae.ls) (K:s8 af.abs r=a.aM.ae.ls) (fM:V.bB.ls.length≤100000) (fO:1≤s∧s≤4) (fP:h.length≤1000) (fQ:mR h) (hr:dB V s M N h a=(r0,d)):
    Calls y4 106 #[vP W 0,vI s,vU M,vI N, .slice A4 n4 Z] w (dR fun v w'=> ∃ (B0ox0:Option Addr) (b0ox0:Nat) (e0ox0:List bF) (B1ox4:Option Addr) (b1ox4:Nat) (e1ox4:List af) (B1ox5:Option Addr) (b1ox5:Nat) (e1ox5:List af) (B1ox6:Option Addr) (b1ox6:Nat) (e1ox6:List af) (B1ox7:Option Addr) (b1ox7:Nat) (e1ox7:List af) (B1ox8:Option Addr) (b1ox8:Nat) (e1ox8:List af),v= .tuple #[]∧Own w D w' [blk W [vP b 0, .slice B0ox0 r0.bB.ls.length b0ox0] 98,row B0ox0 r0.bB.ls.length b0ox0 (q6 bF.cells e0ox0) 42 21,sepL (q6 bF.own e0ox0),blk b [vI d.aa.av,vU d.aa.ax,vU d.aa.bf,vU d.aa.aK, .slice aa a.aa.ag.ls.length ae, .slice ag a.aa.aj.ls.length ah, .slice aj a.aa.aI.ls.length ak,vU d.bI, .slice au a.ak.ls.length av, .bool d.aR.aT,vU d.aR.aF,vI d.aR.bn, .slice B1ox4 d.aR.ae.ls.length b1ox4, .bool d.aN.aT,vU d.aN.aF,vI d.aN.bn, .slice B1ox5 d.aN.ae.ls.length b1ox5, .bool d.aO.aT,vU d.aO.aF,vI d.aO.bn, .slice B1ox6 d.aO.ae.ls.length b1ox6, .bool d.aP.aT,vU d.aP.aF,vI d.aP.bn, .slice B1ox7 d.aP.ae.ls.length b1ox7, .bool d.aM.aT,vU d.aM.aF,vI d.aM.bn, .slice B1ox8 d.aM.ae.ls.length b1ox8,vU d.di,vU d.cz,vU d.cK,vU d.cB,vU d.cu, .pointer none] 86,row B1ox4 d.aR.ae.ls.length b1ox4 (q6 af.cells e1ox4) 149 3,sepL (q6 af.own e1ox4),row B1ox5 d.aN.ae.ls.length b1ox5 (q6 af.cells e1ox5) 149 3,sepL (q6 af.own e1ox5),row B1ox6 d.aO.ae.ls.length b1ox6 (q6 af.cells e1ox6) 149 3,sepL (q6 af.own e1ox6),row B1ox7 d.aP.ae.ls.length b1ox7 (q6 af.cells e1ox7) 149 3,sepL (q6 af.own e1ox7),row B1ox8 d.aM.ae.ls.length b1ox8 (q6 af.cells e1ox8) 149 3,sepL (q6 af.own e1ox8)]∧(s8 bF.abs e0ox0=r0.bB.ls)∧(s8 af.abs e1ox4=d.aR.ae.ls)∧(s8 af.abs e1ox5=d.aN.ae.ls)∧(s8 af.abs e1ox6=d.aO.ae.ls)∧(s8 af.abs e1ox7=d.aP.ae.ls)∧(s8 af.abs e1ox8=d.aM.ae.ls)∧(r0.bB.ls.length=V.bB.ls.length+1)):=by
 subst dP
 have eY:=az aC
 have dN:=az O
 have bN:=az g
 have bO:=az G
 have bP:=az I
 have bR:=az J
 have bS:=az K
 have dQ:=H.rowC (i:=1) rfl
 have bU:=H.rowC (i:=4) rfl
 have bV:=H.rowC (i:=6) rfl
 have bW:=H.rowC (i:=8) rfl
 have bX:=H.rowC (i:=10) rfl
 have bY:=H.rowC (i:=12) rfl
 refine cb Tryz.func106 ?_
 refine FU ?_
 have dS:=H.pb [3]
 refine oJ 13 [] (F8 Gh) dS ?_
 intro fT dU
 refine qv 0 rfl rfl (qp W 0 1 rfl (qp W 0 2 rfl (ql 3 rfl 0 O3 rfl rfl rfl (qt (v:=vJ (D2 s)) 4 rfl (fun _ _=>FV (e:=s) (F7 rfl) e6) (qv 5 rfl rfl (qv 6 rfl rfl (qv 7 rfl rfl (qp b 0 10 rfl (qp b 9 11 rfl ?_)))))))))
 obtain⟨Q,X⟩:∃ q,iO h=q:=⟨_,rfl⟩
 obtain⟨fU,bZ,aV,cu,eZ⟩:=FY dU
 refine qd 8 rfl (Gd Tryz.call48 rfl (lV _ _ A4 h.length Z d4 h Q bZ aC (aV _ aF) (fun x9 h9=>⟨aV _ (P x9 h9).1,(P x9 h9).2⟩) rfl e6 (by first | assumption | exact dG f4 | (intro x hx; exact absurd hx B3)) X) ?_)
 rintro _ fV ⟨T,U,aP,rfl,cz,Y⟩
 have cB:=cu _ _ cz
 have fe:=az Y
 have fo:=cB.rowC (i:=0) rfl
 have aG:=cB.pb [0,1,15]
 refine⟨.inr ⟨_,aG⟩, ?_⟩
 refine qk (.agg #[.bool true,vU M,vI N, .slice T Q.length U]) 9 rfl ?_
 by_cases aQ:((D2 s:Nat):Int)=1
 refine qt (v:=vP b 13) 12 rfl (fun _ _=>by(try unfold vJ); rw [show ((D2 s:Nat):Int)=1 from by omega]; exact yk) ?_
 have dV:=aG.pf [15]
 refine qe 13 rfl (Do.store (vs:= [.bool true,vU M,vI N, .slice T Q.length U]) (o:=13) dV rfl rfl O7 rfl rfl rfl rfl ?_)
 intro fZ dW
 have aR:=dW.pb [0,14,15]
 refine⟨.inr ⟨_,aR⟩, ?_⟩
 refine qn (FW (FT (Mz rfl (Mz rfl (Mz rfl (Mz rfl (Mz rfl ?_)))))))
 refine WL.do rfl (Gd O4 rfl ?_ (fun _ _ k=>k))
 refine cb O5 ?_
 refine FT (Mz rfl (Mz rfl (fw (vI (10+s)) (FV (e:=C7.wrap (10+s)) yk g2) (Mz rfl (Mz rfl (Kz (vP W 0) (Kz (vP W 0) (Lz (vP b 0) aR 0 O3 (Kz (vP b 0) (Kz (vP b 0) (Kz (vP b 1) (Lz (vU a.aa.ax) aR 13 E1 (Mz rfl (Mz rfl (Kz (.agg (gD 2 0 (10+s) 0 N 0 M a.aa.ax 0 0 0 0 0 0 0 false ([]) ([]) none 0 0 A4 h.length Z none 0 0).toArray) ?_)))))))))))))))
 obtain⟨bB,aW⟩:∃ q,dA V (bQ.mk 2 0 (10+s) 0 N 0 M a.aa.ax 0 0 0 0 0 0 0 false (bL.mk ([]) ([])) (E4 ([])) (E4 h) (E4 ([])))=q:=⟨_,rfl⟩
 obtain⟨gp,cK,aX,cO,fq⟩:=Gv aR
 refine cl O6 (fI _ _ W V R S L b (bQ.mk 2 0 (10+s) 0 N 0 M a.aa.ax 0 0 0 0 0 0 0 false (bL.mk ([]) ([])) (E4 ([])) (E4 h) (E4 ([]))) none 0 0 A4 h.length Z d4 none 0 0 bB cK O rfl (fun _ _=>bD.nil _ _ _) f2 aC rfl (aX _ aF) (show h.length≤Z∧h.length≤9223372036854775807 from by omega) (fun x9 h9=>⟨aX _ (P x9 h9).1,(P x9 h9).2⟩) rfl (fun _ _=>bD.nil _ _ _) f2 e8 (by first | assumption | exact dG f4 | exact fun x hx=>absurd hx B3 | exact dG (Mk.l8 f4).1 | exact dG (Mk.lq f4).1 | exact dG (Mk.mq f4).1 | exact dG (Mk.mo f4).1 | exact dG (Mk.mr f4).1) aW) ?_
 rintro _ gq ⟨dY,dZ,d9,rfl,cZ,aZ,bf⟩
 have df:=cO _ _ cZ
 have fu:=az aZ
 have fA:=df.rowC (i:=1) rfl
 replace bf:bB.bB.ls.length=V.bB.ls.length+1:=bf
 refine D0 (Gf (res0 rfl) (D0 (Gf (res0 rfl) ?_)))
 have ed:=df.px [0,1,2,13,3,4,14,15] [5,6] []
 obtain⟨rfl,rfl⟩:=gm (hr.symm.trans (show _=(bB,aB.mk a.aa a.bI (E4 a.ak.ls) a.aR (dX.mk true M N (E4 Q)) a.aO a.aP a.aM a.di a.cz a.cK a.cB a.cu) from et (ai X) (et (ip aQ) (ai aW))))
 exact⟨dY,dZ,d9,j,l,f,T,U,aP,y,z,n,B,C,p,E,F,r,rfl,ed,aZ,g,Y,I,J,K,i1⟩
 by_cases bC:((D2 s:Nat):Int)=2
 refine qt (v:=vP b 17) 12 rfl (fun _ _=>by(try unfold vJ); rw [show ((D2 s:Nat):Int)=2 from by omega]; exact yk) ?_
 have ek:=aG.pf [15]
 refine qe 13 rfl (Do.store (vs:= [.bool true,vU M,vI N, .slice T Q.length U]) (o:=17) ek rfl rfl O7 rfl rfl rfl rfl ?_)
 intro gu eu
 have aS:=eu.pb [0,14,15]
 refine⟨.inr ⟨_,aS⟩, ?_⟩
 refine qn (FW (FT (Mz rfl (Mz rfl (Mz rfl (Mz rfl (Mz rfl ?_)))))))
 refine WL.do rfl (Gd O4 rfl ?_ (fun _ _ k=>k))
 refine cb O5 ?_
 refine FT (Mz rfl (Mz rfl (fw (vI (10+s)) (FV (e:=C7.wrap (10+s)) yk g2) (Mz rfl (Mz rfl (Kz (vP W 0) (Kz (vP W 0) (Lz (vP b 0) aS 0 O3 (Kz (vP b 0) (Kz (vP b 0) (Kz (vP b 1) (Lz (vU a.aa.ax) aS 13 E1 (Mz rfl (Mz rfl (Kz (.agg (gD 2 0 (10+s) 0 N 0 M a.aa.ax 0 0 0 0 0 0 0 false ([]) ([]) none 0 0 A4 h.length Z none 0 0).toArray) ?_)))))))))))))))
 obtain⟨bE,bg⟩:∃ q,dA V (bQ.mk 2 0 (10+s) 0 N 0 M a.aa.ax 0 0 0 0 0 0 0 false (bL.mk ([]) ([])) (E4 ([])) (E4 h) (E4 ([])))=q:=⟨_,rfl⟩
 obtain⟨gy,dh,bi,di,fB⟩:=Gv aS
 refine cl O6 (fI _ _ W V R S L b (bQ.mk 2 0 (10+s) 0 N 0 M a.aa.ax 0 0 0 0 0 0 0 false (bL.mk ([]) ([])) (E4 ([])) (E4 h) (E4 ([]))) none 0 0 A4 h.length Z d4 none 0 0 bE dh O rfl (fun _ _=>bD.nil _ _ _) f2 aC rfl (bi _ aF) (show h.length≤Z∧h.length≤9223372036854775807 from by omega) (fun x9 h9=>⟨bi _ (P x9 h9).1,(P x9 h9).2⟩) rfl (fun _ _=>bD.nil _ _ _) f2 e8 (by first | assumption | exact dG f4 | exact fun x hx=>absurd hx B3 | exact dG (Mk.l8 f4).1 | exact dG (Mk.lq f4).1 | exact dG (Mk.mq f4).1 | exact dG (Mk.mo f4).1 | exact dG (Mk.mr f4).1) bg) ?_
 rintro _ gz ⟨eB,eD,eF,rfl,dm,bn,bq⟩
 have dn:=di _ _ dm
 have fC:=az bn
 have fD:=dn.rowC (i:=1) rfl
 replace bq:bE.bB.ls.length=V.bB.ls.length+1:=bq
 refine D0 (Gf (res0 rfl) (D0 (Gf (res0 rfl) ?_)))
 have eG:=dn.px [0,1,2,13] [7,8] [9,10,11,12]
 obtain⟨rfl,rfl⟩:=gm (hr.symm.trans (show _=(bE,aB.mk a.aa a.bI (E4 a.ak.ls) a.aR a.aN (dX.mk true M N (E4 Q)) a.aP a.aM a.di a.cz a.cK a.cB a.cu) from et (ai X) (et (iN aQ) (et (ip bC) (ai bg)))))
 exact⟨eB,eD,eF,j,l,f,t,u,m,T,U,aP,B,C,p,E,F,r,rfl,eG,bn,g,G,Y,J,K,i1⟩
 by_cases dw:((D2 s:Nat):Int)=3
 refine qt (v:=vP b 21) 12 rfl (fun _ _=>by(try unfold vJ); rw [show ((D2 s:Nat):Int)=3 from by omega]; exact yk) ?_
 have eH:=aG.pf [15]
 refine qe 13 rfl (Do.store (vs:= [.bool true,vU M,vI N, .slice T Q.length U]) (o:=21) eH rfl rfl O7 rfl rfl rfl rfl ?_)
 intro gB eO
 have aT:=eO.pb [0,14,15]
 refine⟨.inr ⟨_,aT⟩, ?_⟩
 refine qn (FW (FT (Mz rfl (Mz rfl (Mz rfl (Mz rfl (Mz rfl ?_)))))))
 refine WL.do rfl (Gd O4 rfl ?_ (fun _ _ k=>k))
 refine cb O5 ?_
 refine FT (Mz rfl (Mz rfl (fw (vI (10+s)) (FV (e:=C7.wrap (10+s)) yk g2) (Mz rfl (Mz rfl (Kz (vP W 0) (Kz (vP W 0) (Lz (vP b 0) aT 0 O3 (Kz (vP b 0) (Kz (vP b 0) (Kz (vP b 1) (Lz (vU a.aa.ax) aT 13 E1 (Mz rfl (Mz rfl (Kz (.agg (gD 2 0 (10+s) 0 N 0 M a.aa.ax 0 0 0 0 0 0 0 false ([]) ([]) none 0 0 A4 h.length Z none 0 0).toArray) ?_)))))))))))))))
 obtain⟨bG,bu⟩:∃ q,dA V (bQ.mk 2 0 (10+s) 0 N 0 M a.aa.ax 0 0 0 0 0 0 0 false (bL.mk ([]) ([])) (E4 ([])) (E4 h) (E4 ([])))=q:=⟨_,rfl⟩
 obtain⟨gF,dx,bv,dz,fE⟩:=Gv aT
 refine cl O6 (fI _ _ W V R S L b (bQ.mk 2 0 (10+s) 0 N 0 M a.aa.ax 0 0 0 0 0 0 0 false (bL.mk ([]) ([])) (E4 ([])) (E4 h) (E4 ([]))) none 0 0 A4 h.length Z d4 none 0 0 bG dx O rfl (fun _ _=>bD.nil _ _ _) f2 aC rfl (bv _ aF) (show h.length≤Z∧h.length≤9223372036854775807 from by omega) (fun x9 h9=>⟨bv _ (P x9 h9).1,(P x9 h9).2⟩) rfl (fun _ _=>bD.nil _ _ _) f2 e8 (by first | assumption | exact dG f4 | exact fun x hx=>absurd hx B3 | exact dG (Mk.l8 f4).1 | exact dG (Mk.lq f4).1 | exact dG (Mk.mq f4).1 | exact dG (Mk.mo f4).1 | exact dG (Mk.mr f4).1) bu) ?_
 rintro _ gG ⟨dC,dD,dE,rfl,bI,aH,aI⟩
 have bz:=dz _ _ bI
 have eP:=az aH
 have eQ:=bz.rowC (i:=1) rfl
 replace aI:bG.bB.ls.length=V.bB.ls.length+1:=aI
 refine D0 (Gf (res0 rfl) (D0 (Gf (res0 rfl) ?_)))
 have dF:=bz.px [0,1,2,13] [9,10] [11,12]
 obtain⟨rfl,rfl⟩:=gm (hr.symm.trans (show _=(bG,aB.mk a.aa a.bI (E4 a.ak.ls) a.aR a.aN a.aO (dX.mk true M N (E4 Q)) a.aM a.di a.cz a.cK a.cB a.cu) from et (ai X) (et (iN aQ) (et (iN bC) (et (ip dw) (ai bu))))))
 exact⟨dC,dD,dE,j,l,f,t,u,m,y,z,n,T,U,aP,E,F,r,rfl,dF,aH,g,G,I,Y,K,i1⟩
 refine qt (v:=vP b 25) 12 rfl (fun _ _=>by(try unfold vJ); rw [show ((D2 s:Nat):Int)=4 from by omega]; exact yk) ?_
 have dH:=aG.pf [15]
 refine qe 13 rfl (Do.store (vs:= [.bool true,vU M,vI N, .slice T Q.length U]) (o:=25) dH rfl rfl O7 rfl rfl rfl rfl ?_)
 intro fF dI
 have aA:=dI.pb [0,14,15]
 refine⟨.inr ⟨_,aA⟩, ?_⟩
 refine qn (FW (FT (Mz rfl (Mz rfl (Mz rfl (Mz rfl (Mz rfl ?_)))))))
 refine WL.do rfl (Gd O4 rfl ?_ (fun _ _ k=>k))
 refine cb O5 ?_
 refine FT (Mz rfl (Mz rfl (fw (vI (10+s)) (FV (e:=C7.wrap (10+s)) yk g2) (Mz rfl (Mz rfl (Kz (vP W 0) (Kz (vP W 0) (Lz (vP b 0) aA 0 O3 (Kz (vP b 0) (Kz (vP b 0) (Kz (vP b 1) (Lz (vU a.aa.ax) aA 13 E1 (Mz rfl (Mz rfl (Kz (.agg (gD 2 0 (10+s) 0 N 0 M a.aa.ax 0 0 0 0 0 0 0 false ([]) ([]) none 0 0 A4 h.length Z none 0 0).toArray) ?_)))))))))))))))
 obtain⟨aJ,aK⟩:∃ q,dA V (bQ.mk 2 0 (10+s) 0 N 0 M a.aa.ax 0 0 0 0 0 0 0 false (bL.mk ([]) ([])) (E4 ([])) (E4 h) (E4 ([])))=q:=⟨_,rfl⟩
 obtain⟨fG,bJ,aM,bK,eT⟩:=Gv aA
 refine cl O6 (fI _ _ W V R S L b (bQ.mk 2 0 (10+s) 0 N 0 M a.aa.ax 0 0 0 0 0 0 0 false (bL.mk ([]) ([])) (E4 ([])) (E4 h) (E4 ([]))) none 0 0 A4 h.length Z d4 none 0 0 aJ bJ O rfl (fun _ _=>bD.nil _ _ _) f2 aC rfl (aM _ aF) (show h.length≤Z∧h.length≤9223372036854775807 from by omega) (fun x9 h9=>⟨aM _ (P x9 h9).1,(P x9 h9).2⟩) rfl (fun _ _=>bD.nil _ _ _) f2 e8 (by first | assumption | exact dG f4 | exact fun x hx=>absurd hx B3 | exact dG (Mk.l8 f4).1 | exact dG (Mk.lq f4).1 | exact dG (Mk.mq f4).1 | exact dG (Mk.mo f4).1 | exact dG (Mk.mr f4).1) aK) ?_
 rintro _ fH ⟨dJ,dK,dL,rfl,bM,aN,aO⟩
 have bA:=bK _ _ bM
 have eU:=az aN
 have eX:=bA.rowC (i:=1) rfl
 replace aO:aJ.bB.ls.length=V.bB.ls.length+1:=aO
 refine D0 (Gf (res0 rfl) (D0 (Gf (res0 rfl) ?_)))
 have dM:=bA.px [0,1,2,13] [11,12] []
 obtain⟨rfl,rfl⟩:=gm (hr.symm.trans (show _=(aJ,aB.mk a.aa a.bI (E4 a.ak.ls) a.aR a.aN a.aO a.aP (dX.mk true M N (E4 Q)) a.di a.cz a.cK a.cB a.cu) from et (ai X) (et (iN aQ) (et (iN bC) (et (iN dw) (ai aK))))))
 exact⟨dJ,dK,dL,j,l,f,t,u,m,y,z,n,B,C,p,T,U,aP,rfl,dM,aN,g,G,I,J,Y,i1⟩
def gV (e:Nat) (f:Bool):List Int→List bQ→(List bQ)
  | [],a=>a
  | c::d,a=>bnd (dA (bH.mk (E4 a)) (bQ.mk 5 0 c 0 0 0 0 0 e 0 0 0 0 0 0 f (bL.mk ([]) ([])) (E4 ([])) (E4 ([])) (E4 ([])))) fun b=>gV e f d b.bB.ls
def eG (a:bH) (b:Nat) (c:List Int) (d:Bool):bH:=
 bnd (gV b d c a.bB.ls) fun sLrL=>bH.mk (E4 sLrL)
set_option maxHeartbeats 1000000 in
theorem kF (w:World) (D:Nat→Prop) (F:Nat) (u:bH) (l:Option Addr) (m:Nat) (d:List bF) (f:Nat) (h:Nat) (J:Option Addr) (U V:Nat) (c:List Int) (j:Bool) (S:bH) (H:Own w D w [blk F [.pointer (some ⟨f,0,none⟩), .slice l u.bB.ls.length m] 98,row l u.bB.ls.length m (q6 bF.cells d) 42 21,sepL (q6 bF.own d)]) (n:s8 bF.abs d=u.bB.ls) (G:Ro w D fun w'=>bD w' 1 J U (q6 (eI .i64) c)) (W:U=c.length) (aC:c.length *8≤211106232532992) (aD:u.bB.ls.length+c.length≤1000000) (hr:eG u h c j=S):
    Calls y4 27 #[vP F 0,vU h, .slice J U V, .bool j] w (dR fun v w'=> ∃ (B0ox0:Option Addr) (b0ox0:Nat) (e0ox0:List bF),v= .tuple #[]∧Own w D w' [blk F [vP f 0, .slice B0ox0 S.bB.ls.length b0ox0] 98,row B0ox0 S.bB.ls.length b0ox0 (q6 bF.cells e0ox0) 42 21,sepL (q6 bF.own e0ox0)]∧(s8 bF.abs e0ox0=S.bB.ls)):=by
 subst W
 have T:=az n
 have X:=H.rowC (i:=1) rfl
 refine cb Tryz.func27 ?_
 refine sr (Mz rfl (Kz (vJ c.length) (Mn rfl (bo ?_))))
 have Y:=H.pf []
 obtain⟨Z,o⟩:=AQ fun(a:Nat) (p:Option Addr) (r:Nat) (g:List bF) (b:List bQ) (w':World)=>Own w D w' [blk F [vP f 0, .slice p b.length r] 98,row p b.length r (q6 bF.cells g) 42 21,sepL (q6 bF.own g)]∧s8 bF.abs g=b∧a≤c.length∧b.length=u.bB.ls.length+a∧b.length≤u.bB.ls.length+a∧gV h j c u.bB.ls=gV h j (List.drop a c) b
 refine Wp.loop (fun i:Nat × (Option Addr) × Nat × (List bF) × (List bQ)=> [(12,vJ i.1),(11,vJ c.length),(10, .slice J c.length V),(0,vP F 0),(1,vU h),(3, .bool j)]) Z (fun i=>c.length - i.1) (0,l,m,d,u.bB.ls) ⟨rfl,rfl,rfl,rfl,rfl,rfl,trivial⟩ (o.2 ⟨Y,by exact n,e6,e6,e6,rfl⟩) ?_
 rintro ⟨a,p,r,g,b⟩ aF K
 obtain⟨s,t,aj,ak,au,z⟩:=o.1 K
 have av:=az t
 refine sr (Kz (.bool (decide (((a:Nat):Int) < ((c.length:Nat):Int)))) (nt (FU ?_)))
 by_cases L:((a:Nat):Int) < ((c.length:Nat):Int)
 obtain⟨y,A⟩:=dK (ls:=c) (i:=a) iI f3 (s.ro G) e9
 have M:=drop_at A
 refine jT (dT L) (sk (FU (bo (sr (fw (.pointer (some ⟨ab J,ao J+a *1,none⟩)) (FZ (ng) rfl rfl ((s.ro G).addr (i:=a) e6) e6) (fw (vI y) (F5 rfl (bZ.one Tryz.isAgg3 (((s.ro G).elem iI A f3).at_ (k:=0) rfl))) (An rfl (FT (Mz rfl (Mz rfl (Mz rfl (Mz rfl (Kz (.agg (gD 5 0 y 0 0 0 0 0 h 0 0 0 0 0 0 j ([]) ([]) none 0 0 none 0 0 none 0 0).toArray) ?_)))))))))))))
 obtain⟨I,B⟩:∃ q,dA (bH.mk (E4 b)) (bQ.mk 5 0 y 0 0 0 0 0 h 0 0 0 0 0 0 j (bL.mk ([]) ([])) (E4 ([])) (E4 ([])) (E4 ([])))=q:=⟨_,rfl⟩
 obtain⟨aG,N,ax,O,ay⟩:=Gv s
 refine cl O6 (fI _ _ F (bH.mk (E4 b)) p r g f (bQ.mk 5 0 y 0 0 0 0 0 h 0 0 0 0 0 0 j (bL.mk ([]) ([])) (E4 ([])) (E4 ([])) (E4 ([]))) none 0 0 none 0 0 [] none 0 0 I N t rfl (fun _ _=>bD.nil _ _ _) f2 rfl rfl (fun _ _=>bD.nil _ _ _) f2 (fun _ h9=>absurd h9 B3) rfl (fun _ _=>bD.nil _ _ _) f2 e8 (by first | assumption | exact dG f4 | exact fun x hx=>absurd hx B3 | exact dG (Mk.l8 f4).1 | exact dG (Mk.lq f4).1 | exact dG (Mk.mq f4).1 | exact dG (Mk.mo f4).1 | exact dG (Mk.mr f4).1) B) ?_
 rintro _ aI ⟨aa,ae,af,rfl,P,C,E⟩
 have Q:=O _ _ P
 have aA:=az C
 have aB:=Q.rowC (i:=1) rfl
 replace E:I.bB.ls.length=b.length+1:=E
 refine D0 (bN (FW (FT (fw (vJ (a+1)) (FV (e:=C7.wrap (((a:Nat):Int)+1)) yk f1) (Mz rfl (D0 ?_))))))
 have ag:=Q.pf []
 exact F9 (a+1,aa,ae,af,I.bB.ls) ⟨rfl,rfl,rfl,rfl,rfl,rfl,trivial⟩ (o.2 ⟨ag,by exact C,e6,e6,e6,et (z) (et (congrArg (fun q=>gV h j q b) M) (ai B))⟩) (by show c.length - (a+1) < c.length - a; omega)
 refine jF (dF L) (Wp.exit (F4 ?_))
 have R:gV h j c u.bB.ls=b:=et (z) (et (congrArg (fun q=>gV h j q b) (eZ (ls:=c) (i:=a) e6)) rfl)
 refine F4 (Gg (Gf (res0 rfl) ?_))
 have ah:=s.pf []
 obtain rfl:_=bH.mk (E4 b):=hr.symm.trans (ai R)
 exact⟨p,r,g,rfl,ah,t⟩
theorem Cr (a:Nat) (b:Bool):∀ (l:List Int) (o:List bQ),s2 (gV a b l o)=o.length+l.length
  | [],o=>rfl
  | x::q,o=>by
    simp only [gV,bnd]
    rw [Cr a b q]
    simp only [dA,bnd,List.length_append,List.length_cons,List.length_nil]; omega
theorem xP {a:bH} {c:Nat} {l:List Int} {b:Bool} {r:bH} (h:eG a c l b=r):r.bB.ls.length=a.bB.ls.length+l.length:=by
 rw [← h]; exact Cr c b l _
end Go.Proofs.YtbkagebjhbphaaaGreat
