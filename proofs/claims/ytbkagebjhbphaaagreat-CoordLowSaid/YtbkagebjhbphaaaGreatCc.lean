/-
 coord: what it answers.
-/
import Derived.Test.YtbkagebjhbphaaaGreatCoM
import Derived.Test.YtbkagebjhbphaaaGreatRc
import Derived.Test.YtbkagebjhbphaaaGreatWc
import Derived.Test.YtbkagebjhbphaaaGreatOc
import Derived.Test.YtbkagebjhbphaaaGreatGc
namespace Go.Proofs.YtbkagebjhbphaaaGreat
open Int renaming toNat→D2
open IntKind renaming i64→C7,u64→D3
open List renaming flatMap→q6,getD→C2,length→s2,length_map→s6,map→s8,mem_of_getElem?→E0,not_mem_nil→B3
open Ll renaming mk→E4
open _root_.Go.Proofs.Tryz renaming call65→O0,call89→N8,func89→N9,isAgg24→N7,isAgg28→E1,prog→y4,sizeOf81→O1
open WL renaming nil→D0
set_option maxRecDepth 100000
open Go.RowKit
set_option linter.unusedVariables false
set_option linter.unusedSectionVars false
set_option linter.unusedSimpArgs false
def gX (a:aB):Nat:=
 D2 (D3.wrap (((D2 (D3.wrap (((eQ a.aa.ax 32:Nat):Int)+((a.bH:Nat):Int))):Nat):Int)+1))
theorem pO (w:World) (D:Nat→Prop) (x:Nat) (a:aB) (b:Option Addr) (c:Nat) (d:Option Addr) (f:Nat) (g:Option Addr) (h:Nat) (i:Option Addr) (j:Nat) (k:Option Addr) (l:Nat) (n:Option Addr) (o:Nat) (p:Option Addr) (q:Nat) (r:Option Addr) (s:Nat) (t:Option Addr) (u:Nat) (z:Nat) (H:Own w D w [blk x [.int .i64 a.aa.ak, .int .u64 ((a.aa.ax:Nat):Int), .int .u64 ((a.aa.bi:Nat):Int), .int .u64 ((a.aa.aI:Nat):Int), .slice b a.aa.ag.ls.length c, .slice d a.aa.aj.ls.length f, .slice g a.aa.aF.ls.length h, .int .u64 ((a.bH:Nat):Int), .slice i a.aA.ls.length j, .bool a.aQ.aR, .int .u64 ((a.aQ.aH:Nat):Int), .int .i64 a.aQ.aZ, .slice k a.aQ.ae.ls.length l, .bool a.aO.aR, .int .u64 ((a.aO.aH:Nat):Int), .int .i64 a.aO.aZ, .slice n a.aO.ae.ls.length o, .bool a.aL.aR, .int .u64 ((a.aL.aH:Nat):Int), .int .i64 a.aL.aZ, .slice p a.aL.ae.ls.length q, .bool a.aN.aR, .int .u64 ((a.aN.aH:Nat):Int), .int .i64 a.aN.aZ, .slice r a.aN.ae.ls.length s, .bool a.aK.aR, .int .u64 ((a.aK.aH:Nat):Int), .int .i64 a.aK.aZ, .slice t a.aK.ae.ls.length u, .int .u64 ((a.df:Nat):Int), .int .u64 ((a.cu:Nat):Int), .int .u64 ((a.cz:Nat):Int), .int .u64 ((a.cB:Nat):Int), .int .u64 ((a.cK:Nat):Int), .pointer none] 86]) (hr:gX a=z):
    Calls y4 126 #[vP x 0] w (dS fun v w'=>v=vU z∧Own w D w' [blk x [vI a.aa.ak,vU a.aa.ax,vU a.aa.bi,vU a.aa.aI, .slice b a.aa.ag.ls.length c, .slice d a.aa.aj.ls.length f, .slice g a.aa.aF.ls.length h,vU a.bH, .slice i a.aA.ls.length j, .bool a.aQ.aR,vU a.aQ.aH,vI a.aQ.aZ, .slice k a.aQ.ae.ls.length l, .bool a.aO.aR,vU a.aO.aH,vI a.aO.aZ, .slice n a.aO.ae.ls.length o, .bool a.aL.aR,vU a.aL.aH,vI a.aL.aZ, .slice p a.aL.ae.ls.length q, .bool a.aN.aR,vU a.aN.aH,vI a.aN.aZ, .slice r a.aN.ae.ls.length s, .bool a.aK.aR,vU a.aK.aH,vI a.aK.aZ, .slice t a.aK.ae.ls.length u,vU a.df,vU a.cu,vU a.cz,vU a.cB,vU a.cK, .pointer none] 86]∧(z≤18446744073709551615)):=by
 refine cb Tryz.func126 ?_
 refine sr (An rfl (EP ?_))
 have y:=H.drew
 refine F3 [] (fun W=> ∃ L',Own w D W ([blk x [vI a.aa.ak,vU a.aa.ax,vU a.aa.bi,vU a.aa.aI, .slice b a.aa.ag.ls.length c, .slice d a.aa.aj.ls.length f, .slice g a.aa.aF.ls.length h,vU a.bH, .slice i a.aA.ls.length j, .bool a.aQ.aR,vU a.aQ.aH,vI a.aQ.aZ, .slice k a.aQ.ae.ls.length l, .bool a.aO.aR,vU a.aO.aH,vI a.aO.aZ, .slice n a.aO.ae.ls.length o, .bool a.aL.aR,vU a.aL.aH,vI a.aL.aZ, .slice p a.aL.ae.ls.length q, .bool a.aN.aR,vU a.aN.aH,vI a.aN.aZ, .slice r a.aN.ae.ls.length s, .bool a.aK.aR,vU a.aK.aH,vI a.aK.aZ, .slice t a.aK.ae.ls.length u,vU a.df,vU a.cu,vU a.cz,vU a.cB,vU a.cK, .pointer none] 86]++L')) e7 e7 (E9 Fp) ⟨_,y⟩ ?_
 revert y
 generalize World.drew w=C
 intro y
 refine qv 0 rfl rfl (qp x 0 1 rfl (qp x 0 2 rfl (qp x 1 3 rfl (ql 4 rfl 0 E1 rfl rfl rfl ?_))))
 have B:eQ a.aa.ax 32≤18446744073709551615:=oC _ _
 refine qt (v:=vU (eQ a.aa.ax 32)) 5 rfl (fun _ _=>EQ (Gm (m:=32) rfl rfl) (fe _)) (qv 6 rfl rfl (qp x 0 7 rfl (qp x 7 8 rfl (ql 9 rfl 0 E1 rfl rfl rfl (qt (v:= .int .u64 ((D2 (D3.wrap (((eQ a.aa.ax 32:Nat):Int)+((a.bH:Nat):Int))):Nat):Int)) 10 rfl (fun _ _=>EQ (e:=D3.wrap (((eQ a.aa.ax 32:Nat):Int)+((a.bH:Nat):Int))) yk (fe _)) (qt (v:= .int .u64 ((D2 (D3.wrap (((D2 (D3.wrap (((eQ a.aa.ax 32:Nat):Int)+((a.bH:Nat):Int))):Nat):Int)+1)):Nat):Int)) 11 rfl (fun _ _=>EQ (e:=D3.wrap (((D2 (D3.wrap (((eQ a.aa.ax 32:Nat):Int)+((a.bH:Nat):Int))):Nat):Int)+1)) yk (fe _)) (qa 12 rfl rfl (qn (ER (rt (rs ?_)))))))))))
 have A:=y.pf []
 obtain rfl:_=D2 (D3.wrap (((D2 (D3.wrap (((eQ a.aa.ax 32:Nat):Int)+((a.bH:Nat):Int))):Nat):Int)+1)):=hr.symm.trans rfl
 exact⟨rfl,A,(by first | exact l7 _ | omega)⟩
def gy (b:aB):Nat:=
 bnd (gX b) fun a=>bnd (if((b.aA.ls.length:Nat):Int) > 0 then bnd (C2 b.aA.ls 0 default) fun c=>min a c.bq else a) fun sJrbJ=>if((b.aa.aj.ls.length:Nat):Int) > 0 then bnd (C2 b.aa.aj.ls 0 default) fun d=>min sJrbJ d.bf else sJrbJ
set_option maxHeartbeats 4000000 in
theorem nR (w:World) (D:Nat→Prop) (p:Nat) (a:aB) (y:Option Addr) (z:Nat) (b:Option Addr) (f:Nat) (B:List ay) (C:Option Addr) (E:Nat) (d:Option Addr) (g:Nat) (F:List bB) (G:Option Addr) (I:Nat) (J:Option Addr) (K:Nat) (L:Option Addr) (M:Nat) (N:Option Addr) (O:Nat) (P:Option Addr) (Q:Nat) (r0:Nat) (H:Own w D w [blk p [.int .i64 a.aa.ak, .int .u64 ((a.aa.ax:Nat):Int), .int .u64 ((a.aa.bi:Nat):Int), .int .u64 ((a.aa.aI:Nat):Int), .slice y a.aa.ag.ls.length z, .slice b a.aa.aj.ls.length f, .slice C a.aa.aF.ls.length E, .int .u64 ((a.bH:Nat):Int), .slice d a.aA.ls.length g, .bool a.aQ.aR, .int .u64 ((a.aQ.aH:Nat):Int), .int .i64 a.aQ.aZ, .slice G a.aQ.ae.ls.length I, .bool a.aO.aR, .int .u64 ((a.aO.aH:Nat):Int), .int .i64 a.aO.aZ, .slice J a.aO.ae.ls.length K, .bool a.aL.aR, .int .u64 ((a.aL.aH:Nat):Int), .int .i64 a.aL.aZ, .slice L a.aL.ae.ls.length M, .bool a.aN.aR, .int .u64 ((a.aN.aH:Nat):Int), .int .i64 a.aN.aZ, .slice N a.aN.ae.ls.length O, .bool a.aK.aR, .int .u64 ((a.aK.aH:Nat):Int), .int .i64 a.aK.aZ, .slice P a.aK.ae.ls.length Q, .int .u64 ((a.df:Nat):Int), .int .u64 ((a.cu:Nat):Int), .int .u64 ((a.cz:Nat):Int), .int .u64 ((a.cB:Nat):Int), .int .u64 ((a.cK:Nat):Int), .pointer none] 86]) (R:s8 ay.abs B=a.aa.aj.ls) (r:Ro w D fun w'=>bD w' 5 b a.aa.aj.ls.length (q6 ay.cells B)) (aF:a.aa.aj.ls.length≤f∧a.aa.aj.ls.length≤9223372036854775807) (ae:∀ x ∈ B,Ro w D (fun w'=>bD w' 1 x.ak.A x.ak.ls.length (q6 (eI .i64) x.ak.ls))∧(x.ak.ls.length≤x.ak.c∧x.ak.ls.length≤9223372036854775807)) (S:s8 bB.abs F=a.aA.ls) (s:Ro w D fun w'=>bD w' 9 d a.aA.ls.length (q6 bB.cells F)) (aG:a.aA.ls.length≤g∧a.aA.ls.length≤9223372036854775807) (m:∀ x ∈ F,Ro w D (fun w'=>bD w' 6 x.bS.A x.bS.ls.length (q6 bC.cells x.bS.ls))∧(x.bS.ls.length≤x.bS.c∧x.bS.ls.length≤9223372036854775807)∧Ro w D (fun w'=>bD w' 3 x.aC.A x.aC.ls.length (q6 bG.cells x.aC.ls))∧(x.aC.ls.length≤x.aC.c∧x.aC.ls.length≤9223372036854775807)∧(∀ j ∈ x.aC.ls,Ro w D (fun w'=>bD w' 6 j.aD.A j.aD.ls.length (q6 bC.cells j.aD.ls))∧(j.aD.ls.length≤j.aD.c∧j.aD.ls.length≤9223372036854775807)∧Ro w D (fun w'=>bD w' 1 j.aP.A j.aP.ls.length (q6 (eI .i64) j.aP.ls))∧(j.aP.ls.length≤j.aP.c∧j.aP.ls.length≤9223372036854775807))∧Ro w D (fun w'=>bD w' 1 x.bF.A x.bF.ls.length (q6 eL x.bF.ls))∧(x.bF.ls.length≤x.bF.c∧x.bF.ls.length≤9223372036854775807)∧Ro w D (fun w'=>bD w' 1 x.ae.A x.ae.ls.length (q6 (FJ (β:=af)) x.ae.ls))∧(x.ae.ls.length≤x.ae.c∧x.ae.ls.length≤9223372036854775807)∧(∀ j ∈ x.ae.ls,Ro w D (fun w'=>bD w' 3 j.A j.ls.length (q6 af.cells j.ls))∧(j.ls.length≤j.c∧j.ls.length≤9223372036854775807)∧(∀ y2 ∈ j.ls,Ro w D (fun w'=>bD w' 2 y2.au.A y2.au.ls.length (q6 aJ.cells y2.au.ls))∧(y2.au.ls.length≤y2.au.c∧y2.au.ls.length≤9223372036854775807)))) (aY:a.aa.ag.ls.length≤1000∧a.aa.aj.ls.length≤1000∧a.aa.aF.ls.length≤1000∧a.aA.ls.length≤1000) (hr:gy a=r0):
    Calls y4 108 #[vP p 0] w (dS fun v w'=>v=vU r0∧Own w D w' [blk p [vI a.aa.ak,vU a.aa.ax,vU a.aa.bi,vU a.aa.aI, .slice y a.aa.ag.ls.length z, .slice b a.aa.aj.ls.length f, .slice C a.aa.aF.ls.length E,vU a.bH, .slice d a.aA.ls.length g, .bool a.aQ.aR,vU a.aQ.aH,vI a.aQ.aZ, .slice G a.aQ.ae.ls.length I, .bool a.aO.aR,vU a.aO.aH,vI a.aO.aZ, .slice J a.aO.ae.ls.length K, .bool a.aL.aR,vU a.aL.aH,vI a.aL.aZ, .slice L a.aL.ae.ls.length M, .bool a.aN.aR,vU a.aN.aH,vI a.aN.aZ, .slice N a.aN.ae.ls.length O, .bool a.aK.aR,vU a.aK.aH,vI a.aK.aZ, .slice P a.aK.ae.ls.length Q,vU a.df,vU a.cu,vU a.cz,vU a.cB,vU a.cK, .pointer none] 86]):=by
 have aC:=az R
 have aD:=az S
 refine cb Tryz.func108 ?_
 refine sr (Ar rfl (Mz rfl ?_))
 obtain⟨h,T⟩:∃ q,gX a=q:=⟨_,rfl⟩
 obtain⟨aZ,ai,aO,aj,aP⟩:=Fu H
 refine cl Tryz.call126 (pO _ _ p a y z b f C E d g G I J K L M N O P Q h ai T) ?_
 rintro _ bf ⟨rfl,ak,Z⟩
 have t:=aj _ _ ak
 replace Z:h≤18446744073709551615:=Z
 refine An rfl (EP (sr (Mz rfl (Kz (vP p 0) (Kz (vP p 8) (Lz (.slice d a.aA.ls.length g) t 0 Tryz.isAgg79 (Kz (vJ a.aA.ls.length) (Kz (.bool (decide (((a.aA.ls.length:Nat):Int) > 0))) (nt ?_)))))))))
 obtain⟨aH,U⟩:=lK fun(n:Nat) (w':World)=>Own w D w' [blk p [vI a.aa.ak,vU a.aa.ax,vU a.aa.bi,vU a.aa.aI, .slice y a.aa.ag.ls.length z, .slice b a.aa.aj.ls.length f, .slice C a.aa.aF.ls.length E,vU a.bH, .slice d a.aA.ls.length g, .bool a.aQ.aR,vU a.aQ.aH,vI a.aQ.aZ, .slice G a.aQ.ae.ls.length I, .bool a.aO.aR,vU a.aO.aH,vI a.aO.aZ, .slice J a.aO.ae.ls.length K, .bool a.aL.aR,vU a.aL.aH,vI a.aL.aZ, .slice L a.aL.ae.ls.length M, .bool a.aN.aR,vU a.aN.aH,vI a.aN.aZ, .slice N a.aN.ae.ls.length O, .bool a.aK.aR,vU a.aK.aH,vI a.aK.aZ, .slice P a.aK.ae.ls.length Q,vU a.df,vU a.cu,vU a.cz,vU a.cB,vU a.cK, .pointer none] 86]∧n≤h∧(if((a.aA.ls.length:Nat):Int) > 0 then bnd (C2 a.aA.ls 0 default) fun au=>min h au.bq else h)=n
 refine FK (fun i:Nat=> [(3,vU i),(2, .int .u64 0),(0,vP p 0)]) aH ?_ ?_
 by_cases X:((a.aA.ls.length:Nat):Int) > 0
 refine jT (dT X) (EO (Mz rfl (Mz rfl (Kz (vP p 0) (Kz (vP p 8) (Lz (.slice d a.aA.ls.length g) t 0 Tryz.isAgg79 ?_))))))
 obtain⟨o,l⟩:=dG (ls:=F) (i:=0) bB.len f3 (t.ro s) e9
 have av:=eP S l
 have aQ:=(m _ (E0 l)).2.1
 have aR:=(m _ (E0 l)).2.2.2.1
 have aS:s2 (s8 bG.abs o.aC.ls)=o.aC.ls.length:=s6 ..
 have aT:=(m _ (E0 l)).2.2.2.2.2.2.1
 have aU:=(m _ (E0 l)).2.2.2.2.2.2.2.2.1
 have aV:s2 (s8 bM.abs o.ae.ls)=o.ae.ls.length:=s6 ..
 refine fw (.pointer (some ⟨ab d,ao d+0 *9,none⟩)) (ET (oQ) rfl rfl ((t.ro s).addr (i:=0) e6) e6) (Kz (.pointer (some ⟨ab d,ao d+0 *9,none⟩)) (fw (vU o.bq) (EY rfl (bZ.one E1 (((t.ro s).elem bB.len l f3).at_ (k:=0) rfl))) (fw (vU (min h o.bq)) (EQ (e:=if((o.bq:Nat):Int) < ((h:Nat):Int) then((o.bq:Nat):Int) else((h:Nat):Int)) yk e6) (Az rfl (D0 ?_)))))
 have aI:=t.pf []
 exact FD (min h o.bq) ⟨rfl,rfl,rfl,trivial⟩ (U.2 ⟨aI,e6,et (ip X) (ah (bI av))⟩)
 refine jF (dF X) (Fq ?_)
 have aK:=t.pf []
 exact FD h ⟨rfl,rfl,rfl,trivial⟩ (U.2 ⟨aK,e6,iN X⟩)
 rintro n bg ax
 obtain⟨u,aW,aa⟩:=U.1 ax
 refine EP (sr (Mz rfl (Kz (vP p 0) (Kz (vP p 0) (Kz (vP p 5) (Lz (.slice b a.aa.aj.ls.length f) u 0 Tryz.isAgg30 (Kz (vJ a.aa.aj.ls.length) (Kz (.bool (decide (((a.aa.aj.ls.length:Nat):Int) > 0))) (nt ?_)))))))))
 by_cases Y:((a.aa.aj.ls.length:Nat):Int) > 0
 refine jT (dT Y) (EO (Mz rfl (Mz rfl (Kz (vP p 0) (Kz (vP p 0) (Kz (vP p 5) (Lz (.slice b a.aa.aj.ls.length f) u 0 Tryz.isAgg30 ?_)))))))
 obtain⟨V,W⟩:=dG (ls:=B) (i:=0) ay.len f3 (u.ro r) e9
 have aA:=eP R W
 have aX:=(ae _ (E0 W)).2
 refine fw (.pointer (some ⟨ab b,ao b+0 *5,none⟩)) (ET (kv) rfl rfl ((u.ro r).addr (i:=0) e6) e6) (Kz (.pointer (some ⟨ab b,ao b+0 *5,none⟩)) (fw (vU V.bf) (EY rfl (bZ.one E1 (((u.ro r).elem ay.len W f3).at_ (k:=0) rfl))) (fw (vU (min n V.bf)) (EQ (e:=if((V.bf:Nat):Int) < ((n:Nat):Int) then((V.bf:Nat):Int) else((n:Nat):Int)) yk e6) (Ar rfl (Mz rfl (An rfl (rt (rs ?_))))))))
 have aL:=u.pf []
 obtain rfl:_=min n V.bf:=hr.symm.trans (et (ah T) (et (ah aa) (et (ip Y) (ah (bI aA)))))
 exact⟨rfl,aL⟩
 refine jF (dF Y) (sk (sr (Mz rfl (An rfl (rt (rs ?_))))))
 have aM:=u.pf []
 obtain rfl:_=n:=hr.symm.trans (et (ah T) (et (ah aa) (iN Y)))
 exact⟨rfl,aM⟩
def eX (g:bO) (e:Int) (d:bQ) (a:aB):List fF→Unit ⊕ bO
  | []=>Sum.inl ()
  | b::c=>if b.aS=e then if((b.ax:Nat):Int)=((d.ax:Nat):Int) then if((b.aY:Nat):Int)=((d.aY:Nat):Int) then bnd (dB g (bQ.mk 2 0 (C7.wrap (10+e)) 0 1 0 d.aY a.aa.ax 0 0 0 0 0 0 0 false (bK.mk ([]) ([])) (E4 ([])) (E4 b.ai.ls) (E4 ([])))) fun f=>Sum.inr (f) else eX g e d a c else eX g e d a c else eX g e d a c
def lq (c:bO) (d:Int) (e:bQ) (a:aB):bO:=
 lp (eX c d e a a.aa.aF.ls) fun _=>bnd (dB c (bQ.mk 2 0 (C7.wrap (10+d)) 0 2 0 e.aY a.aa.ax 0 0 0 0 0 0 0 false (bK.mk ([]) ([])) (E4 ([])) (E4 ([])) (E4 ([])))) fun b=>b
set_option maxHeartbeats 4000000 in
theorem sV (w:World) (D:Nat→Prop) (g0:Nat) (K:bO) (L:Option Addr) (M:Nat) (G:List bA) (J:Int) (f:bQ) (au:Option Addr) (aO av:Nat) (ax:Option Addr) (aP ay:Nat) (aF:List af) (aA:Option Addr) (aQ aC:Nat) (d:Nat) (a:aB) (O:Option Addr) (P:Nat) (Q:Option Addr) (R:Nat) (h:Option Addr) (j:Nat) (p:List aV) (S:Option Addr) (T:Nat) (r:Option Addr) (s:Nat) (U:List af) (t:Option Addr) (u:Nat) (V:List af) (y:Option Addr) (z:Nat) (W:List af) (B:Option Addr) (C:Nat) (X:List af) (E:Option Addr) (F:Nat) (Y:List af) (r0:bO) (H:Own w D w [blk g0 [.pointer (some ⟨d,0,none⟩), .slice L K.bE.ls.length M] 98,row L K.bE.ls.length M (q6 bA.cells G) 42 21,sepL (q6 bA.own G),blk d [.int .i64 a.aa.ak, .int .u64 ((a.aa.ax:Nat):Int), .int .u64 ((a.aa.bi:Nat):Int), .int .u64 ((a.aa.aI:Nat):Int), .slice O a.aa.ag.ls.length P, .slice Q a.aa.aj.ls.length R, .slice h a.aa.aF.ls.length j, .int .u64 ((a.bH:Nat):Int), .slice S a.aA.ls.length T, .bool a.aQ.aR, .int .u64 ((a.aQ.aH:Nat):Int), .int .i64 a.aQ.aZ, .slice r a.aQ.ae.ls.length s, .bool a.aO.aR, .int .u64 ((a.aO.aH:Nat):Int), .int .i64 a.aO.aZ, .slice t a.aO.ae.ls.length u, .bool a.aL.aR, .int .u64 ((a.aL.aH:Nat):Int), .int .i64 a.aL.aZ, .slice y a.aL.ae.ls.length z, .bool a.aN.aR, .int .u64 ((a.aN.aH:Nat):Int), .int .i64 a.aN.aZ, .slice B a.aN.ae.ls.length C, .bool a.aK.aR, .int .u64 ((a.aK.aH:Nat):Int), .int .i64 a.aK.aZ, .slice E a.aK.ae.ls.length F, .int .u64 ((a.df:Nat):Int), .int .u64 ((a.cu:Nat):Int), .int .u64 ((a.cz:Nat):Int), .int .u64 ((a.cB:Nat):Int), .int .u64 ((a.cK:Nat):Int), .pointer none] 86]) (ai:s8 bA.abs G=K.bE.ls) (bf:aO=f.aD.ls.length) (dM:Ro w D fun w'=>bD w' 6 au f.aD.ls.length (q6 bC.cells f.aD.ls)) (dO:f.aD.ls.length≤av∧f.aD.ls.length≤9223372036854775807) (bg:s8 af.abs aF=f.ai.ls) (bi:aP=f.ai.ls.length) (dP:Ro w D fun w'=>bD w' 3 ax f.ai.ls.length (q6 af.cells aF)) (dQ:f.ai.ls.length≤ay∧f.ai.ls.length≤9223372036854775807) (dR:∀ x ∈ aF,Ro w D (fun w'=>bD w' 2 x.au.A x.au.ls.length (q6 aJ.cells x.au.ls))∧(x.au.ls.length≤x.au.c∧x.au.ls.length≤9223372036854775807)) (bn:aQ=f.ag.ls.length) (dU:Ro w D fun w'=>bD w' 2 aA f.ag.ls.length (q6 bv.cells f.ag.ls)) (dV:f.ag.ls.length≤aC∧f.ag.ls.length≤9223372036854775807) (Z:s8 aV.abs p=a.aa.aF.ls) (I:Ro w D fun w'=>bD w' 4 h a.aa.aF.ls.length (q6 aV.cells p)) (bM:a.aa.aF.ls.length≤j∧a.aa.aF.ls.length≤9223372036854775807) (n:∀ x ∈ p,Ro w D (fun w'=>bD w' 3 x.ai.A x.ai.ls.length (q6 af.cells x.ai.ls))∧(x.ai.ls.length≤x.ai.c∧x.ai.ls.length≤9223372036854775807)∧(∀ y1 ∈ x.ai.ls,Ro w D (fun w'=>bD w' 2 y1.au.A y1.au.ls.length (q6 aJ.cells y1.au.ls))∧(y1.au.ls.length≤y1.au.c∧y1.au.ls.length≤9223372036854775807))) (aG:s8 af.abs U=a.aQ.ae.ls) (bP:Ro w D fun w'=>bD w' 3 r a.aQ.ae.ls.length (q6 af.cells U)) (bS:a.aQ.ae.ls.length≤s∧a.aQ.ae.ls.length≤9223372036854775807) (bT:∀ x ∈ U,Ro w D (fun w'=>bD w' 2 x.au.A x.au.ls.length (q6 aJ.cells x.au.ls))∧(x.au.ls.length≤x.au.c∧x.au.ls.length≤9223372036854775807)) (aH:s8 af.abs V=a.aO.ae.ls) (bU:Ro w D fun w'=>bD w' 3 t a.aO.ae.ls.length (q6 af.cells V)) (bV:a.aO.ae.ls.length≤u∧a.aO.ae.ls.length≤9223372036854775807) (bW:∀ x ∈ V,Ro w D (fun w'=>bD w' 2 x.au.A x.au.ls.length (q6 aJ.cells x.au.ls))∧(x.au.ls.length≤x.au.c∧x.au.ls.length≤9223372036854775807)) (aI:s8 af.abs W=a.aL.ae.ls) (bX:Ro w D fun w'=>bD w' 3 y a.aL.ae.ls.length (q6 af.cells W)) (bY:a.aL.ae.ls.length≤z∧a.aL.ae.ls.length≤9223372036854775807) (bZ:∀ x ∈ W,Ro w D (fun w'=>bD w' 2 x.au.A x.au.ls.length (q6 aJ.cells x.au.ls))∧(x.au.ls.length≤x.au.c∧x.au.ls.length≤9223372036854775807)) (aK:s8 af.abs X=a.aN.ae.ls) (cu:Ro w D fun w'=>bD w' 3 B a.aN.ae.ls.length (q6 af.cells X)) (cz:a.aN.ae.ls.length≤C∧a.aN.ae.ls.length≤9223372036854775807) (cB:∀ x ∈ X,Ro w D (fun w'=>bD w' 2 x.au.A x.au.ls.length (q6 aJ.cells x.au.ls))∧(x.au.ls.length≤x.au.c∧x.au.ls.length≤9223372036854775807)) (aL:s8 af.abs Y=a.aK.ae.ls) (cK:Ro w D fun w'=>bD w' 3 E a.aK.ae.ls.length (q6 af.cells Y)) (cO:a.aK.ae.ls.length≤F∧a.aK.ae.ls.length≤9223372036854775807) (cZ:∀ x ∈ Y,Ro w D (fun w'=>bD w' 2 x.au.A x.au.ls.length (q6 aJ.cells x.au.ls))∧(x.au.ls.length≤x.au.c∧x.au.ls.length≤9223372036854775807)) (fJ:a.aa.ag.ls.length≤1000∧a.aa.aj.ls.length≤1000∧a.aa.aF.ls.length≤1000∧a.aA.ls.length≤1000∧K.bE.ls.length≤100000) (fK:Mk a) (hr:lq K J f a=r0):
    Calls y4 86 #[vP g0 0,vI J, .agg (gH f.aM f.aP f.fO f.aS f.dJ f.d9 f.aY f.ax f.bf f.di f.bi f.aI f.dM f.cZ f.xN f.dY f.bW.bJ f.bW.bX au aO av ax aP ay aA aQ aC).toArray] w (dS fun v w'=> ∃ (B0ox0:Option Addr) (b0ox0:Nat) (e0ox0:List bA),v= .tuple #[]∧Own w D w' [blk g0 [vP d 0, .slice B0ox0 r0.bE.ls.length b0ox0] 98,row B0ox0 r0.bE.ls.length b0ox0 (q6 bA.cells e0ox0) 42 21,sepL (q6 bA.own e0ox0),blk d [vI a.aa.ak,vU a.aa.ax,vU a.aa.bi,vU a.aa.aI, .slice O a.aa.ag.ls.length P, .slice Q a.aa.aj.ls.length R, .slice h a.aa.aF.ls.length j,vU a.bH, .slice S a.aA.ls.length T, .bool a.aQ.aR,vU a.aQ.aH,vI a.aQ.aZ, .slice r a.aQ.ae.ls.length s, .bool a.aO.aR,vU a.aO.aH,vI a.aO.aZ, .slice t a.aO.ae.ls.length u, .bool a.aL.aR,vU a.aL.aH,vI a.aL.aZ, .slice y a.aL.ae.ls.length z, .bool a.aN.aR,vU a.aN.aH,vI a.aN.aZ, .slice B a.aN.ae.ls.length C, .bool a.aK.aR,vU a.aK.aH,vI a.aK.aZ, .slice E a.aK.ae.ls.length F,vU a.df,vU a.cu,vU a.cz,vU a.cB,vU a.cK, .pointer none] 86]∧(s8 bA.abs e0ox0=r0.bE.ls)):=by
 subst bf bi bn
 have dJ:=az ai
 have dL:=az bg
 have bE:=az Z
 have bF:=az aG
 have bG:=az aH
 have bH:=az aI
 have bI:=az aK
 have bJ:=az aL
 have dW:=H.rowC (i:=1) rfl
 refine cb Tryz.func86 ?_
 refine sr ?_
 refine dK (gM f au av ax ay aA aC) 42 H ?_
 intro aj fM bq
 refine nt (EP (sr (Mz rfl (Kz (vP g0 0) (Kz (vP g0 0) (Lz (vP d 0) bq 1 N7 (Kz (vP d 0) (Kz (vP d 0) (Kz (vP d 6) (Lz (.slice h a.aa.aF.ls.length j) bq 4 Tryz.isAgg31 (Kz (vJ a.aa.aF.ls.length) (Mn rfl (bo ?_)))))))))))))
 have dX:=bq.pf []
 obtain⟨dY,aa⟩:=lK fun(g:Nat) (w':World)=>Own w D w' [blk aj (gM f au av ax ay aA aC) 42,blk g0 [vP d 0, .slice L K.bE.ls.length M] 98,row L K.bE.ls.length M (q6 bA.cells G) 42 21,sepL (q6 bA.own G),blk d [vI a.aa.ak,vU a.aa.ax,vU a.aa.bi,vU a.aa.aI, .slice O a.aa.ag.ls.length P, .slice Q a.aa.aj.ls.length R, .slice h a.aa.aF.ls.length j,vU a.bH, .slice S a.aA.ls.length T, .bool a.aQ.aR,vU a.aQ.aH,vI a.aQ.aZ, .slice r a.aQ.ae.ls.length s, .bool a.aO.aR,vU a.aO.aH,vI a.aO.aZ, .slice t a.aO.ae.ls.length u, .bool a.aL.aR,vU a.aL.aH,vI a.aL.aZ, .slice y a.aL.ae.ls.length z, .bool a.aN.aR,vU a.aN.aH,vI a.aN.aZ, .slice B a.aN.ae.ls.length C, .bool a.aK.aR,vU a.aK.aH,vI a.aK.aZ, .slice E a.aK.ae.ls.length F,vU a.df,vU a.cu,vU a.cz,vU a.cB,vU a.cK, .pointer none] 86]∧g≤a.aa.aF.ls.length∧eX K J f a a.aa.aF.ls=eX K J f a (List.drop g a.aa.aF.ls)
 refine Wp.loop (fun i:Nat=> [(17,vJ i),(16,vJ a.aa.aF.ls.length),(15, .slice h a.aa.aF.ls.length j),(5,vP aj 0),(0,vP g0 0),(1,vI J)]) dY (fun i=>a.aa.aF.ls.length - i) 0 ⟨rfl,rfl,rfl,rfl,rfl,rfl,trivial⟩ (aa.2 ⟨dX,e6,rfl⟩) ?_
 rintro g fO df
 obtain⟨ae,eZ,ag⟩:=aa.1 df
 refine sr (Kz (.bool (decide (((g:Nat):Int) < ((a.aa.aF.ls.length:Nat):Int)))) (nt (EP ?_)))
 by_cases dh:((g:Nat):Int) < ((a.aa.aF.ls.length:Nat):Int)
 obtain⟨b,N⟩:=dG (ls:=p) (i:=g) aV.len f3 (ae.ro I) e9
 have aR:=eP Z N
 have fe:=(n _ (E0 N)).2.1
 have fo:s2 (s8 af.abs b.ai.ls)=b.ai.ls.length:=s6 ..
 have di:mJ (s8 af.abs b.ai.ls):=Dc f5 aR
 have fq:b.ai.ls.length≤1000:=by have q9:=di.1; rw [s6] at q9; exact q9
 have aD:=drop_at aR
 refine jT (dT dh) (sk (EP (bo (sr (fw (.pointer (some ⟨ab h,ao h+g *4,none⟩)) (ET (lI) rfl rfl ((ae.ro I).addr (i:=g) e6) e6) (fw (.agg (aV.cells b).toArray) (EY rfl (Fb (cs:=(aV.cells b)) Tryz.isAgg56 Tryz.sizeOf56 ((ae.ro I).elem aV.len N f3))) ?_))))))
 refine dK [vI 0, .int .u64 0, .int .u64 0, .slice none 0 0] 56 ae ?_
 intro aM fP dZ
 refine dN (aV.cells b) 0 dZ Tryz.sizeOf56 ?_
 intro fQ o
 refine ns (Kz (vP aM 0) (Lz (vI b.aS) o 0 Tryz.isAgg3 (Mz rfl (Kz (.bool (decide (b.aS=J))) (Mz rfl ?_)))))
 by_cases l:b.aS=J
 refine Gz (vP aM 1) (dT l) (Gl (vU b.ax) (dT l) o 0 E1 (Gz (vP aj 7) (dT l) (Gl (vU f.ax) (dT l) o 1 E1 (Gz (.bool (decide (((b.ax:Nat):Int)=((f.ax:Nat):Int)))) (dT l) (fw (.bool (decide (((b.ax:Nat):Int)=((f.ax:Nat):Int)))) (Fa rfl (dT l) rfl) (Mz rfl ?_))))))
 by_cases m:((b.ax:Nat):Int)=((f.ax:Nat):Int)
 refine Gz (vP aM 2) (dT m) (Gl (vU b.aY) (dT m) o 0 E1 (Gz (vP aj 6) (dT m) (Gl (vU f.aY) (dT m) o 1 E1 (Gz (.bool (decide (((b.aY:Nat):Int)=((f.aY:Nat):Int)))) (dT m) (fw (.bool (decide (((b.aY:Nat):Int)=((f.aY:Nat):Int)))) (Fa rfl (dT m) rfl) (nt ?_))))))
 by_cases aN:((b.aY:Nat):Int)=((f.aY:Nat):Int)
 refine jT (dT aN) (sr (Mz rfl (Mz rfl (Kz (vP aj 6) (Lz (vU f.aY) o 1 E1 (Kz (vP aM 3) (Lz (.slice b.ai.A b.ai.ls.length b.ai.c) o 0 Tryz.isAgg40 ?_)))))))
 refine WL.do rfl (Fe N8 rfl ?_ (fun _ _ k=>k))
 refine cb N9 ?_
 refine EO (Mz rfl (Mz rfl (Kz (vI (C7.wrap (10+J))) (Mz rfl (Mz rfl (Kz (vP g0 0) (Kz (vP g0 0) (Lz (vP d 0) o 2 N7 (Kz (vP d 0) (Kz (vP d 0) (Kz (vP d 1) (Lz (vU a.aa.ax) o 5 E1 (Mz rfl (Mz rfl (Kz (.agg (gH 2 0 (C7.wrap (10+J)) 0 1 0 f.aY a.aa.ax 0 0 0 0 0 0 0 false ([]) ([]) none 0 0 b.ai.A b.ai.ls.length b.ai.c none 0 0).toArray) ?_)))))))))))))))
 have d9:=o.pb [0,1,5]
 obtain⟨bu,aS⟩:∃ q,dB K (bQ.mk 2 0 (C7.wrap (10+J)) 0 1 0 f.aY a.aa.ax 0 0 0 0 0 0 0 false (bK.mk ([]) ([])) (E4 ([])) (E4 (s8 af.abs b.ai.ls)) (E4 ([])))=q:=⟨_,rfl⟩
 obtain⟨fT,dm,aT,dn,fA⟩:=FC d9
 refine cl O0 (fD _ _ g0 K L M G d (bQ.mk 2 0 (C7.wrap (10+J)) 0 1 0 f.aY a.aa.ax 0 0 0 0 0 0 0 false (bK.mk ([]) ([])) (E4 ([])) (E4 (s8 af.abs b.ai.ls)) (E4 ([]))) none 0 0 b.ai.A b.ai.ls.length b.ai.c b.ai.ls none 0 0 bu dm ai rfl (fun _ _=>bD.nil _ _ _) f2 (rfl:s8 af.abs b.ai.ls=s8 af.abs b.ai.ls) f0 (fun w9 h9=>oD (az (rfl:s8 af.abs b.ai.ls=s8 af.abs b.ai.ls)) ((aT _ (n _ (E0 N)).1) w9 h9)) (show s2 (s8 af.abs b.ai.ls)≤b.ai.c∧s2 (s8 af.abs b.ai.ls)≤9223372036854775807 from by omega) (fun x9 h9=>⟨aT _ ((n _ (E0 N)).2.2 x9 h9).1,((n _ (E0 N)).2.2 x9 h9).2⟩) rfl (fun _ _=>bD.nil _ _ _) f2 e8 (by first | assumption | exact dD f5 | exact fun x hx=>absurd hx B3 | exact dD (Mk.lX f5).1 | exact dD (Mk.kZ f5).1 | exact dD (Mk.ma f5).1 | exact dD (Mk.mg f5).1 | exact dD (Mk.mf f5).1) aS) ?_
 rintro _ fV ⟨ed,ek,eu,rfl,dw,aU,aW⟩
 have dx:=dn _ _ dw
 have fC:=az aU
 have fE:=dx.rowC (i:=1) rfl
 replace aW:bu.bE.ls.length=K.bE.ls.length+1:=aW
 refine D0 (Ff (res0 rfl) (nt (rt (bR (tR (tR (bR (tR (Fin.res (res0 rfl) ?_)))))))))
 have eB:=dx.pk [0,1,2,5]
 obtain rfl:_=bu:=hr.symm.trans (iY (et (ag) (et (congrArg (fun q=>eX K J f a q) aD) (et (ip l) (et (ip m) (et (ip aN) (ah aS)))))))
 exact⟨ed,ek,eu,rfl,eB,aU⟩
 refine jF (dF aN) (Fq (bN (ER (EO (fw (vJ (g+1)) (EQ (e:=C7.wrap (((g:Nat):Int)+1)) yk f1) (Mz rfl (D0 ?_)))))))
 have eF:=o.px [] [0] []
 exact E8 (g+1) ⟨rfl,rfl,rfl,rfl,rfl,rfl,trivial⟩ (aa.2 ⟨eF,e6,et (ag) (et (congrArg (fun q=>eX K J f a q) aD) (et (ip l) (et (ip m) (iN aN))))⟩) (by show a.aa.aF.ls.length - (g+1) < a.aa.aF.ls.length - g; omega)
 refine Sz (dF m) (Sz (dF m) (Sz (dF m) (Sz (dF m) (Sz (dF m) (fw (.bool false) (ES rfl (dF m) rfl) (nt (jf (Fq (bN (ER (EO (fw (vJ (g+1)) (EQ (e:=C7.wrap (((g:Nat):Int)+1)) yk f1) (Mz rfl (D0 ?_))))))))))))))
 have eG:=o.px [] [0] []
 exact E8 (g+1) ⟨rfl,rfl,rfl,rfl,rfl,rfl,trivial⟩ (aa.2 ⟨eG,e6,et (ag) (et (congrArg (fun q=>eX K J f a q) aD) (et (ip l) (iN m)))⟩) (by show a.aa.aF.ls.length - (g+1) < a.aa.aF.ls.length - g; omega)
 refine Sz (dF l) (Sz (dF l) (Sz (dF l) (Sz (dF l) (Sz (dF l) (fw (.bool false) (ES rfl (dF l) rfl) (Mz rfl (Sz rfl (Sz rfl (Sz rfl (Sz rfl (Sz rfl (fw (.bool false) (ES rfl rfl rfl) (nt (jf (Fq (bN (ER (EO (fw (vJ (g+1)) (EQ (e:=C7.wrap (((g:Nat):Int)+1)) yk f1) (Mz rfl (D0 ?_)))))))))))))))))))))
 have eH:=o.px [] [0] []
 exact E8 (g+1) ⟨rfl,rfl,rfl,rfl,rfl,rfl,trivial⟩ (aa.2 ⟨eH,e6,et (ag) (et (congrArg (fun q=>eX K J f a q) aD) (iN l))⟩) (by show a.aa.aF.ls.length - (g+1) < a.aa.aF.ls.length - g; omega)
 refine jF (dF dh) (Wp.exit (EX ?_))
 have dz:eX K J f a a.aa.aF.ls=Sum.inl ():=et (ag) (et (congrArg (fun q=>eX K J f a q) (eD (ls:=a.aa.aF.ls) (i:=g) e6)) rfl)
 refine EX (Fg (ER (EO (Mz rfl (Mz rfl (Kz (vP aj 6) (Lz (vU f.aY) ae 0 E1 ?_)))))))
 refine WL.do rfl (Fe N8 rfl ?_ (fun _ _ k=>k))
 refine cb N9 ?_
 refine EO (Mz rfl (Mz rfl (Kz (vI (C7.wrap (10+J))) (Mz rfl (Mz rfl (Kz (vP g0 0) (Kz (vP g0 0) (Lz (vP d 0) ae 1 N7 (Kz (vP d 0) (Kz (vP d 0) (Kz (vP d 1) (Lz (vU a.aa.ax) ae 4 E1 (Mz rfl (Mz rfl (Kz (.agg (gH 2 0 (C7.wrap (10+J)) 0 2 0 f.aY a.aa.ax 0 0 0 0 0 0 0 false ([]) ([]) none 0 0 none 0 0 none 0 0).toArray) ?_)))))))))))))))
 have eO:=ae.pb [0,4]
 obtain⟨bz,aX⟩:∃ q,dB K (bQ.mk 2 0 (C7.wrap (10+J)) 0 2 0 f.aY a.aa.ax 0 0 0 0 0 0 0 false (bK.mk ([]) ([])) (E4 ([])) (E4 ([])) (E4 ([])))=q:=⟨_,rfl⟩
 obtain⟨fZ,dA,fF,dC,fG⟩:=FC eO
 refine cl O0 (fD _ _ g0 K L M G d (bQ.mk 2 0 (C7.wrap (10+J)) 0 2 0 f.aY a.aa.ax 0 0 0 0 0 0 0 false (bK.mk ([]) ([])) (E4 ([])) (E4 ([])) (E4 ([]))) none 0 0 none 0 0 [] none 0 0 bz dA ai rfl (fun _ _=>bD.nil _ _ _) f2 rfl rfl (fun _ _=>bD.nil _ _ _) f2 (fun _ h9=>absurd h9 B3) rfl (fun _ _=>bD.nil _ _ _) f2 e8 (by first | assumption | exact dD f5 | exact fun x hx=>absurd hx B3 | exact dD (Mk.lX f5).1 | exact dD (Mk.kZ f5).1 | exact dD (Mk.ma f5).1 | exact dD (Mk.mg f5).1 | exact dD (Mk.mf f5).1) aX) ?_
 rintro _ gm ⟨eQ,eT,eU,rfl,dE,aY,aZ⟩
 have dH:=dC _ _ dE
 have fH:=az aY
 have fI:=dH.rowC (i:=1) rfl
 replace aZ:bz.bE.ls.length=K.bE.ls.length+1:=aZ
 refine D0 (Ff (res0 rfl) (D0 (Ff (res0 rfl) ?_)))
 have eY:=dH.px [] [3] []
 obtain rfl:_=bz:=hr.symm.trans (et (nI dz) (ah aX))
 exact⟨eQ,eT,eU,rfl,eY,aY⟩
def dX (k:bO) (e:Int) (c:Nat) (d:Int) (g:List aX) (a:aB):bO × aB:=
 bnd (jb g) fun b=>if((D2 e:Nat):Int)=1 then bnd (dB k (bQ.mk 2 0 (10+e) 0 d 0 c a.aa.ax 0 0 0 0 0 0 0 false (bK.mk ([]) ([])) (E4 ([])) (E4 g) (E4 ([])))) fun h=>(h,aB.mk a.aa a.bH (E4 a.aA.ls) a.aQ (dV.mk true c d (E4 b)) a.aL a.aN a.aK a.df a.cu a.cz a.cB a.cK) else if((D2 e:Nat):Int)=2 then bnd (dB k (bQ.mk 2 0 (10+e) 0 d 0 c a.aa.ax 0 0 0 0 0 0 0 false (bK.mk ([]) ([])) (E4 ([])) (E4 g) (E4 ([])))) fun i=>(i,aB.mk a.aa a.bH (E4 a.aA.ls) a.aQ a.aO (dV.mk true c d (E4 b)) a.aN a.aK a.df a.cu a.cz a.cB a.cK) else if((D2 e:Nat):Int)=3 then bnd (dB k (bQ.mk 2 0 (10+e) 0 d 0 c a.aa.ax 0 0 0 0 0 0 0 false (bK.mk ([]) ([])) (E4 ([])) (E4 g) (E4 ([])))) fun j=>(j,aB.mk a.aa a.bH (E4 a.aA.ls) a.aQ a.aO a.aL (dV.mk true c d (E4 b)) a.aK a.df a.cu a.cz a.cB a.cK) else bnd (dB k (bQ.mk 2 0 (10+e) 0 d 0 c a.aa.ax 0 0 0 0 0 0 0 false (bK.mk ([]) ([])) (E4 ([])) (E4 g) (E4 ([])))) fun f=>(f,aB.mk a.aa a.bH (E4 a.aA.ls) a.aQ a.aO a.aL a.aN (dV.mk true c d (E4 b)) a.df a.cu a.cz a.cB a.cK)
set_option maxHeartbeats 4000000 in
theorem jM (w:World) (D:Nat→Prop) (W:Nat) (V:bO) (R:Option Addr) (S:Nat) (L:List bA) (s:Int) (M:Nat) (N:Int) (A4:Option Addr) (n4 Z:Nat) (d4:List af) (h:List aX) (b:Nat) (a:aB) (aa:Option Addr) (ae:Nat) (ag:Option Addr) (ai:Nat) (aj:Option Addr) (ak:Nat) (au:Option Addr) (av:Nat) (j:Option Addr) (l:Nat) (f:List af) (t:Option Addr) (u:Nat) (m:List af) (y:Option Addr) (z:Nat) (n:List af) (B:Option Addr) (C:Nat) (p:List af) (E:Option Addr) (F:Nat) (r:List af) (r0:bO) (d:aB) (H:Own w D w [blk W [.pointer (some ⟨b,0,none⟩), .slice R V.bE.ls.length S] 98,row R V.bE.ls.length S (q6 bA.cells L) 42 21,sepL (q6 bA.own L),blk b [.int .i64 a.aa.ak, .int .u64 ((a.aa.ax:Nat):Int), .int .u64 ((a.aa.bi:Nat):Int), .int .u64 ((a.aa.aI:Nat):Int), .slice aa a.aa.ag.ls.length ae, .slice ag a.aa.aj.ls.length ai, .slice aj a.aa.aF.ls.length ak, .int .u64 ((a.bH:Nat):Int), .slice au a.aA.ls.length av, .bool a.aQ.aR, .int .u64 ((a.aQ.aH:Nat):Int), .int .i64 a.aQ.aZ, .slice j a.aQ.ae.ls.length l, .bool a.aO.aR, .int .u64 ((a.aO.aH:Nat):Int), .int .i64 a.aO.aZ, .slice t a.aO.ae.ls.length u, .bool a.aL.aR, .int .u64 ((a.aL.aH:Nat):Int), .int .i64 a.aL.aZ, .slice y a.aL.ae.ls.length z, .bool a.aN.aR, .int .u64 ((a.aN.aH:Nat):Int), .int .i64 a.aN.aZ, .slice B a.aN.ae.ls.length C, .bool a.aK.aR, .int .u64 ((a.aK.aH:Nat):Int), .int .i64 a.aK.aZ, .slice E a.aK.ae.ls.length F, .int .u64 ((a.df:Nat):Int), .int .u64 ((a.cu:Nat):Int), .int .u64 ((a.cz:Nat):Int), .int .u64 ((a.cB:Nat):Int), .int .u64 ((a.cK:Nat):Int), .pointer none] 86,row j a.aQ.ae.ls.length l (q6 af.cells f) 149 3,sepL (q6 af.own f),row t a.aO.ae.ls.length u (q6 af.cells m) 149 3,sepL (q6 af.own m),row y a.aL.ae.ls.length z (q6 af.cells n) 149 3,sepL (q6 af.own n),row B a.aN.ae.ls.length C (q6 af.cells p) 149 3,sepL (q6 af.own p),row E a.aK.ae.ls.length F (q6 af.cells r) 149 3,sepL (q6 af.own r)]) (O:s8 bA.abs L=V.bE.ls) (aC:s8 af.abs d4=h) (aF:Ro w D fun w'=>bD w' 3 A4 n4 (q6 af.cells d4)) (P:∀ x ∈ d4,Ro w D (fun w'=>bD w' 2 x.au.A x.au.ls.length (q6 aJ.cells x.au.ls))∧(x.au.ls.length≤x.au.c∧x.au.ls.length≤9223372036854775807)) (dO:n4=h.length) (fJ:h.length *48≤211106232532992) (fK:h.length≤Z) (g:s8 af.abs f=a.aQ.ae.ls) (G:s8 af.abs m=a.aO.ae.ls) (I:s8 af.abs n=a.aL.ae.ls) (J:s8 af.abs p=a.aN.ae.ls) (K:s8 af.abs r=a.aK.ae.ls) (fM:V.bE.ls.length≤100000) (fO:1≤s∧s≤4) (fP:h.length≤1000) (fQ:mJ h) (hr:dX V s M N h a=(r0,d)):
    Calls y4 106 #[vP W 0,vI s,vU M,vI N, .slice A4 n4 Z] w (dS fun v w'=> ∃ (B0ox0:Option Addr) (b0ox0:Nat) (e0ox0:List bA) (B1ox4:Option Addr) (b1ox4:Nat) (e1ox4:List af) (B1ox5:Option Addr) (b1ox5:Nat) (e1ox5:List af) (B1ox6:Option Addr) (b1ox6:Nat) (e1ox6:List af) (B1ox7:Option Addr) (b1ox7:Nat) (e1ox7:List af) (B1ox8:Option Addr) (b1ox8:Nat) (e1ox8:List af),v= .tuple #[]∧Own w D w' [blk W [vP b 0, .slice B0ox0 r0.bE.ls.length b0ox0] 98,row B0ox0 r0.bE.ls.length b0ox0 (q6 bA.cells e0ox0) 42 21,sepL (q6 bA.own e0ox0),blk b [vI d.aa.ak,vU d.aa.ax,vU d.aa.bi,vU d.aa.aI, .slice aa a.aa.ag.ls.length ae, .slice ag a.aa.aj.ls.length ai, .slice aj a.aa.aF.ls.length ak,vU d.bH, .slice au a.aA.ls.length av, .bool d.aQ.aR,vU d.aQ.aH,vI d.aQ.aZ, .slice B1ox4 d.aQ.ae.ls.length b1ox4, .bool d.aO.aR,vU d.aO.aH,vI d.aO.aZ, .slice B1ox5 d.aO.ae.ls.length b1ox5, .bool d.aL.aR,vU d.aL.aH,vI d.aL.aZ, .slice B1ox6 d.aL.ae.ls.length b1ox6, .bool d.aN.aR,vU d.aN.aH,vI d.aN.aZ, .slice B1ox7 d.aN.ae.ls.length b1ox7, .bool d.aK.aR,vU d.aK.aH,vI d.aK.aZ, .slice B1ox8 d.aK.ae.ls.length b1ox8,vU d.df,vU d.cu,vU d.cz,vU d.cB,vU d.cK, .pointer none] 86,row B1ox4 d.aQ.ae.ls.length b1ox4 (q6 af.cells e1ox4) 149 3,sepL (q6 af.own e1ox4),row B1ox5 d.aO.ae.ls.length b1ox5 (q6 af.cells e1ox5) 149 3,sepL (q6 af.own e1ox5),row B1ox6 d.aL.ae.ls.length b1ox6 (q6 af.cells e1ox6) 149 3,sepL (q6 af.own e1ox6),row B1ox7 d.aN.ae.ls.length b1ox7 (q6 af.cells e1ox7) 149 3,sepL (q6 af.own e1ox7),row B1ox8 d.aK.ae.ls.length b1ox8 (q6 af.cells e1ox8) 149 3,sepL (q6 af.own e1ox8)]∧(s8 bA.abs e0ox0=r0.bE.ls)∧(s8 af.abs e1ox4=d.aQ.ae.ls)∧(s8 af.abs e1ox5=d.aO.ae.ls)∧(s8 af.abs e1ox6=d.aL.ae.ls)∧(s8 af.abs e1ox7=d.aN.ae.ls)∧(s8 af.abs e1ox8=d.aK.ae.ls)∧(r0.bE.ls.length=V.bE.ls.length+1)):=by
 subst dO
 have eY:=az aC
 have dM:=az O
 have bM:=az g
 have bN:=az G
 have bP:=az I
 have bR:=az J
 have bS:=az K
 have dP:=H.rowC (i:=1) rfl
 have bU:=H.rowC (i:=4) rfl
 have bV:=H.rowC (i:=6) rfl
 have bW:=H.rowC (i:=8) rfl
 have bX:=H.rowC (i:=10) rfl
 have bY:=H.rowC (i:=12) rfl
 refine cb Tryz.func106 ?_
 refine EP ?_
 have dQ:=H.pb [3]
 refine oF 13 [] (E9 Fp) dQ ?_
 intro fU dR
 refine qv 0 rfl rfl (qp W 0 1 rfl (qp W 0 2 rfl (ql 3 rfl 0 N7 rfl rfl rfl (qt (v:=vJ (D2 s)) 4 rfl (fun _ _=>EQ (e:=s) (E5 rfl) e6) (qv 5 rfl rfl (qv 6 rfl rfl (qv 7 rfl rfl (qp b 0 10 rfl (qp b 9 11 rfl ?_)))))))))
 obtain⟨Q,X⟩:∃ q,jb h=q:=⟨_,rfl⟩
 obtain⟨fV,bZ,aV,cu,eZ⟩:=EU dR
 refine qd 8 rfl (Fe Tryz.call48 rfl (lN _ _ A4 h.length Z d4 h Q bZ aC (aV _ aF) (fun x9 h9=>⟨aV _ (P x9 h9).1,(P x9 h9).2⟩) rfl e6 (by first | assumption | exact dD f5 | (intro x hx; exact absurd hx B3)) X) ?_)
 rintro _ fZ ⟨T,U,aP,rfl,cz,Y⟩
 have cB:=cu _ _ cz
 have fe:=az Y
 have fo:=cB.rowC (i:=0) rfl
 have aG:=cB.pb [0,1,15]
 refine⟨.inr ⟨_,aG⟩, ?_⟩
 refine qk (.agg #[.bool true,vU M,vI N, .slice T Q.length U]) 9 rfl ?_
 by_cases aQ:((D2 s:Nat):Int)=1
 refine qt (v:=vP b 13) 12 rfl (fun _ _=>by(try unfold vJ); rw [show ((D2 s:Nat):Int)=1 from by omega]; exact yk) ?_
 have dU:=aG.pf [15]
 refine qe 13 rfl (Do.store (vs:= [.bool true,vU M,vI N, .slice T Q.length U]) (o:=13) dU rfl rfl O1 rfl rfl rfl rfl ?_)
 intro gm dW
 have aR:=dW.pb [0,14,15]
 refine⟨.inr ⟨_,aR⟩, ?_⟩
 refine qn (ER (EO (Mz rfl (Mz rfl (Mz rfl (Mz rfl (Mz rfl ?_)))))))
 refine WL.do rfl (Fe N8 rfl ?_ (fun _ _ k=>k))
 refine cb N9 ?_
 refine EO (Mz rfl (Mz rfl (fw (vI (10+s)) (EQ (e:=C7.wrap (10+s)) yk g2) (Mz rfl (Mz rfl (Kz (vP W 0) (Kz (vP W 0) (Lz (vP b 0) aR 0 N7 (Kz (vP b 0) (Kz (vP b 0) (Kz (vP b 1) (Lz (vU a.aa.ax) aR 13 E1 (Mz rfl (Mz rfl (Kz (.agg (gH 2 0 (10+s) 0 N 0 M a.aa.ax 0 0 0 0 0 0 0 false ([]) ([]) none 0 0 A4 h.length Z none 0 0).toArray) ?_)))))))))))))))
 obtain⟨bC,aW⟩:∃ q,dB V (bQ.mk 2 0 (10+s) 0 N 0 M a.aa.ax 0 0 0 0 0 0 0 false (bK.mk ([]) ([])) (E4 ([])) (E4 h) (E4 ([])))=q:=⟨_,rfl⟩
 obtain⟨gp,cK,aY,cO,fq⟩:=FC aR
 refine cl O0 (fD _ _ W V R S L b (bQ.mk 2 0 (10+s) 0 N 0 M a.aa.ax 0 0 0 0 0 0 0 false (bK.mk ([]) ([])) (E4 ([])) (E4 h) (E4 ([]))) none 0 0 A4 h.length Z d4 none 0 0 bC cK O rfl (fun _ _=>bD.nil _ _ _) f2 aC rfl (aY _ aF) (show h.length≤Z∧h.length≤9223372036854775807 from by omega) (fun x9 h9=>⟨aY _ (P x9 h9).1,(P x9 h9).2⟩) rfl (fun _ _=>bD.nil _ _ _) f2 e8 (by first | assumption | exact dD f5 | exact fun x hx=>absurd hx B3 | exact dD (Mk.lX f5).1 | exact dD (Mk.kZ f5).1 | exact dD (Mk.ma f5).1 | exact dD (Mk.mg f5).1 | exact dD (Mk.mf f5).1) aW) ?_
 rintro _ gq ⟨dY,dZ,d9,rfl,cZ,aZ,bf⟩
 have df:=cO _ _ cZ
 have fu:=az aZ
 have fA:=df.rowC (i:=1) rfl
 replace bf:bC.bE.ls.length=V.bE.ls.length+1:=bf
 refine D0 (Ff (res0 rfl) (D0 (Ff (res0 rfl) ?_)))
 have ed:=df.px [0,1,2,13,3,4,14,15] [5,6] []
 obtain⟨rfl,rfl⟩:=fT (hr.symm.trans (show _=(bC,aB.mk a.aa a.bH (E4 a.aA.ls) a.aQ (dV.mk true M N (E4 Q)) a.aL a.aN a.aK a.df a.cu a.cz a.cB a.cK) from et (ah X) (et (ip aQ) (ah aW))))
 exact⟨dY,dZ,d9,j,l,f,T,U,aP,y,z,n,B,C,p,E,F,r,rfl,ed,aZ,g,Y,I,J,K,i1⟩
 by_cases bE:((D2 s:Nat):Int)=2
 refine qt (v:=vP b 17) 12 rfl (fun _ _=>by(try unfold vJ); rw [show ((D2 s:Nat):Int)=2 from by omega]; exact yk) ?_
 have ek:=aG.pf [15]
 refine qe 13 rfl (Do.store (vs:= [.bool true,vU M,vI N, .slice T Q.length U]) (o:=17) ek rfl rfl O1 rfl rfl rfl rfl ?_)
 intro gu eu
 have aS:=eu.pb [0,14,15]
 refine⟨.inr ⟨_,aS⟩, ?_⟩
 refine qn (ER (EO (Mz rfl (Mz rfl (Mz rfl (Mz rfl (Mz rfl ?_)))))))
 refine WL.do rfl (Fe N8 rfl ?_ (fun _ _ k=>k))
 refine cb N9 ?_
 refine EO (Mz rfl (Mz rfl (fw (vI (10+s)) (EQ (e:=C7.wrap (10+s)) yk g2) (Mz rfl (Mz rfl (Kz (vP W 0) (Kz (vP W 0) (Lz (vP b 0) aS 0 N7 (Kz (vP b 0) (Kz (vP b 0) (Kz (vP b 1) (Lz (vU a.aa.ax) aS 13 E1 (Mz rfl (Mz rfl (Kz (.agg (gH 2 0 (10+s) 0 N 0 M a.aa.ax 0 0 0 0 0 0 0 false ([]) ([]) none 0 0 A4 h.length Z none 0 0).toArray) ?_)))))))))))))))
 obtain⟨bF,bg⟩:∃ q,dB V (bQ.mk 2 0 (10+s) 0 N 0 M a.aa.ax 0 0 0 0 0 0 0 false (bK.mk ([]) ([])) (E4 ([])) (E4 h) (E4 ([])))=q:=⟨_,rfl⟩
 obtain⟨gy,dh,bi,di,fB⟩:=FC aS
 refine cl O0 (fD _ _ W V R S L b (bQ.mk 2 0 (10+s) 0 N 0 M a.aa.ax 0 0 0 0 0 0 0 false (bK.mk ([]) ([])) (E4 ([])) (E4 h) (E4 ([]))) none 0 0 A4 h.length Z d4 none 0 0 bF dh O rfl (fun _ _=>bD.nil _ _ _) f2 aC rfl (bi _ aF) (show h.length≤Z∧h.length≤9223372036854775807 from by omega) (fun x9 h9=>⟨bi _ (P x9 h9).1,(P x9 h9).2⟩) rfl (fun _ _=>bD.nil _ _ _) f2 e8 (by first | assumption | exact dD f5 | exact fun x hx=>absurd hx B3 | exact dD (Mk.lX f5).1 | exact dD (Mk.kZ f5).1 | exact dD (Mk.ma f5).1 | exact dD (Mk.mg f5).1 | exact dD (Mk.mf f5).1) bg) ?_
 rintro _ gz ⟨eB,eD,eF,rfl,dm,bn,bq⟩
 have dn:=di _ _ dm
 have fC:=az bn
 have fE:=dn.rowC (i:=1) rfl
 replace bq:bF.bE.ls.length=V.bE.ls.length+1:=bq
 refine D0 (Ff (res0 rfl) (D0 (Ff (res0 rfl) ?_)))
 have eG:=dn.px [0,1,2,13] [7,8] [9,10,11,12]
 obtain⟨rfl,rfl⟩:=fT (hr.symm.trans (show _=(bF,aB.mk a.aa a.bH (E4 a.aA.ls) a.aQ a.aO (dV.mk true M N (E4 Q)) a.aN a.aK a.df a.cu a.cz a.cB a.cK) from et (ah X) (et (iN aQ) (et (ip bE) (ah bg)))))
 exact⟨eB,eD,eF,j,l,f,t,u,m,T,U,aP,B,C,p,E,F,r,rfl,eG,bn,g,G,Y,J,K,i1⟩
 by_cases dw:((D2 s:Nat):Int)=3
 refine qt (v:=vP b 21) 12 rfl (fun _ _=>by(try unfold vJ); rw [show ((D2 s:Nat):Int)=3 from by omega]; exact yk) ?_
 have eH:=aG.pf [15]
 refine qe 13 rfl (Do.store (vs:= [.bool true,vU M,vI N, .slice T Q.length U]) (o:=21) eH rfl rfl O1 rfl rfl rfl rfl ?_)
 intro gB eO
 have aT:=eO.pb [0,14,15]
 refine⟨.inr ⟨_,aT⟩, ?_⟩
 refine qn (ER (EO (Mz rfl (Mz rfl (Mz rfl (Mz rfl (Mz rfl ?_)))))))
 refine WL.do rfl (Fe N8 rfl ?_ (fun _ _ k=>k))
 refine cb N9 ?_
 refine EO (Mz rfl (Mz rfl (fw (vI (10+s)) (EQ (e:=C7.wrap (10+s)) yk g2) (Mz rfl (Mz rfl (Kz (vP W 0) (Kz (vP W 0) (Lz (vP b 0) aT 0 N7 (Kz (vP b 0) (Kz (vP b 0) (Kz (vP b 1) (Lz (vU a.aa.ax) aT 13 E1 (Mz rfl (Mz rfl (Kz (.agg (gH 2 0 (10+s) 0 N 0 M a.aa.ax 0 0 0 0 0 0 0 false ([]) ([]) none 0 0 A4 h.length Z none 0 0).toArray) ?_)))))))))))))))
 obtain⟨bG,bu⟩:∃ q,dB V (bQ.mk 2 0 (10+s) 0 N 0 M a.aa.ax 0 0 0 0 0 0 0 false (bK.mk ([]) ([])) (E4 ([])) (E4 h) (E4 ([])))=q:=⟨_,rfl⟩
 obtain⟨gD,dx,bv,dz,fF⟩:=FC aT
 refine cl O0 (fD _ _ W V R S L b (bQ.mk 2 0 (10+s) 0 N 0 M a.aa.ax 0 0 0 0 0 0 0 false (bK.mk ([]) ([])) (E4 ([])) (E4 h) (E4 ([]))) none 0 0 A4 h.length Z d4 none 0 0 bG dx O rfl (fun _ _=>bD.nil _ _ _) f2 aC rfl (bv _ aF) (show h.length≤Z∧h.length≤9223372036854775807 from by omega) (fun x9 h9=>⟨bv _ (P x9 h9).1,(P x9 h9).2⟩) rfl (fun _ _=>bD.nil _ _ _) f2 e8 (by first | assumption | exact dD f5 | exact fun x hx=>absurd hx B3 | exact dD (Mk.lX f5).1 | exact dD (Mk.kZ f5).1 | exact dD (Mk.ma f5).1 | exact dD (Mk.mg f5).1 | exact dD (Mk.mf f5).1) bu) ?_
 rintro _ gF ⟨dA,dC,dE,rfl,bH,aH,aI⟩
 have bz:=dz _ _ bH
 have eP:=az aH
 have eQ:=bz.rowC (i:=1) rfl
 replace aI:bG.bE.ls.length=V.bE.ls.length+1:=aI
 refine D0 (Ff (res0 rfl) (D0 (Ff (res0 rfl) ?_)))
 have dF:=bz.px [0,1,2,13] [9,10] [11,12]
 obtain⟨rfl,rfl⟩:=fT (hr.symm.trans (show _=(bG,aB.mk a.aa a.bH (E4 a.aA.ls) a.aQ a.aO a.aL (dV.mk true M N (E4 Q)) a.aK a.df a.cu a.cz a.cB a.cK) from et (ah X) (et (iN aQ) (et (iN bE) (et (ip dw) (ah bu))))))
 exact⟨dA,dC,dE,j,l,f,t,u,m,y,z,n,T,U,aP,E,F,r,rfl,dF,aH,g,G,I,Y,K,i1⟩
 refine qt (v:=vP b 25) 12 rfl (fun _ _=>by(try unfold vJ); rw [show ((D2 s:Nat):Int)=4 from by omega]; exact yk) ?_
 have dG:=aG.pf [15]
 refine qe 13 rfl (Do.store (vs:= [.bool true,vU M,vI N, .slice T Q.length U]) (o:=25) dG rfl rfl O1 rfl rfl rfl rfl ?_)
 intro fG dH
 have aA:=dH.pb [0,14,15]
 refine⟨.inr ⟨_,aA⟩, ?_⟩
 refine qn (ER (EO (Mz rfl (Mz rfl (Mz rfl (Mz rfl (Mz rfl ?_)))))))
 refine WL.do rfl (Fe N8 rfl ?_ (fun _ _ k=>k))
 refine cb N9 ?_
 refine EO (Mz rfl (Mz rfl (fw (vI (10+s)) (EQ (e:=C7.wrap (10+s)) yk g2) (Mz rfl (Mz rfl (Kz (vP W 0) (Kz (vP W 0) (Lz (vP b 0) aA 0 N7 (Kz (vP b 0) (Kz (vP b 0) (Kz (vP b 1) (Lz (vU a.aa.ax) aA 13 E1 (Mz rfl (Mz rfl (Kz (.agg (gH 2 0 (10+s) 0 N 0 M a.aa.ax 0 0 0 0 0 0 0 false ([]) ([]) none 0 0 A4 h.length Z none 0 0).toArray) ?_)))))))))))))))
 obtain⟨aK,aL⟩:∃ q,dB V (bQ.mk 2 0 (10+s) 0 N 0 M a.aa.ax 0 0 0 0 0 0 0 false (bK.mk ([]) ([])) (E4 ([])) (E4 h) (E4 ([])))=q:=⟨_,rfl⟩
 obtain⟨fH,bI,aM,bJ,eT⟩:=FC aA
 refine cl O0 (fD _ _ W V R S L b (bQ.mk 2 0 (10+s) 0 N 0 M a.aa.ax 0 0 0 0 0 0 0 false (bK.mk ([]) ([])) (E4 ([])) (E4 h) (E4 ([]))) none 0 0 A4 h.length Z d4 none 0 0 aK bI O rfl (fun _ _=>bD.nil _ _ _) f2 aC rfl (aM _ aF) (show h.length≤Z∧h.length≤9223372036854775807 from by omega) (fun x9 h9=>⟨aM _ (P x9 h9).1,(P x9 h9).2⟩) rfl (fun _ _=>bD.nil _ _ _) f2 e8 (by first | assumption | exact dD f5 | exact fun x hx=>absurd hx B3 | exact dD (Mk.lX f5).1 | exact dD (Mk.kZ f5).1 | exact dD (Mk.ma f5).1 | exact dD (Mk.mg f5).1 | exact dD (Mk.mf f5).1) aL) ?_
 rintro _ fI ⟨dI,dJ,dK,rfl,bL,aN,aO⟩
 have bB:=bJ _ _ bL
 have eU:=az aN
 have eX:=bB.rowC (i:=1) rfl
 replace aO:aK.bE.ls.length=V.bE.ls.length+1:=aO
 refine D0 (Ff (res0 rfl) (D0 (Ff (res0 rfl) ?_)))
 have dL:=bB.px [0,1,2,13] [11,12] []
 obtain⟨rfl,rfl⟩:=fT (hr.symm.trans (show _=(aK,aB.mk a.aa a.bH (E4 a.aA.ls) a.aQ a.aO a.aL a.aN (dV.mk true M N (E4 Q)) a.df a.cu a.cz a.cB a.cK) from et (ah X) (et (iN aQ) (et (iN bE) (et (iN dw) (ah aL))))))
 exact⟨dI,dJ,dK,j,l,f,t,u,m,y,z,n,B,C,p,T,U,aP,rfl,dL,aN,g,G,I,J,Y,i1⟩
def gP (e:Nat) (f:Bool):List Int→List bQ→(List bQ)
  | [],a=>a
  | c::d,a=>bnd (dB (bO.mk (E4 a)) (bQ.mk 5 0 c 0 0 0 0 0 e 0 0 0 0 0 0 f (bK.mk ([]) ([])) (E4 ([])) (E4 ([])) (E4 ([])))) fun b=>gP e f d b.bE.ls
def fq (a:bO) (b:Nat) (c:List Int) (d:Bool):bO:=
 bnd (gP b d c a.bE.ls) fun sLrL=>bO.mk (E4 sLrL)
set_option maxHeartbeats 1000000 in
theorem kz (w:World) (D:Nat→Prop) (F:Nat) (u:bO) (l:Option Addr) (m:Nat) (d:List bA) (f:Nat) (h:Nat) (J:Option Addr) (U V:Nat) (c:List Int) (j:Bool) (S:bO) (H:Own w D w [blk F [.pointer (some ⟨f,0,none⟩), .slice l u.bE.ls.length m] 98,row l u.bE.ls.length m (q6 bA.cells d) 42 21,sepL (q6 bA.own d)]) (n:s8 bA.abs d=u.bE.ls) (G:Ro w D fun w'=>bD w' 1 J U (q6 (eI .i64) c)) (W:U=c.length) (aC:c.length *8≤211106232532992) (aD:u.bE.ls.length+c.length≤1000000) (hr:fq u h c j=S):
    Calls y4 27 #[vP F 0,vU h, .slice J U V, .bool j] w (dS fun v w'=> ∃ (B0ox0:Option Addr) (b0ox0:Nat) (e0ox0:List bA),v= .tuple #[]∧Own w D w' [blk F [vP f 0, .slice B0ox0 S.bE.ls.length b0ox0] 98,row B0ox0 S.bE.ls.length b0ox0 (q6 bA.cells e0ox0) 42 21,sepL (q6 bA.own e0ox0)]∧(s8 bA.abs e0ox0=S.bE.ls)):=by
 subst W
 have T:=az n
 have X:=H.rowC (i:=1) rfl
 refine cb Tryz.func27 ?_
 refine sr (Mz rfl (Kz (vJ c.length) (Mn rfl (bo ?_))))
 have Y:=H.pf []
 obtain⟨Z,o⟩:=zY fun(a:Nat) (p:Option Addr) (r:Nat) (g:List bA) (b:List bQ) (w':World)=>Own w D w' [blk F [vP f 0, .slice p b.length r] 98,row p b.length r (q6 bA.cells g) 42 21,sepL (q6 bA.own g)]∧s8 bA.abs g=b∧a≤c.length∧b.length=u.bE.ls.length+a∧b.length≤u.bE.ls.length+a∧gP h j c u.bE.ls=gP h j (List.drop a c) b
 refine Wp.loop (fun i:Nat × (Option Addr) × Nat × (List bA) × (List bQ)=> [(12,vJ i.1),(11,vJ c.length),(10, .slice J c.length V),(0,vP F 0),(1,vU h),(3, .bool j)]) Z (fun i=>c.length - i.1) (0,l,m,d,u.bE.ls) ⟨rfl,rfl,rfl,rfl,rfl,rfl,trivial⟩ (o.2 ⟨Y,by exact n,e6,e6,e6,rfl⟩) ?_
 rintro ⟨a,p,r,g,b⟩ aF K
 obtain⟨s,t,aj,ak,au,z⟩:=o.1 K
 have av:=az t
 refine sr (Kz (.bool (decide (((a:Nat):Int) < ((c.length:Nat):Int)))) (nt (EP ?_)))
 by_cases L:((a:Nat):Int) < ((c.length:Nat):Int)
 obtain⟨y,A⟩:=dG (ls:=c) (i:=a) iH f3 (s.ro G) e9
 have M:=drop_at A
 refine jT (dT L) (sk (EP (bo (sr (fw (.pointer (some ⟨ab J,ao J+a *1,none⟩)) (ET (mQ) rfl rfl ((s.ro G).addr (i:=a) e6) e6) (fw (vI y) (EY rfl (bZ.one Tryz.isAgg3 (((s.ro G).elem iH A f3).at_ (k:=0) rfl))) (An rfl (EO (Mz rfl (Mz rfl (Mz rfl (Mz rfl (Kz (.agg (gH 5 0 y 0 0 0 0 0 h 0 0 0 0 0 0 j ([]) ([]) none 0 0 none 0 0 none 0 0).toArray) ?_)))))))))))))
 obtain⟨I,B⟩:∃ q,dB (bO.mk (E4 b)) (bQ.mk 5 0 y 0 0 0 0 0 h 0 0 0 0 0 0 j (bK.mk ([]) ([])) (E4 ([])) (E4 ([])) (E4 ([])))=q:=⟨_,rfl⟩
 obtain⟨aG,N,ax,O,ay⟩:=FC s
 refine cl O0 (fD _ _ F (bO.mk (E4 b)) p r g f (bQ.mk 5 0 y 0 0 0 0 0 h 0 0 0 0 0 0 j (bK.mk ([]) ([])) (E4 ([])) (E4 ([])) (E4 ([]))) none 0 0 none 0 0 [] none 0 0 I N t rfl (fun _ _=>bD.nil _ _ _) f2 rfl rfl (fun _ _=>bD.nil _ _ _) f2 (fun _ h9=>absurd h9 B3) rfl (fun _ _=>bD.nil _ _ _) f2 e8 (by first | assumption | exact dD f5 | exact fun x hx=>absurd hx B3 | exact dD (Mk.lX f5).1 | exact dD (Mk.kZ f5).1 | exact dD (Mk.ma f5).1 | exact dD (Mk.mg f5).1 | exact dD (Mk.mf f5).1) B) ?_
 rintro _ aI ⟨aa,ae,af,rfl,P,C,E⟩
 have Q:=O _ _ P
 have aA:=az C
 have aB:=Q.rowC (i:=1) rfl
 replace E:I.bE.ls.length=b.length+1:=E
 refine D0 (bN (ER (EO (fw (vJ (a+1)) (EQ (e:=C7.wrap (((a:Nat):Int)+1)) yk f1) (Mz rfl (D0 ?_))))))
 have ag:=Q.pf []
 exact E8 (a+1,aa,ae,af,I.bE.ls) ⟨rfl,rfl,rfl,rfl,rfl,rfl,trivial⟩ (o.2 ⟨ag,by exact C,e6,e6,e6,et (z) (et (congrArg (fun q=>gP h j q b) M) (ah B))⟩) (by show c.length - (a+1) < c.length - a; omega)
 refine jF (dF L) (Wp.exit (EX ?_))
 have R:gP h j c u.bE.ls=b:=et (z) (et (congrArg (fun q=>gP h j q b) (eD (ls:=c) (i:=a) e6)) rfl)
 refine EX (Fg (Ff (res0 rfl) ?_))
 have ai:=s.pf []
 obtain rfl:_=bO.mk (E4 b):=hr.symm.trans (ah R)
 exact⟨p,r,g,rfl,ai,t⟩
theorem BH (a:Nat) (b:Bool):∀ (l:List Int) (o:List bQ),s2 (gP a b l o)=o.length+l.length
  | [],o=>rfl
  | x::q,o=>by
    simp only [gP,bnd]
    rw [BH a b q]
    simp only [dB,bnd,List.length_append,List.length_cons,List.length_nil]; omega
theorem xq {a:bO} {c:Nat} {l:List Int} {b:Bool} {r:bO} (h:fq a c l b=r):r.bE.ls.length=a.bE.ls.length+l.length:=by
 rw [← h]; exact BH c b l _
end Go.Proofs.YtbkagebjhbphaaaGreat
