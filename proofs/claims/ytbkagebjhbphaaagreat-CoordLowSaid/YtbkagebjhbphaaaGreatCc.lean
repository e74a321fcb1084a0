/-
 coord: what it answers.
-/
import Derived.Test.YtbkagebjhbphaaaGreatCoM
import Derived.Test.YtbkagebjhbphaaaGreatRc
import Derived.Test.YtbkagebjhbphaaaGreatWc
import Derived.Test.YtbkagebjhbphaaaGreatOc
import Derived.Test.YtbkagebjhbphaaaGreatGc
namespace Go.Proofs.YtbkagebjhbphaaaGreat
set_option maxRecDepth 100000
open Go.RowKit
set_option linter.unusedVariables false
set_option linter.unusedSectionVars false
set_option linter.unusedSimpArgs false
def gZ (a:aC):Nat:=
 Int.toNat (IntKind.u64.wrap (((Int.toNat (IntKind.u64.wrap (((eT a.aa.ay 32:Nat):Int)+((a.bH:Nat):Int))):Nat):Int)+1))
theorem pO (w:World) (D:Nat→Prop) (x:Nat) (a:aC) (b:Option Addr) (c:Nat) (d:Option Addr) (f:Nat) (g:Option Addr) (h:Nat) (i:Option Addr) (j:Nat) (k:Option Addr) (l:Nat) (n:Option Addr) (o:Nat) (p:Option Addr) (q:Nat) (r:Option Addr) (s:Nat) (t:Option Addr) (u:Nat) (z:Nat) (H:Own w D w [blk x [.int .i64 a.aa.au, .int .u64 ((a.aa.ay:Nat):Int), .int .u64 ((a.aa.aY:Nat):Int), .int .u64 ((a.aa.aH:Nat):Int), .slice b a.aa.ag.ls.length c, .slice d a.aa.aj.ls.length f, .slice g a.aa.aG.ls.length h, .int .u64 ((a.bH:Nat):Int), .slice i a.aB.ls.length j, .bool a.aR.aS, .int .u64 ((a.aR.aK:Nat):Int), .int .i64 a.aR.bi, .slice k a.aR.ae.ls.length l, .bool a.aN.aS, .int .u64 ((a.aN.aK:Nat):Int), .int .i64 a.aN.bi, .slice n a.aN.ae.ls.length o, .bool a.aM.aS, .int .u64 ((a.aM.aK:Nat):Int), .int .i64 a.aM.bi, .slice p a.aM.ae.ls.length q, .bool a.aO.aS, .int .u64 ((a.aO.aK:Nat):Int), .int .i64 a.aO.bi, .slice r a.aO.ae.ls.length s, .bool a.aP.aS, .int .u64 ((a.aP.aK:Nat):Int), .int .i64 a.aP.bi, .slice t a.aP.ae.ls.length u, .int .u64 ((a.di:Nat):Int), .int .u64 ((a.cB:Nat):Int), .int .u64 ((a.cZ:Nat):Int), .int .u64 ((a.cK:Nat):Int), .int .u64 ((a.cO:Nat):Int), .pointer none] 86]) (hr:gZ a=z):
    Calls Tryz.prog 126 #[vP x 0] w (dW fun v w'=>v=vU z∧Own w D w' [blk x [vI a.aa.au,vU a.aa.ay,vU a.aa.aY,vU a.aa.aH, .slice b a.aa.ag.ls.length c, .slice d a.aa.aj.ls.length f, .slice g a.aa.aG.ls.length h,vU a.bH, .slice i a.aB.ls.length j, .bool a.aR.aS,vU a.aR.aK,vI a.aR.bi, .slice k a.aR.ae.ls.length l, .bool a.aN.aS,vU a.aN.aK,vI a.aN.bi, .slice n a.aN.ae.ls.length o, .bool a.aM.aS,vU a.aM.aK,vI a.aM.bi, .slice p a.aM.ae.ls.length q, .bool a.aO.aS,vU a.aO.aK,vI a.aO.bi, .slice r a.aO.ae.ls.length s, .bool a.aP.aS,vU a.aP.aK,vI a.aP.bi, .slice t a.aP.ae.ls.length u,vU a.di,vU a.cB,vU a.cZ,vU a.cK,vU a.cO, .pointer none] 86]∧(z≤18446744073709551615)):=by
 refine cb Tryz.func126 ?_
 refine sr (An rfl (EP ?_))
 have y:=H.drew
 refine F3 [] (fun W=> ∃ L',Own w D W ([blk x [vI a.aa.au,vU a.aa.ay,vU a.aa.aY,vU a.aa.aH, .slice b a.aa.ag.ls.length c, .slice d a.aa.aj.ls.length f, .slice g a.aa.aG.ls.length h,vU a.bH, .slice i a.aB.ls.length j, .bool a.aR.aS,vU a.aR.aK,vI a.aR.bi, .slice k a.aR.ae.ls.length l, .bool a.aN.aS,vU a.aN.aK,vI a.aN.bi, .slice n a.aN.ae.ls.length o, .bool a.aM.aS,vU a.aM.aK,vI a.aM.bi, .slice p a.aM.ae.ls.length q, .bool a.aO.aS,vU a.aO.aK,vI a.aO.bi, .slice r a.aO.ae.ls.length s, .bool a.aP.aS,vU a.aP.aK,vI a.aP.bi, .slice t a.aP.ae.ls.length u,vU a.di,vU a.cB,vU a.cZ,vU a.cK,vU a.cO, .pointer none] 86]++L')) (by kernel_rfl) (by kernel_rfl) (E9 Fp) ⟨_,y⟩ ?_
 revert y
 generalize World.drew w=C
 intro y
 refine qv 0 rfl rfl (qp x 0 1 rfl (qp x 0 2 rfl (qp x 1 3 rfl (ql 4 rfl 0 Tryz.isAgg28 rfl rfl rfl ?_))))
 have B:eT a.aa.ay 32≤18446744073709551615:=oD _ _
 refine qt (v:=vU (eT a.aa.ay 32)) 5 rfl (fun _ _=>EQ (Gm (m:=32) rfl rfl) (fq _)) (qv 6 rfl rfl (qp x 0 7 rfl (qp x 7 8 rfl (ql 9 rfl 0 Tryz.isAgg28 rfl rfl rfl (qt (v:= .int .u64 ((Int.toNat (IntKind.u64.wrap (((eT a.aa.ay 32:Nat):Int)+((a.bH:Nat):Int))):Nat):Int)) 10 rfl (fun _ _=>EQ (e:=IntKind.u64.wrap (((eT a.aa.ay 32:Nat):Int)+((a.bH:Nat):Int))) yk (fq _)) (qt (v:= .int .u64 ((Int.toNat (IntKind.u64.wrap (((Int.toNat (IntKind.u64.wrap (((eT a.aa.ay 32:Nat):Int)+((a.bH:Nat):Int))):Nat):Int)+1)):Nat):Int)) 11 rfl (fun _ _=>EQ (e:=IntKind.u64.wrap (((Int.toNat (IntKind.u64.wrap (((eT a.aa.ay 32:Nat):Int)+((a.bH:Nat):Int))):Nat):Int)+1)) yk (fq _)) (qa 12 rfl rfl (qn (ER (rt (rs ?_)))))))))))
 have A:=y.pf []
 obtain rfl:_=Int.toNat (IntKind.u64.wrap (((Int.toNat (IntKind.u64.wrap (((eT a.aa.ay 32:Nat):Int)+((a.bH:Nat):Int))):Nat):Int)+1)):=hr.symm.trans rfl
 exact⟨rfl,A,(by first | exact l7 _ | omega)⟩
def gu (b:aC):Nat:=
 bnd (gZ b) fun a=>bnd (if((b.aB.ls.length:Nat):Int) > 0 then bnd (List.getD b.aB.ls 0 default) fun c=>min a c.bq else a) fun sJrbJ=>if((b.aa.aj.ls.length:Nat):Int) > 0 then bnd (List.getD b.aa.aj.ls 0 default) fun d=>min sJrbJ d.bf else sJrbJ
set_option maxHeartbeats 4000000 in
theorem nS (w:World) (D:Nat→Prop) (p:Nat) (a:aC) (y:Option Addr) (z:Nat) (b:Option Addr) (f:Nat) (B:List az) (C:Option Addr) (E:Nat) (d:Option Addr) (g:Nat) (F:List bB) (G:Option Addr) (I:Nat) (J:Option Addr) (K:Nat) (L:Option Addr) (M:Nat) (N:Option Addr) (O:Nat) (P:Option Addr) (Q:Nat) (r0:Nat) (H:Own w D w [blk p [.int .i64 a.aa.au, .int .u64 ((a.aa.ay:Nat):Int), .int .u64 ((a.aa.aY:Nat):Int), .int .u64 ((a.aa.aH:Nat):Int), .slice y a.aa.ag.ls.length z, .slice b a.aa.aj.ls.length f, .slice C a.aa.aG.ls.length E, .int .u64 ((a.bH:Nat):Int), .slice d a.aB.ls.length g, .bool a.aR.aS, .int .u64 ((a.aR.aK:Nat):Int), .int .i64 a.aR.bi, .slice G a.aR.ae.ls.length I, .bool a.aN.aS, .int .u64 ((a.aN.aK:Nat):Int), .int .i64 a.aN.bi, .slice J a.aN.ae.ls.length K, .bool a.aM.aS, .int .u64 ((a.aM.aK:Nat):Int), .int .i64 a.aM.bi, .slice L a.aM.ae.ls.length M, .bool a.aO.aS, .int .u64 ((a.aO.aK:Nat):Int), .int .i64 a.aO.bi, .slice N a.aO.ae.ls.length O, .bool a.aP.aS, .int .u64 ((a.aP.aK:Nat):Int), .int .i64 a.aP.bi, .slice P a.aP.ae.ls.length Q, .int .u64 ((a.di:Nat):Int), .int .u64 ((a.cB:Nat):Int), .int .u64 ((a.cZ:Nat):Int), .int .u64 ((a.cK:Nat):Int), .int .u64 ((a.cO:Nat):Int), .pointer none] 86]) (R:List.map az.abs B=a.aa.aj.ls) (r:Ro w D fun w'=>bD w' 5 b a.aa.aj.ls.length (List.flatMap az.cells B)) (aF:a.aa.aj.ls.length≤f∧a.aa.aj.ls.length≤9223372036854775807) (ae:∀ x ∈ B,Ro w D (fun w'=>bD w' 1 x.au.A x.au.ls.length (List.flatMap (eI .i64) x.au.ls))∧(x.au.ls.length≤x.au.c∧x.au.ls.length≤9223372036854775807)) (S:List.map bB.abs F=a.aB.ls) (s:Ro w D fun w'=>bD w' 9 d a.aB.ls.length (List.flatMap bB.cells F)) (aG:a.aB.ls.length≤g∧a.aB.ls.length≤9223372036854775807) (m:∀ x ∈ F,Ro w D (fun w'=>bD w' 6 x.bU.A x.bU.ls.length (List.flatMap bC.cells x.bU.ls))∧(x.bU.ls.length≤x.bU.c∧x.bU.ls.length≤9223372036854775807)∧Ro w D (fun w'=>bD w' 3 x.aF.A x.aF.ls.length (List.flatMap bG.cells x.aF.ls))∧(x.aF.ls.length≤x.aF.c∧x.aF.ls.length≤9223372036854775807)∧(∀ j ∈ x.aF.ls,Ro w D (fun w'=>bD w' 6 j.aD.A j.aD.ls.length (List.flatMap bC.cells j.aD.ls))∧(j.aD.ls.length≤j.aD.c∧j.aD.ls.length≤9223372036854775807)∧Ro w D (fun w'=>bD w' 1 j.aJ.A j.aJ.ls.length (List.flatMap (eI .i64) j.aJ.ls))∧(j.aJ.ls.length≤j.aJ.c∧j.aJ.ls.length≤9223372036854775807))∧Ro w D (fun w'=>bD w' 1 x.bF.A x.bF.ls.length (List.flatMap eL x.bF.ls))∧(x.bF.ls.length≤x.bF.c∧x.bF.ls.length≤9223372036854775807)∧Ro w D (fun w'=>bD w' 1 x.ae.A x.ae.ls.length (List.flatMap (FJ (β:=af)) x.ae.ls))∧(x.ae.ls.length≤x.ae.c∧x.ae.ls.length≤9223372036854775807)∧(∀ j ∈ x.ae.ls,Ro w D (fun w'=>bD w' 3 j.A j.ls.length (List.flatMap af.cells j.ls))∧(j.ls.length≤j.c∧j.ls.length≤9223372036854775807)∧(∀ y2 ∈ j.ls,Ro w D (fun w'=>bD w' 2 y2.av.A y2.av.ls.length (List.flatMap aL.cells y2.av.ls))∧(y2.av.ls.length≤y2.av.c∧y2.av.ls.length≤9223372036854775807)))) (aY:a.aa.ag.ls.length≤1000∧a.aa.aj.ls.length≤1000∧a.aa.aG.ls.length≤1000∧a.aB.ls.length≤1000) (hr:gu a=r0):
    Calls Tryz.prog 108 #[vP p 0] w (dW fun v w'=>v=vU r0∧Own w D w' [blk p [vI a.aa.au,vU a.aa.ay,vU a.aa.aY,vU a.aa.aH, .slice y a.aa.ag.ls.length z, .slice b a.aa.aj.ls.length f, .slice C a.aa.aG.ls.length E,vU a.bH, .slice d a.aB.ls.length g, .bool a.aR.aS,vU a.aR.aK,vI a.aR.bi, .slice G a.aR.ae.ls.length I, .bool a.aN.aS,vU a.aN.aK,vI a.aN.bi, .slice J a.aN.ae.ls.length K, .bool a.aM.aS,vU a.aM.aK,vI a.aM.bi, .slice L a.aM.ae.ls.length M, .bool a.aO.aS,vU a.aO.aK,vI a.aO.bi, .slice N a.aO.ae.ls.length O, .bool a.aP.aS,vU a.aP.aK,vI a.aP.bi, .slice P a.aP.ae.ls.length Q,vU a.di,vU a.cB,vU a.cZ,vU a.cK,vU a.cO, .pointer none] 86]):=by
 have aB:=aA R
 have aD:=aA S
 refine cb Tryz.func108 ?_
 refine sr (Ar rfl (Mz rfl ?_))
 obtain⟨h,T⟩:∃ q,gZ a=q:=⟨_,rfl⟩
 obtain⟨aZ,ah,aO,aj,aP⟩:=Fu H
 refine cl Tryz.call126 (pO _ _ p a y z b f C E d g G I J K L M N O P Q h ah T) ?_
 rintro _ bf ⟨rfl,ak,Z⟩
 have t:=aj _ _ ak
 replace Z:h≤18446744073709551615:=Z
 refine An rfl (EP (sr (Mz rfl (Kz (vP p 0) (Kz (vP p 8) (Lz (.slice d a.aB.ls.length g) t 0 Tryz.isAgg79 (Kz (vJ a.aB.ls.length) (Kz (.bool (decide (((a.aB.ls.length:Nat):Int) > 0))) (nt ?_)))))))))
 obtain⟨aH,U⟩:=l8 fun(n:Nat) (w':World)=>Own w D w' [blk p [vI a.aa.au,vU a.aa.ay,vU a.aa.aY,vU a.aa.aH, .slice y a.aa.ag.ls.length z, .slice b a.aa.aj.ls.length f, .slice C a.aa.aG.ls.length E,vU a.bH, .slice d a.aB.ls.length g, .bool a.aR.aS,vU a.aR.aK,vI a.aR.bi, .slice G a.aR.ae.ls.length I, .bool a.aN.aS,vU a.aN.aK,vI a.aN.bi, .slice J a.aN.ae.ls.length K, .bool a.aM.aS,vU a.aM.aK,vI a.aM.bi, .slice L a.aM.ae.ls.length M, .bool a.aO.aS,vU a.aO.aK,vI a.aO.bi, .slice N a.aO.ae.ls.length O, .bool a.aP.aS,vU a.aP.aK,vI a.aP.bi, .slice P a.aP.ae.ls.length Q,vU a.di,vU a.cB,vU a.cZ,vU a.cK,vU a.cO, .pointer none] 86]∧n≤h∧(if((a.aB.ls.length:Nat):Int) > 0 then bnd (List.getD a.aB.ls 0 default) fun au=>min h au.bq else h)=n
 refine FQ (fun i:Nat=> [(3,vU i),(2, .int .u64 0),(0,vP p 0)]) aH ?_ ?_
 by_cases X:((a.aB.ls.length:Nat):Int) > 0
 refine jT (dT X) (EO (Mz rfl (Mz rfl (Kz (vP p 0) (Kz (vP p 8) (Lz (.slice d a.aB.ls.length g) t 0 Tryz.isAgg79 ?_))))))
 obtain⟨o,l⟩:=dK (ls:=F) (i:=0) bB.len (by decide) (t.ro s) (by first | omega | (simp; done) | (simp; omega))
 have av:=eQ S l
 have aQ:=(m _ (List.mem_of_getElem? l)).2.1
 have aR:=(m _ (List.mem_of_getElem? l)).2.2.2.1
 have aS:List.length (List.map bG.abs o.aF.ls)=o.aF.ls.length:=List.length_map ..
 have aT:=(m _ (List.mem_of_getElem? l)).2.2.2.2.2.2.1
 have aU:=(m _ (List.mem_of_getElem? l)).2.2.2.2.2.2.2.2.1
 have aV:List.length (List.map bM.abs o.ae.ls)=o.ae.ls.length:=List.length_map ..
 refine fw (.pointer (some ⟨ab d,ao d+0 *9,none⟩)) (ET (oQ) rfl rfl ((t.ro s).addr (i:=0) (by omega)) (by omega)) (Kz (.pointer (some ⟨ab d,ao d+0 *9,none⟩)) (fw (vU o.bq) (EY rfl (bZ.one Tryz.isAgg28 (((t.ro s).elem bB.len l (by decide)).at_ (k:=0) rfl))) (fw (vU (min h o.bq)) (EQ (e:=if((o.bq:Nat):Int) < ((h:Nat):Int) then((o.bq:Nat):Int) else((h:Nat):Int)) yk (by omega)) (Az rfl (WL.nil ?_)))))
 have aI:=t.pf []
 exact FD (min h o.bq) ⟨rfl,rfl,rfl,trivial⟩ (U.2 ⟨aI,by omega,et (ip X) (ai (bI av))⟩)
 refine jF (dF X) (Fs ?_)
 have aJ:=t.pf []
 exact FD h ⟨rfl,rfl,rfl,trivial⟩ (U.2 ⟨aJ,by omega,iN X⟩)
 rintro n bg ax
 show Wp _ _ _ [(3,vU n),(2, .int .u64 0),(0,vP p 0)] _ _
 obtain⟨u,aW,aa⟩:=U.1 ax
 refine EP (sr (Mz rfl (Kz (vP p 0) (Kz (vP p 0) (Kz (vP p 5) (Lz (.slice b a.aa.aj.ls.length f) u 0 Tryz.isAgg30 (Kz (vJ a.aa.aj.ls.length) (Kz (.bool (decide (((a.aa.aj.ls.length:Nat):Int) > 0))) (nt ?_)))))))))
 by_cases Y:((a.aa.aj.ls.length:Nat):Int) > 0
 refine jT (dT Y) (EO (Mz rfl (Mz rfl (Kz (vP p 0) (Kz (vP p 0) (Kz (vP p 5) (Lz (.slice b a.aa.aj.ls.length f) u 0 Tryz.isAgg30 ?_)))))))
 obtain⟨V,W⟩:=dK (ls:=B) (i:=0) az.len (by decide) (u.ro r) (by first | omega | (simp; done) | (simp; omega))
 have ay:=eQ R W
 have aX:=(ae _ (List.mem_of_getElem? W)).2
 refine fw (.pointer (some ⟨ab b,ao b+0 *5,none⟩)) (ET (kv) rfl rfl ((u.ro r).addr (i:=0) (by omega)) (by omega)) (Kz (.pointer (some ⟨ab b,ao b+0 *5,none⟩)) (fw (vU V.bf) (EY rfl (bZ.one Tryz.isAgg28 (((u.ro r).elem az.len W (by decide)).at_ (k:=0) rfl))) (fw (vU (min n V.bf)) (EQ (e:=if((V.bf:Nat):Int) < ((n:Nat):Int) then((V.bf:Nat):Int) else((n:Nat):Int)) yk (by omega)) (Ar rfl (Mz rfl (An rfl (rt (rs ?_))))))))
 have aK:=u.pf []
 obtain rfl:_=min n V.bf:=hr.symm.trans (et (ai T) (et (ai aa) (et (ip Y) (ai (bI ay)))))
 exact⟨rfl,aK⟩
 refine jF (dF Y) (sk (sr (Mz rfl (An rfl (rt (rs ?_))))))
 have aM:=u.pf []
 obtain rfl:_=n:=hr.symm.trans (et (ai T) (et (ai aa) (iN Y)))
 exact⟨rfl,aM⟩
def eZ (g:bQ) (e:Int) (d:bP) (a:aC):List fG→Unit ⊕ bQ
  | []=>Sum.inl ()
  | b::c=>if b.aQ=e then if((b.ay:Nat):Int)=((d.ay:Nat):Int) then if((b.aU:Nat):Int)=((d.aU:Nat):Int) then bnd (dD g (bP.mk 2 0 (IntKind.i64.wrap (10+e)) 0 1 0 d.aU a.aa.ay 0 0 0 0 0 0 0 false (bK.mk ([]) ([])) (Ll.mk ([])) (Ll.mk b.ah.ls) (Ll.mk ([])))) fun f=>Sum.inr (f) else eZ g e d a c else eZ g e d a c else eZ g e d a c
def lq (c:bQ) (d:Int) (e:bP) (a:aC):bQ:=
 lp (eZ c d e a a.aa.aG.ls) fun _=>bnd (dD c (bP.mk 2 0 (IntKind.i64.wrap (10+d)) 0 2 0 e.aU a.aa.ay 0 0 0 0 0 0 0 false (bK.mk ([]) ([])) (Ll.mk ([])) (Ll.mk ([])) (Ll.mk ([])))) fun b=>b
set_option maxHeartbeats 4000000 in
theorem sV (w:World) (D:Nat→Prop) (g0:Nat) (K:bQ) (L:Option Addr) (M:Nat) (G:List bA) (J:Int) (f:bP) (au:Option Addr) (aO av:Nat) (ax:Option Addr) (aP ay:Nat) (aF:List af) (az:Option Addr) (aQ aB:Nat) (d:Nat) (a:aC) (O:Option Addr) (P:Nat) (Q:Option Addr) (R:Nat) (h:Option Addr) (j:Nat) (p:List aX) (S:Option Addr) (T:Nat) (r:Option Addr) (s:Nat) (U:List af) (t:Option Addr) (u:Nat) (V:List af) (y:Option Addr) (z:Nat) (W:List af) (B:Option Addr) (C:Nat) (X:List af) (E:Option Addr) (F:Nat) (Y:List af) (r0:bQ) (H:Own w D w [blk g0 [.pointer (some ⟨d,0,none⟩), .slice L K.bE.ls.length M] 98,row L K.bE.ls.length M (List.flatMap bA.cells G) 42 21,sepL (List.flatMap bA.own G),blk d [.int .i64 a.aa.au, .int .u64 ((a.aa.ay:Nat):Int), .int .u64 ((a.aa.aY:Nat):Int), .int .u64 ((a.aa.aH:Nat):Int), .slice O a.aa.ag.ls.length P, .slice Q a.aa.aj.ls.length R, .slice h a.aa.aG.ls.length j, .int .u64 ((a.bH:Nat):Int), .slice S a.aB.ls.length T, .bool a.aR.aS, .int .u64 ((a.aR.aK:Nat):Int), .int .i64 a.aR.bi, .slice r a.aR.ae.ls.length s, .bool a.aN.aS, .int .u64 ((a.aN.aK:Nat):Int), .int .i64 a.aN.bi, .slice t a.aN.ae.ls.length u, .bool a.aM.aS, .int .u64 ((a.aM.aK:Nat):Int), .int .i64 a.aM.bi, .slice y a.aM.ae.ls.length z, .bool a.aO.aS, .int .u64 ((a.aO.aK:Nat):Int), .int .i64 a.aO.bi, .slice B a.aO.ae.ls.length C, .bool a.aP.aS, .int .u64 ((a.aP.aK:Nat):Int), .int .i64 a.aP.bi, .slice E a.aP.ae.ls.length F, .int .u64 ((a.di:Nat):Int), .int .u64 ((a.cB:Nat):Int), .int .u64 ((a.cZ:Nat):Int), .int .u64 ((a.cK:Nat):Int), .int .u64 ((a.cO:Nat):Int), .pointer none] 86]) (ah:List.map bA.abs G=K.bE.ls) (bf:aO=f.aD.ls.length) (dL:Ro w D fun w'=>bD w' 6 au f.aD.ls.length (List.flatMap bC.cells f.aD.ls)) (dM:f.aD.ls.length≤av∧f.aD.ls.length≤9223372036854775807) (bg:List.map af.abs aF=f.ah.ls) (bi:aP=f.ah.ls.length) (dN:Ro w D fun w'=>bD w' 3 ax f.ah.ls.length (List.flatMap af.cells aF)) (dQ:f.ah.ls.length≤ay∧f.ah.ls.length≤9223372036854775807) (dR:∀ x ∈ aF,Ro w D (fun w'=>bD w' 2 x.av.A x.av.ls.length (List.flatMap aL.cells x.av.ls))∧(x.av.ls.length≤x.av.c∧x.av.ls.length≤9223372036854775807)) (bn:aQ=f.ag.ls.length) (dS:Ro w D fun w'=>bD w' 2 az f.ag.ls.length (List.flatMap bv.cells f.ag.ls)) (dU:f.ag.ls.length≤aB∧f.ag.ls.length≤9223372036854775807) (Z:List.map aX.abs p=a.aa.aG.ls) (I:Ro w D fun w'=>bD w' 4 h a.aa.aG.ls.length (List.flatMap aX.cells p)) (bM:a.aa.aG.ls.length≤j∧a.aa.aG.ls.length≤9223372036854775807) (n:∀ x ∈ p,Ro w D (fun w'=>bD w' 3 x.ah.A x.ah.ls.length (List.flatMap af.cells x.ah.ls))∧(x.ah.ls.length≤x.ah.c∧x.ah.ls.length≤9223372036854775807)∧(∀ y1 ∈ x.ah.ls,Ro w D (fun w'=>bD w' 2 y1.av.A y1.av.ls.length (List.flatMap aL.cells y1.av.ls))∧(y1.av.ls.length≤y1.av.c∧y1.av.ls.length≤9223372036854775807))) (aG:List.map af.abs U=a.aR.ae.ls) (bO:Ro w D fun w'=>bD w' 3 r a.aR.ae.ls.length (List.flatMap af.cells U)) (bS:a.aR.ae.ls.length≤s∧a.aR.ae.ls.length≤9223372036854775807) (bT:∀ x ∈ U,Ro w D (fun w'=>bD w' 2 x.av.A x.av.ls.length (List.flatMap aL.cells x.av.ls))∧(x.av.ls.length≤x.av.c∧x.av.ls.length≤9223372036854775807)) (aH:List.map af.abs V=a.aN.ae.ls) (bU:Ro w D fun w'=>bD w' 3 t a.aN.ae.ls.length (List.flatMap af.cells V)) (bV:a.aN.ae.ls.length≤u∧a.aN.ae.ls.length≤9223372036854775807) (bW:∀ x ∈ V,Ro w D (fun w'=>bD w' 2 x.av.A x.av.ls.length (List.flatMap aL.cells x.av.ls))∧(x.av.ls.length≤x.av.c∧x.av.ls.length≤9223372036854775807)) (aI:List.map af.abs W=a.aM.ae.ls) (bX:Ro w D fun w'=>bD w' 3 y a.aM.ae.ls.length (List.flatMap af.cells W)) (bY:a.aM.ae.ls.length≤z∧a.aM.ae.ls.length≤9223372036854775807) (bZ:∀ x ∈ W,Ro w D (fun w'=>bD w' 2 x.av.A x.av.ls.length (List.flatMap aL.cells x.av.ls))∧(x.av.ls.length≤x.av.c∧x.av.ls.length≤9223372036854775807)) (aJ:List.map af.abs X=a.aO.ae.ls) (cu:Ro w D fun w'=>bD w' 3 B a.aO.ae.ls.length (List.flatMap af.cells X)) (cz:a.aO.ae.ls.length≤C∧a.aO.ae.ls.length≤9223372036854775807) (cB:∀ x ∈ X,Ro w D (fun w'=>bD w' 2 x.av.A x.av.ls.length (List.flatMap aL.cells x.av.ls))∧(x.av.ls.length≤x.av.c∧x.av.ls.length≤9223372036854775807)) (aK:List.map af.abs Y=a.aP.ae.ls) (cK:Ro w D fun w'=>bD w' 3 E a.aP.ae.ls.length (List.flatMap af.cells Y)) (cO:a.aP.ae.ls.length≤F∧a.aP.ae.ls.length≤9223372036854775807) (cZ:∀ x ∈ Y,Ro w D (fun w'=>bD w' 2 x.av.A x.av.ls.length (List.flatMap aL.cells x.av.ls))∧(x.av.ls.length≤x.av.c∧x.av.ls.length≤9223372036854775807)) (fJ:a.aa.ag.ls.length≤1000∧a.aa.aj.ls.length≤1000∧a.aa.aG.ls.length≤1000∧a.aB.ls.length≤1000∧K.bE.ls.length≤100000) (fK:Mk a) (hr:lq K J f a=r0):
    Calls Tryz.prog 86 #[vP g0 0,vI J, .agg (gN f.aI f.aJ f.eU f.aQ f.dz f.dL f.aU f.ay f.bf f.cz f.aY f.aH f.dG f.bT f.xN f.dI f.bO.bJ f.bO.bW au aO av ax aP ay az aQ aB).toArray] w (dW fun v w'=> ∃ (B0ox0:Option Addr) (b0ox0:Nat) (e0ox0:List bA),v= .tuple #[]∧Own w D w' [blk g0 [vP d 0, .slice B0ox0 r0.bE.ls.length b0ox0] 98,row B0ox0 r0.bE.ls.length b0ox0 (List.flatMap bA.cells e0ox0) 42 21,sepL (List.flatMap bA.own e0ox0),blk d [vI a.aa.au,vU a.aa.ay,vU a.aa.aY,vU a.aa.aH, .slice O a.aa.ag.ls.length P, .slice Q a.aa.aj.ls.length R, .slice h a.aa.aG.ls.length j,vU a.bH, .slice S a.aB.ls.length T, .bool a.aR.aS,vU a.aR.aK,vI a.aR.bi, .slice r a.aR.ae.ls.length s, .bool a.aN.aS,vU a.aN.aK,vI a.aN.bi, .slice t a.aN.ae.ls.length u, .bool a.aM.aS,vU a.aM.aK,vI a.aM.bi, .slice y a.aM.ae.ls.length z, .bool a.aO.aS,vU a.aO.aK,vI a.aO.bi, .slice B a.aO.ae.ls.length C, .bool a.aP.aS,vU a.aP.aK,vI a.aP.bi, .slice E a.aP.ae.ls.length F,vU a.di,vU a.cB,vU a.cZ,vU a.cK,vU a.cO, .pointer none] 86]∧(List.map bA.abs e0ox0=r0.bE.ls)):=by
 subst bf bi bn
 have dI:=aA ah
 have dJ:=aA bg
 have bE:=aA Z
 have bF:=aA aG
 have bG:=aA aH
 have bH:=aA aI
 have bI:=aA aJ
 have bJ:=aA aK
 have dV:=H.rowC (i:=1) rfl
 refine cb Tryz.func86 ?_
 refine sr ?_
 refine dP (gP f au av ax ay az aB) 42 H ?_
 intro aj fM bq
 refine nt (EP (sr (Mz rfl (Kz (vP g0 0) (Kz (vP g0 0) (Lz (vP d 0) bq 1 Tryz.isAgg24 (Kz (vP d 0) (Kz (vP d 0) (Kz (vP d 6) (Lz (.slice h a.aa.aG.ls.length j) bq 4 Tryz.isAgg31 (Kz (vJ a.aa.aG.ls.length) (Mn rfl (bo ?_)))))))))))))
 have dX:=bq.pf []
 obtain⟨dY,aa⟩:=l8 fun(g:Nat) (w':World)=>Own w D w' [blk aj (gP f au av ax ay az aB) 42,blk g0 [vP d 0, .slice L K.bE.ls.length M] 98,row L K.bE.ls.length M (List.flatMap bA.cells G) 42 21,sepL (List.flatMap bA.own G),blk d [vI a.aa.au,vU a.aa.ay,vU a.aa.aY,vU a.aa.aH, .slice O a.aa.ag.ls.length P, .slice Q a.aa.aj.ls.length R, .slice h a.aa.aG.ls.length j,vU a.bH, .slice S a.aB.ls.length T, .bool a.aR.aS,vU a.aR.aK,vI a.aR.bi, .slice r a.aR.ae.ls.length s, .bool a.aN.aS,vU a.aN.aK,vI a.aN.bi, .slice t a.aN.ae.ls.length u, .bool a.aM.aS,vU a.aM.aK,vI a.aM.bi, .slice y a.aM.ae.ls.length z, .bool a.aO.aS,vU a.aO.aK,vI a.aO.bi, .slice B a.aO.ae.ls.length C, .bool a.aP.aS,vU a.aP.aK,vI a.aP.bi, .slice E a.aP.ae.ls.length F,vU a.di,vU a.cB,vU a.cZ,vU a.cK,vU a.cO, .pointer none] 86]∧g≤a.aa.aG.ls.length∧eZ K J f a a.aa.aG.ls=eZ K J f a (List.drop g a.aa.aG.ls)
 refine Wp.loop (fun i:Nat=> [(17,vJ i),(16,vJ a.aa.aG.ls.length),(15, .slice h a.aa.aG.ls.length j),(5,vP aj 0),(0,vP g0 0),(1,vI J)]) dY (fun i=>a.aa.aG.ls.length - i) 0 ⟨rfl,rfl,rfl,rfl,rfl,rfl,trivial⟩ (aa.2 ⟨dX,by omega,rfl⟩) ?_
 rintro g fO df
 show Wp _ _ _ [(17,vJ g),(16,vJ a.aa.aG.ls.length),(15, .slice h a.aa.aG.ls.length j),(5,vP aj 0),(0,vP g0 0),(1,vI J)] _ _
 obtain⟨ae,eY,ag⟩:=aa.1 df
 refine sr (Kz (.bool (decide (((g:Nat):Int) < ((a.aa.aG.ls.length:Nat):Int)))) (nt (EP ?_)))
 by_cases dh:((g:Nat):Int) < ((a.aa.aG.ls.length:Nat):Int)
 obtain⟨b,N⟩:=dK (ls:=p) (i:=g) aX.len (by decide) (ae.ro I) (by first | omega | (simp; done) | (simp; omega))
 have aR:=eQ Z N
 have fe:=(n _ (List.mem_of_getElem? N)).2.1
 have fo:List.length (List.map af.abs b.ah.ls)=b.ah.ls.length:=List.length_map ..
 have di:mK (List.map af.abs b.ah.ls):=Dc (by assumption) aR
 have fq:b.ah.ls.length≤1000:=by have q9:=di.1; rw [List.length_map] at q9; exact q9
 have aD:=drop_at aR
 refine jT (dT dh) (sk (EP (bo (sr (fw (.pointer (some ⟨ab h,ao h+g *4,none⟩)) (ET (lI) rfl rfl ((ae.ro I).addr (i:=g) (by omega)) (by omega)) (fw (.agg (aX.cells b).toArray) (EY rfl (Fb (cs:=(aX.cells b)) Tryz.isAgg56 Tryz.sizeOf56 ((ae.ro I).elem aX.len N (by decide)))) ?_))))))
 refine dP [vI 0, .int .u64 0, .int .u64 0, .slice none 0 0] 56 ae ?_
 intro aM fP dZ
 refine dO (aX.cells b) 0 dZ Tryz.sizeOf56 ?_
 intro fQ o
 refine ns (Kz (vP aM 0) (Lz (vI b.aQ) o 0 Tryz.isAgg3 (Mz rfl (Kz (.bool (decide (b.aQ=J))) (Mz rfl ?_)))))
 by_cases l:b.aQ=J
 refine Gz (vP aM 1) (dT l) (Gl (vU b.ay) (dT l) o 0 Tryz.isAgg28 (Gz (vP aj 7) (dT l) (Gl (vU f.ay) (dT l) o 1 Tryz.isAgg28 (Gz (.bool (decide (((b.ay:Nat):Int)=((f.ay:Nat):Int)))) (dT l) (fw (.bool (decide (((b.ay:Nat):Int)=((f.ay:Nat):Int)))) (Fa rfl (dT l) rfl) (Mz rfl ?_))))))
 by_cases m:((b.ay:Nat):Int)=((f.ay:Nat):Int)
 refine Gz (vP aM 2) (dT m) (Gl (vU b.aU) (dT m) o 0 Tryz.isAgg28 (Gz (vP aj 6) (dT m) (Gl (vU f.aU) (dT m) o 1 Tryz.isAgg28 (Gz (.bool (decide (((b.aU:Nat):Int)=((f.aU:Nat):Int)))) (dT m) (fw (.bool (decide (((b.aU:Nat):Int)=((f.aU:Nat):Int)))) (Fa rfl (dT m) rfl) (nt ?_))))))
 by_cases aN:((b.aU:Nat):Int)=((f.aU:Nat):Int)
 refine jT (dT aN) (sr (Mz rfl (Mz rfl (Kz (vP aj 6) (Lz (vU f.aU) o 1 Tryz.isAgg28 (Kz (vP aM 3) (Lz (.slice b.ah.A b.ah.ls.length b.ah.c) o 0 Tryz.isAgg40 ?_)))))))
 refine WL.do rfl (Fe Tryz.call89 rfl ?_ (fun _ _ k=>k))
 refine cb Tryz.func89 ?_
 refine EO (Mz rfl (Mz rfl (Kz (vI (IntKind.i64.wrap (10+J))) (Mz rfl (Mz rfl (Kz (vP g0 0) (Kz (vP g0 0) (Lz (vP d 0) o 2 Tryz.isAgg24 (Kz (vP d 0) (Kz (vP d 0) (Kz (vP d 1) (Lz (vU a.aa.ay) o 5 Tryz.isAgg28 (Mz rfl (Mz rfl (Kz (.agg (gN 2 0 (IntKind.i64.wrap (10+J)) 0 1 0 f.aU a.aa.ay 0 0 0 0 0 0 0 false ([]) ([]) none 0 0 b.ah.A b.ah.ls.length b.ah.c none 0 0).toArray) ?_)))))))))))))))
 have d9:=o.pb [0,1,5]
 obtain⟨bu,aS⟩:∃ q,dD K (bP.mk 2 0 (IntKind.i64.wrap (10+J)) 0 1 0 f.aU a.aa.ay 0 0 0 0 0 0 0 false (bK.mk ([]) ([])) (Ll.mk ([])) (Ll.mk (List.map af.abs b.ah.ls)) (Ll.mk ([])))=q:=⟨_,rfl⟩
 obtain⟨fT,dm,aT,dn,fA⟩:=FC d9
 refine cl Tryz.call65 (fE _ _ g0 K L M G d (bP.mk 2 0 (IntKind.i64.wrap (10+J)) 0 1 0 f.aU a.aa.ay 0 0 0 0 0 0 0 false (bK.mk ([]) ([])) (Ll.mk ([])) (Ll.mk (List.map af.abs b.ah.ls)) (Ll.mk ([]))) none 0 0 b.ah.A b.ah.ls.length b.ah.c b.ah.ls none 0 0 bu dm ah rfl (fun _ _=>bD.nil _ _ _) (by first | exact⟨IQ rfl,IQ rfl⟩ | omega | exact⟨Nat.le_refl _,by omega⟩) (rfl:List.map af.abs b.ah.ls=List.map af.abs b.ah.ls) (by first | rfl | omega | (simp only [List.length_append,List.length_cons,List.length_nil,List.length_take,List.length_drop,List.length_set,List.length_replicate,List.length_map] <;> omega)) (fun w9 h9=>mZ (aA (rfl:List.map af.abs b.ah.ls=List.map af.abs b.ah.ls)) ((aT _ (n _ (List.mem_of_getElem? N)).1) w9 h9)) (show List.length (List.map af.abs b.ah.ls)≤b.ah.c∧List.length (List.map af.abs b.ah.ls)≤9223372036854775807 from by omega) (fun x9 h9=>⟨aT _ ((n _ (List.mem_of_getElem? N)).2.2 x9 h9).1,((n _ (List.mem_of_getElem? N)).2.2 x9 h9).2⟩) rfl (fun _ _=>bD.nil _ _ _) (by first | exact⟨IQ rfl,IQ rfl⟩ | omega | exact⟨Nat.le_refl _,by omega⟩) (by first | omega | (dsimp only; omega) | (simp only [List.length_nil]; omega) | decide) (by first | assumption | exact dH (by assumption) | exact fun x hx=>absurd hx List.not_mem_nil | exact dH (Mk.lW (by assumption)).1 | exact dH (Mk.kZ (by assumption)).1 | exact dH (Mk.mg (by assumption)).1 | exact dH (Mk.mf (by assumption)).1 | exact dH (Mk.mh (by assumption)).1) aS) ?_
 rintro _ fV ⟨ed,ek,eu,rfl,dw,aU,aV⟩
 have dx:=dn _ _ dw
 have fC:=aA aU
 have fD:=dx.rowC (i:=1) rfl
 replace aV:bu.bE.ls.length=K.bE.ls.length+1:=aV
 refine WL.nil (Ff (res0 rfl) (nt (rt (bR (tR (tR (bR (tR (Fin.res (res0 rfl) ?_)))))))))
 have eB:=dx.pk [0,1,2,5]
 obtain rfl:_=bu:=hr.symm.trans (iZ (et (ag) (et (congrArg (fun q=>eZ K J f a q) aD) (et (ip l) (et (ip m) (et (ip aN) (ai aS)))))))
 exact⟨ed,ek,eu,rfl,eB,aU⟩
 refine jF (dF aN) (Fs (bN (ER (EO (fw (vJ (g+1)) (EQ (e:=IntKind.i64.wrap (((g:Nat):Int)+1)) yk (by rw [IR _ (by omega)]; omega)) (Mz rfl (WL.nil ?_)))))))
 have eF:=o.px [] [0] []
 exact E8 (g+1) ⟨rfl,rfl,rfl,rfl,rfl,rfl,trivial⟩ (aa.2 ⟨eF,by omega,et (ag) (et (congrArg (fun q=>eZ K J f a q) aD) (et (ip l) (et (ip m) (iN aN))))⟩) (by show a.aa.aG.ls.length - (g+1) < a.aa.aG.ls.length - g; omega)
 refine Sz (dF m) (Sz (dF m) (Sz (dF m) (Sz (dF m) (Sz (dF m) (fw (.bool false) (ES rfl (dF m) rfl) (nt (jf (Fs (bN (ER (EO (fw (vJ (g+1)) (EQ (e:=IntKind.i64.wrap (((g:Nat):Int)+1)) yk (by rw [IR _ (by omega)]; omega)) (Mz rfl (WL.nil ?_))))))))))))))
 have eG:=o.px [] [0] []
 exact E8 (g+1) ⟨rfl,rfl,rfl,rfl,rfl,rfl,trivial⟩ (aa.2 ⟨eG,by omega,et (ag) (et (congrArg (fun q=>eZ K J f a q) aD) (et (ip l) (iN m)))⟩) (by show a.aa.aG.ls.length - (g+1) < a.aa.aG.ls.length - g; omega)
 refine Sz (dF l) (Sz (dF l) (Sz (dF l) (Sz (dF l) (Sz (dF l) (fw (.bool false) (ES rfl (dF l) rfl) (Mz rfl (Sz rfl (Sz rfl (Sz rfl (Sz rfl (Sz rfl (fw (.bool false) (ES rfl rfl rfl) (nt (jf (Fs (bN (ER (EO (fw (vJ (g+1)) (EQ (e:=IntKind.i64.wrap (((g:Nat):Int)+1)) yk (by rw [IR _ (by omega)]; omega)) (Mz rfl (WL.nil ?_)))))))))))))))))))))
 have eH:=o.px [] [0] []
 exact E8 (g+1) ⟨rfl,rfl,rfl,rfl,rfl,rfl,trivial⟩ (aa.2 ⟨eH,by omega,et (ag) (et (congrArg (fun q=>eZ K J f a q) aD) (iN l))⟩) (by show a.aa.aG.ls.length - (g+1) < a.aa.aG.ls.length - g; omega)
 refine jF (dF dh) (Wp.exit (EX ?_))
 have dz:eZ K J f a a.aa.aG.ls=Sum.inl ():=et (ag) (et (congrArg (fun q=>eZ K J f a q) (eD (ls:=a.aa.aG.ls) (i:=g) (by omega))) rfl)
 refine EX (Fg (ER (EO (Mz rfl (Mz rfl (Kz (vP aj 6) (Lz (vU f.aU) ae 0 Tryz.isAgg28 ?_)))))))
 refine WL.do rfl (Fe Tryz.call89 rfl ?_ (fun _ _ k=>k))
 refine cb Tryz.func89 ?_
 refine EO (Mz rfl (Mz rfl (Kz (vI (IntKind.i64.wrap (10+J))) (Mz rfl (Mz rfl (Kz (vP g0 0) (Kz (vP g0 0) (Lz (vP d 0) ae 1 Tryz.isAgg24 (Kz (vP d 0) (Kz (vP d 0) (Kz (vP d 1) (Lz (vU a.aa.ay) ae 4 Tryz.isAgg28 (Mz rfl (Mz rfl (Kz (.agg (gN 2 0 (IntKind.i64.wrap (10+J)) 0 2 0 f.aU a.aa.ay 0 0 0 0 0 0 0 false ([]) ([]) none 0 0 none 0 0 none 0 0).toArray) ?_)))))))))))))))
 have eO:=ae.pb [0,4]
 obtain⟨bz,aW⟩:∃ q,dD K (bP.mk 2 0 (IntKind.i64.wrap (10+J)) 0 2 0 f.aU a.aa.ay 0 0 0 0 0 0 0 false (bK.mk ([]) ([])) (Ll.mk ([])) (Ll.mk ([])) (Ll.mk ([])))=q:=⟨_,rfl⟩
 obtain⟨fZ,dA,fF,dB,fG⟩:=FC eO
 refine cl Tryz.call65 (fE _ _ g0 K L M G d (bP.mk 2 0 (IntKind.i64.wrap (10+J)) 0 2 0 f.aU a.aa.ay 0 0 0 0 0 0 0 false (bK.mk ([]) ([])) (Ll.mk ([])) (Ll.mk ([])) (Ll.mk ([]))) none 0 0 none 0 0 [] none 0 0 bz dA ah rfl (fun _ _=>bD.nil _ _ _) (by first | exact⟨IQ rfl,IQ rfl⟩ | omega | exact⟨Nat.le_refl _,by omega⟩) rfl rfl (fun _ _=>bD.nil _ _ _) (by first | exact⟨IQ rfl,IQ rfl⟩ | omega | exact⟨Nat.le_refl _,by omega⟩) (fun _ h9=>absurd h9 List.not_mem_nil) rfl (fun _ _=>bD.nil _ _ _) (by first | exact⟨IQ rfl,IQ rfl⟩ | omega | exact⟨Nat.le_refl _,by omega⟩) (by first | omega | (dsimp only; omega) | (simp only [List.length_nil]; omega) | decide) (by first | assumption | exact dH (by assumption) | exact fun x hx=>absurd hx List.not_mem_nil | exact dH (Mk.lW (by assumption)).1 | exact dH (Mk.kZ (by assumption)).1 | exact dH (Mk.mg (by assumption)).1 | exact dH (Mk.mf (by assumption)).1 | exact dH (Mk.mh (by assumption)).1) aW) ?_
 rintro _ gm ⟨eP,eT,eU,rfl,dC,aY,aZ⟩
 have dE:=dB _ _ dC
 have fH:=aA aY
 have fI:=dE.rowC (i:=1) rfl
 replace aZ:bz.bE.ls.length=K.bE.ls.length+1:=aZ
 refine WL.nil (Ff (res0 rfl) (WL.nil (Ff (res0 rfl) ?_)))
 have eX:=dE.px [] [3] []
 obtain rfl:_=bz:=hr.symm.trans (et (nJ dz) (ai aW))
 exact⟨eP,eT,eU,rfl,eX,aY⟩
def d9 (k:bQ) (e:Int) (c:Nat) (d:Int) (g:List aZ) (a:aC):bQ × aC:=
 bnd (jc g) fun b=>if((Int.toNat e:Nat):Int)=1 then bnd (dD k (bP.mk 2 0 (10+e) 0 d 0 c a.aa.ay 0 0 0 0 0 0 0 false (bK.mk ([]) ([])) (Ll.mk ([])) (Ll.mk g) (Ll.mk ([])))) fun h=>(h,aC.mk a.aa a.bH (Ll.mk a.aB.ls) a.aR (dY.mk true c d (Ll.mk b)) a.aM a.aO a.aP a.di a.cB a.cZ a.cK a.cO) else if((Int.toNat e:Nat):Int)=2 then bnd (dD k (bP.mk 2 0 (10+e) 0 d 0 c a.aa.ay 0 0 0 0 0 0 0 false (bK.mk ([]) ([])) (Ll.mk ([])) (Ll.mk g) (Ll.mk ([])))) fun i=>(i,aC.mk a.aa a.bH (Ll.mk a.aB.ls) a.aR a.aN (dY.mk true c d (Ll.mk b)) a.aO a.aP a.di a.cB a.cZ a.cK a.cO) else if((Int.toNat e:Nat):Int)=3 then bnd (dD k (bP.mk 2 0 (10+e) 0 d 0 c a.aa.ay 0 0 0 0 0 0 0 false (bK.mk ([]) ([])) (Ll.mk ([])) (Ll.mk g) (Ll.mk ([])))) fun j=>(j,aC.mk a.aa a.bH (Ll.mk a.aB.ls) a.aR a.aN a.aM (dY.mk true c d (Ll.mk b)) a.aP a.di a.cB a.cZ a.cK a.cO) else bnd (dD k (bP.mk 2 0 (10+e) 0 d 0 c a.aa.ay 0 0 0 0 0 0 0 false (bK.mk ([]) ([])) (Ll.mk ([])) (Ll.mk g) (Ll.mk ([])))) fun f=>(f,aC.mk a.aa a.bH (Ll.mk a.aB.ls) a.aR a.aN a.aM a.aO (dY.mk true c d (Ll.mk b)) a.di a.cB a.cZ a.cK a.cO)
set_option maxHeartbeats 4000000 in
theorem jM (w:World) (D:Nat→Prop) (W:Nat) (V:bQ) (R:Option Addr) (S:Nat) (L:List bA) (s:Int) (M:Nat) (N:Int) (A4:Option Addr) (n4 Z:Nat) (d4:List af) (h:List aZ) (b:Nat) (a:aC) (aa:Option Addr) (ae:Nat) (ag:Option Addr) (ah:Nat) (aj:Option Addr) (ak:Nat) (au:Option Addr) (av:Nat) (j:Option Addr) (l:Nat) (f:List af) (t:Option Addr) (u:Nat) (m:List af) (y:Option Addr) (z:Nat) (n:List af) (B:Option Addr) (C:Nat) (p:List af) (E:Option Addr) (F:Nat) (r:List af) (r0:bQ) (d:aC) (H:Own w D w [blk W [.pointer (some ⟨b,0,none⟩), .slice R V.bE.ls.length S] 98,row R V.bE.ls.length S (List.flatMap bA.cells L) 42 21,sepL (List.flatMap bA.own L),blk b [.int .i64 a.aa.au, .int .u64 ((a.aa.ay:Nat):Int), .int .u64 ((a.aa.aY:Nat):Int), .int .u64 ((a.aa.aH:Nat):Int), .slice aa a.aa.ag.ls.length ae, .slice ag a.aa.aj.ls.length ah, .slice aj a.aa.aG.ls.length ak, .int .u64 ((a.bH:Nat):Int), .slice au a.aB.ls.length av, .bool a.aR.aS, .int .u64 ((a.aR.aK:Nat):Int), .int .i64 a.aR.bi, .slice j a.aR.ae.ls.length l, .bool a.aN.aS, .int .u64 ((a.aN.aK:Nat):Int), .int .i64 a.aN.bi, .slice t a.aN.ae.ls.length u, .bool a.aM.aS, .int .u64 ((a.aM.aK:Nat):Int), .int .i64 a.aM.bi, .slice y a.aM.ae.ls.length z, .bool a.aO.aS, .int .u64 ((a.aO.aK:Nat):Int), .int .i64 a.aO.bi, .slice B a.aO.ae.ls.length C, .bool a.aP.aS, .int .u64 ((a.aP.aK:Nat):Int), .int .i64 a.aP.bi, .slice E a.aP.ae.ls.length F, .int .u64 ((a.di:Nat):Int), .int .u64 ((a.cB:Nat):Int), .int .u64 ((a.cZ:Nat):Int), .int .u64 ((a.cK:Nat):Int), .int .u64 ((a.cO:Nat):Int), .pointer none] 86,row j a.aR.ae.ls.length l (List.flatMap af.cells f) 149 3,sepL (List.flatMap af.own f),row t a.aN.ae.ls.length u (List.flatMap af.cells m) 149 3,sepL (List.flatMap af.own m),row y a.aM.ae.ls.length z (List.flatMap af.cells n) 149 3,sepL (List.flatMap af.own n),row B a.aO.ae.ls.length C (List.flatMap af.cells p) 149 3,sepL (List.flatMap af.own p),row E a.aP.ae.ls.length F (List.flatMap af.cells r) 149 3,sepL (List.flatMap af.own r)]) (O:List.map bA.abs L=V.bE.ls) (aB:List.map af.abs d4=h) (aF:Ro w D fun w'=>bD w' 3 A4 n4 (List.flatMap af.cells d4)) (P:∀ x ∈ d4,Ro w D (fun w'=>bD w' 2 x.av.A x.av.ls.length (List.flatMap aL.cells x.av.ls))∧(x.av.ls.length≤x.av.c∧x.av.ls.length≤9223372036854775807)) (dO:n4=h.length) (fJ:h.length *48≤211106232532992) (fK:h.length≤Z) (g:List.map af.abs f=a.aR.ae.ls) (G:List.map af.abs m=a.aN.ae.ls) (I:List.map af.abs n=a.aM.ae.ls) (J:List.map af.abs p=a.aO.ae.ls) (K:List.map af.abs r=a.aP.ae.ls) (fM:V.bE.ls.length≤100000) (fO:1≤s∧s≤4) (fP:h.length≤1000) (fQ:mK h) (hr:d9 V s M N h a=(r0,d)):
    Calls Tryz.prog 106 #[vP W 0,vI s,vU M,vI N, .slice A4 n4 Z] w (dW fun v w'=> ∃ (B0ox0:Option Addr) (b0ox0:Nat) (e0ox0:List bA) (B1ox4:Option Addr) (b1ox4:Nat) (e1ox4:List af) (B1ox5:Option Addr) (b1ox5:Nat) (e1ox5:List af) (B1ox6:Option Addr) (b1ox6:Nat) (e1ox6:List af) (B1ox7:Option Addr) (b1ox7:Nat) (e1ox7:List af) (B1ox8:Option Addr) (b1ox8:Nat) (e1ox8:List af),v= .tuple #[]∧Own w D w' [blk W [vP b 0, .slice B0ox0 r0.bE.ls.length b0ox0] 98,row B0ox0 r0.bE.ls.length b0ox0 (List.flatMap bA.cells e0ox0) 42 21,sepL (List.flatMap bA.own e0ox0),blk b [vI d.aa.au,vU d.aa.ay,vU d.aa.aY,vU d.aa.aH, .slice aa a.aa.ag.ls.length ae, .slice ag a.aa.aj.ls.length ah, .slice aj a.aa.aG.ls.length ak,vU d.bH, .slice au a.aB.ls.length av, .bool d.aR.aS,vU d.aR.aK,vI d.aR.bi, .slice B1ox4 d.aR.ae.ls.length b1ox4, .bool d.aN.aS,vU d.aN.aK,vI d.aN.bi, .slice B1ox5 d.aN.ae.ls.length b1ox5, .bool d.aM.aS,vU d.aM.aK,vI d.aM.bi, .slice B1ox6 d.aM.ae.ls.length b1ox6, .bool d.aO.aS,vU d.aO.aK,vI d.aO.bi, .slice B1ox7 d.aO.ae.ls.length b1ox7, .bool d.aP.aS,vU d.aP.aK,vI d.aP.bi, .slice B1ox8 d.aP.ae.ls.length b1ox8,vU d.di,vU d.cB,vU d.cZ,vU d.cK,vU d.cO, .pointer none] 86,row B1ox4 d.aR.ae.ls.length b1ox4 (List.flatMap af.cells e1ox4) 149 3,sepL (List.flatMap af.own e1ox4),row B1ox5 d.aN.ae.ls.length b1ox5 (List.flatMap af.cells e1ox5) 149 3,sepL (List.flatMap af.own e1ox5),row B1ox6 d.aM.ae.ls.length b1ox6 (List.flatMap af.cells e1ox6) 149 3,sepL (List.flatMap af.own e1ox6),row B1ox7 d.aO.ae.ls.length b1ox7 (List.flatMap af.cells e1ox7) 149 3,sepL (List.flatMap af.own e1ox7),row B1ox8 d.aP.ae.ls.length b1ox8 (List.flatMap af.cells e1ox8) 149 3,sepL (List.flatMap af.own e1ox8)]∧(List.map bA.abs e0ox0=r0.bE.ls)∧(List.map af.abs e1ox4=d.aR.ae.ls)∧(List.map af.abs e1ox5=d.aN.ae.ls)∧(List.map af.abs e1ox6=d.aM.ae.ls)∧(List.map af.abs e1ox7=d.aO.ae.ls)∧(List.map af.abs e1ox8=d.aP.ae.ls)∧(r0.bE.ls.length=V.bE.ls.length+1)):=by
 subst dO
 have eY:=aA aB
 have dM:=aA O
 have bM:=aA g
 have bN:=aA G
 have bO:=aA I
 have bR:=aA J
 have bS:=aA K
 have dP:=H.rowC (i:=1) rfl
 have bU:=H.rowC (i:=4) rfl
 have bV:=H.rowC (i:=6) rfl
 have bW:=H.rowC (i:=8) rfl
 have bX:=H.rowC (i:=10) rfl
 have bY:=H.rowC (i:=12) rfl
 refine cb Tryz.func106 ?_
 refine EP ?_
 have dQ:=H.pb [3]
 refine oF 13 [] (E9 Fp) dQ ?_
 intro fU dR
 refine qv 0 rfl rfl (qp W 0 1 rfl (qp W 0 2 rfl (ql 3 rfl 0 Tryz.isAgg24 rfl rfl rfl (qt (v:=vJ (Int.toNat s)) 4 rfl (fun _ _=>EQ (e:=s) (E5 rfl) (by omega)) (qv 5 rfl rfl (qv 6 rfl rfl (qv 7 rfl rfl (qp b 0 10 rfl (qp b 9 11 rfl ?_)))))))))
 obtain⟨Q,X⟩:∃ q,jc h=q:=⟨_,rfl⟩
 obtain⟨fV,bZ,aV,cu,eZ⟩:=EU dR
 refine qd 8 rfl (Fe Tryz.call48 rfl (lM _ _ A4 h.length Z d4 h Q bZ aB (aV _ aF) (fun x9 h9=>⟨aV _ (P x9 h9).1,(P x9 h9).2⟩) rfl (by omega) (by first | assumption | exact dH (by assumption) | (intro x hx; exact absurd hx List.not_mem_nil)) X) ?_)
 rintro _ fZ ⟨T,U,aP,rfl,cz,Y⟩
 have cB:=cu _ _ cz
 have fe:=aA Y
 have fo:=cB.rowC (i:=0) rfl
 have aG:=cB.pb [0,1,15]
 refine⟨.inr ⟨_,aG⟩, ?_⟩
 refine qk (.agg #[.bool true,vU M,vI N, .slice T Q.length U]) 9 rfl ?_
 by_cases aQ:((Int.toNat s:Nat):Int)=1
 refine qt (v:=vP b 13) 12 rfl (fun _ _=>by(try unfold vJ); rw [show ((Int.toNat s:Nat):Int)=1 from by omega]; exact yk) ?_
 have dS:=aG.pf [15]
 refine qe 13 rfl (Do.store (vs:= [.bool true,vU M,vI N, .slice T Q.length U]) (o:=13) dS rfl rfl Tryz.sizeOf81 rfl rfl rfl rfl ?_)
 intro gm dU
 have aR:=dU.pb [0,14,15]
 refine⟨.inr ⟨_,aR⟩, ?_⟩
 refine qn (ER (EO (Mz rfl (Mz rfl (Mz rfl (Mz rfl (Mz rfl ?_)))))))
 refine WL.do rfl (Fe Tryz.call89 rfl ?_ (fun _ _ k=>k))
 refine cb Tryz.func89 ?_
 refine EO (Mz rfl (Mz rfl (fw (vI (10+s)) (EQ (e:=IntKind.i64.wrap (10+s)) yk (by rw [IR _ (by omega)])) (Mz rfl (Mz rfl (Kz (vP W 0) (Kz (vP W 0) (Lz (vP b 0) aR 0 Tryz.isAgg24 (Kz (vP b 0) (Kz (vP b 0) (Kz (vP b 1) (Lz (vU a.aa.ay) aR 13 Tryz.isAgg28 (Mz rfl (Mz rfl (Kz (.agg (gN 2 0 (10+s) 0 N 0 M a.aa.ay 0 0 0 0 0 0 0 false ([]) ([]) none 0 0 A4 h.length Z none 0 0).toArray) ?_)))))))))))))))
 obtain⟨bC,aW⟩:∃ q,dD V (bP.mk 2 0 (10+s) 0 N 0 M a.aa.ay 0 0 0 0 0 0 0 false (bK.mk ([]) ([])) (Ll.mk ([])) (Ll.mk h) (Ll.mk ([])))=q:=⟨_,rfl⟩
 obtain⟨gp,cK,aX,cO,fq⟩:=FC aR
 refine cl Tryz.call65 (fE _ _ W V R S L b (bP.mk 2 0 (10+s) 0 N 0 M a.aa.ay 0 0 0 0 0 0 0 false (bK.mk ([]) ([])) (Ll.mk ([])) (Ll.mk h) (Ll.mk ([]))) none 0 0 A4 h.length Z d4 none 0 0 bC cK O rfl (fun _ _=>bD.nil _ _ _) (by first | exact⟨IQ rfl,IQ rfl⟩ | omega | exact⟨Nat.le_refl _,by omega⟩) aB rfl (aX _ aF) (show h.length≤Z∧h.length≤9223372036854775807 from by omega) (fun x9 h9=>⟨aX _ (P x9 h9).1,(P x9 h9).2⟩) rfl (fun _ _=>bD.nil _ _ _) (by first | exact⟨IQ rfl,IQ rfl⟩ | omega | exact⟨Nat.le_refl _,by omega⟩) (by first | omega | (dsimp only; omega) | (simp only [List.length_nil]; omega) | decide) (by first | assumption | exact dH (by assumption) | exact fun x hx=>absurd hx List.not_mem_nil | exact dH (Mk.lW (by assumption)).1 | exact dH (Mk.kZ (by assumption)).1 | exact dH (Mk.mg (by assumption)).1 | exact dH (Mk.mf (by assumption)).1 | exact dH (Mk.mh (by assumption)).1) aW) ?_
 rintro _ gq ⟨dV,dX,dZ,rfl,cZ,aY,bf⟩
 have df:=cO _ _ cZ
 have fu:=aA aY
 have fA:=df.rowC (i:=1) rfl
 replace bf:bC.bE.ls.length=V.bE.ls.length+1:=bf
 refine WL.nil (Ff (res0 rfl) (WL.nil (Ff (res0 rfl) ?_)))
 have ed:=df.px [0,1,2,13,3,4,14,15] [5,6] []
 obtain⟨rfl,rfl⟩:=fT (hr.symm.trans (show _=(bC,aC.mk a.aa a.bH (Ll.mk a.aB.ls) a.aR (dY.mk true M N (Ll.mk Q)) a.aM a.aO a.aP a.di a.cB a.cZ a.cK a.cO) from et (ai X) (et (ip aQ) (ai aW))))
 exact⟨dV,dX,dZ,j,l,f,T,U,aP,y,z,n,B,C,p,E,F,r,rfl,ed,aY,g,Y,I,J,K,(by first | omega | (dsimp only; omega))⟩
 by_cases bE:((Int.toNat s:Nat):Int)=2
 refine qt (v:=vP b 17) 12 rfl (fun _ _=>by(try unfold vJ); rw [show ((Int.toNat s:Nat):Int)=2 from by omega]; exact yk) ?_
 have ek:=aG.pf [15]
 refine qe 13 rfl (Do.store (vs:= [.bool true,vU M,vI N, .slice T Q.length U]) (o:=17) ek rfl rfl Tryz.sizeOf81 rfl rfl rfl rfl ?_)
 intro gu eu
 have aS:=eu.pb [0,14,15]
 refine⟨.inr ⟨_,aS⟩, ?_⟩
 refine qn (ER (EO (Mz rfl (Mz rfl (Mz rfl (Mz rfl (Mz rfl ?_)))))))
 refine WL.do rfl (Fe Tryz.call89 rfl ?_ (fun _ _ k=>k))
 refine cb Tryz.func89 ?_
 refine EO (Mz rfl (Mz rfl (fw (vI (10+s)) (EQ (e:=IntKind.i64.wrap (10+s)) yk (by rw [IR _ (by omega)])) (Mz rfl (Mz rfl (Kz (vP W 0) (Kz (vP W 0) (Lz (vP b 0) aS 0 Tryz.isAgg24 (Kz (vP b 0) (Kz (vP b 0) (Kz (vP b 1) (Lz (vU a.aa.ay) aS 13 Tryz.isAgg28 (Mz rfl (Mz rfl (Kz (.agg (gN 2 0 (10+s) 0 N 0 M a.aa.ay 0 0 0 0 0 0 0 false ([]) ([]) none 0 0 A4 h.length Z none 0 0).toArray) ?_)))))))))))))))
 obtain⟨bF,bg⟩:∃ q,dD V (bP.mk 2 0 (10+s) 0 N 0 M a.aa.ay 0 0 0 0 0 0 0 false (bK.mk ([]) ([])) (Ll.mk ([])) (Ll.mk h) (Ll.mk ([])))=q:=⟨_,rfl⟩
 obtain⟨gy,dh,bi,di,fB⟩:=FC aS
 refine cl Tryz.call65 (fE _ _ W V R S L b (bP.mk 2 0 (10+s) 0 N 0 M a.aa.ay 0 0 0 0 0 0 0 false (bK.mk ([]) ([])) (Ll.mk ([])) (Ll.mk h) (Ll.mk ([]))) none 0 0 A4 h.length Z d4 none 0 0 bF dh O rfl (fun _ _=>bD.nil _ _ _) (by first | exact⟨IQ rfl,IQ rfl⟩ | omega | exact⟨Nat.le_refl _,by omega⟩) aB rfl (bi _ aF) (show h.length≤Z∧h.length≤9223372036854775807 from by omega) (fun x9 h9=>⟨bi _ (P x9 h9).1,(P x9 h9).2⟩) rfl (fun _ _=>bD.nil _ _ _) (by first | exact⟨IQ rfl,IQ rfl⟩ | omega | exact⟨Nat.le_refl _,by omega⟩) (by first | omega | (dsimp only; omega) | (simp only [List.length_nil]; omega) | decide) (by first | assumption | exact dH (by assumption) | exact fun x hx=>absurd hx List.not_mem_nil | exact dH (Mk.lW (by assumption)).1 | exact dH (Mk.kZ (by assumption)).1 | exact dH (Mk.mg (by assumption)).1 | exact dH (Mk.mf (by assumption)).1 | exact dH (Mk.mh (by assumption)).1) bg) ?_
 rintro _ gz ⟨eB,eD,eF,rfl,dm,bn,bq⟩
 have dn:=di _ _ dm
 have fC:=aA bn
 have fD:=dn.rowC (i:=1) rfl
 replace bq:bF.bE.ls.length=V.bE.ls.length+1:=bq
 refine WL.nil (Ff (res0 rfl) (WL.nil (Ff (res0 rfl) ?_)))
 have eG:=dn.px [0,1,2,13] [7,8] [9,10,11,12]
 obtain⟨rfl,rfl⟩:=fT (hr.symm.trans (show _=(bF,aC.mk a.aa a.bH (Ll.mk a.aB.ls) a.aR a.aN (dY.mk true M N (Ll.mk Q)) a.aO a.aP a.di a.cB a.cZ a.cK a.cO) from et (ai X) (et (iN aQ) (et (ip bE) (ai bg)))))
 exact⟨eB,eD,eF,j,l,f,t,u,m,T,U,aP,B,C,p,E,F,r,rfl,eG,bn,g,G,Y,J,K,(by first | omega | (dsimp only; omega))⟩
 by_cases dw:((Int.toNat s:Nat):Int)=3
 refine qt (v:=vP b 21) 12 rfl (fun _ _=>by(try unfold vJ); rw [show ((Int.toNat s:Nat):Int)=3 from by omega]; exact yk) ?_
 have eH:=aG.pf [15]
 refine qe 13 rfl (Do.store (vs:= [.bool true,vU M,vI N, .slice T Q.length U]) (o:=21) eH rfl rfl Tryz.sizeOf81 rfl rfl rfl rfl ?_)
 intro gB eO
 have aT:=eO.pb [0,14,15]
 refine⟨.inr ⟨_,aT⟩, ?_⟩
 refine qn (ER (EO (Mz rfl (Mz rfl (Mz rfl (Mz rfl (Mz rfl ?_)))))))
 refine WL.do rfl (Fe Tryz.call89 rfl ?_ (fun _ _ k=>k))
 refine cb Tryz.func89 ?_
 refine EO (Mz rfl (Mz rfl (fw (vI (10+s)) (EQ (e:=IntKind.i64.wrap (10+s)) yk (by rw [IR _ (by omega)])) (Mz rfl (Mz rfl (Kz (vP W 0) (Kz (vP W 0) (Lz (vP b 0) aT 0 Tryz.isAgg24 (Kz (vP b 0) (Kz (vP b 0) (Kz (vP b 1) (Lz (vU a.aa.ay) aT 13 Tryz.isAgg28 (Mz rfl (Mz rfl (Kz (.agg (gN 2 0 (10+s) 0 N 0 M a.aa.ay 0 0 0 0 0 0 0 false ([]) ([]) none 0 0 A4 h.length Z none 0 0).toArray) ?_)))))))))))))))
 obtain⟨bG,bu⟩:∃ q,dD V (bP.mk 2 0 (10+s) 0 N 0 M a.aa.ay 0 0 0 0 0 0 0 false (bK.mk ([]) ([])) (Ll.mk ([])) (Ll.mk h) (Ll.mk ([])))=q:=⟨_,rfl⟩
 obtain⟨gD,dx,bv,dz,fF⟩:=FC aT
 refine cl Tryz.call65 (fE _ _ W V R S L b (bP.mk 2 0 (10+s) 0 N 0 M a.aa.ay 0 0 0 0 0 0 0 false (bK.mk ([]) ([])) (Ll.mk ([])) (Ll.mk h) (Ll.mk ([]))) none 0 0 A4 h.length Z d4 none 0 0 bG dx O rfl (fun _ _=>bD.nil _ _ _) (by first | exact⟨IQ rfl,IQ rfl⟩ | omega | exact⟨Nat.le_refl _,by omega⟩) aB rfl (bv _ aF) (show h.length≤Z∧h.length≤9223372036854775807 from by omega) (fun x9 h9=>⟨bv _ (P x9 h9).1,(P x9 h9).2⟩) rfl (fun _ _=>bD.nil _ _ _) (by first | exact⟨IQ rfl,IQ rfl⟩ | omega | exact⟨Nat.le_refl _,by omega⟩) (by first | omega | (dsimp only; omega) | (simp only [List.length_nil]; omega) | decide) (by first | assumption | exact dH (by assumption) | exact fun x hx=>absurd hx List.not_mem_nil | exact dH (Mk.lW (by assumption)).1 | exact dH (Mk.kZ (by assumption)).1 | exact dH (Mk.mg (by assumption)).1 | exact dH (Mk.mf (by assumption)).1 | exact dH (Mk.mh (by assumption)).1) bu) ?_
 rintro _ gF ⟨dA,dB,dC,rfl,bH,aH,aI⟩
 have bz:=dz _ _ bH
 have eP:=aA aH
 have eQ:=bz.rowC (i:=1) rfl
 replace aI:bG.bE.ls.length=V.bE.ls.length+1:=aI
 refine WL.nil (Ff (res0 rfl) (WL.nil (Ff (res0 rfl) ?_)))
 have dE:=bz.px [0,1,2,13] [9,10] [11,12]
 obtain⟨rfl,rfl⟩:=fT (hr.symm.trans (show _=(bG,aC.mk a.aa a.bH (Ll.mk a.aB.ls) a.aR a.aN a.aM (dY.mk true M N (Ll.mk Q)) a.aP a.di a.cB a.cZ a.cK a.cO) from et (ai X) (et (iN aQ) (et (iN bE) (et (ip dw) (ai bu))))))
 exact⟨dA,dB,dC,j,l,f,t,u,m,y,z,n,T,U,aP,E,F,r,rfl,dE,aH,g,G,I,Y,K,(by first | omega | (dsimp only; omega))⟩
 refine qt (v:=vP b 25) 12 rfl (fun _ _=>by(try unfold vJ); rw [show ((Int.toNat s:Nat):Int)=4 from by omega]; exact yk) ?_
 have dF:=aG.pf [15]
 refine qe 13 rfl (Do.store (vs:= [.bool true,vU M,vI N, .slice T Q.length U]) (o:=25) dF rfl rfl Tryz.sizeOf81 rfl rfl rfl rfl ?_)
 intro fG dG
 have az:=dG.pb [0,14,15]
 refine⟨.inr ⟨_,az⟩, ?_⟩
 refine qn (ER (EO (Mz rfl (Mz rfl (Mz rfl (Mz rfl (Mz rfl ?_)))))))
 refine WL.do rfl (Fe Tryz.call89 rfl ?_ (fun _ _ k=>k))
 refine cb Tryz.func89 ?_
 refine EO (Mz rfl (Mz rfl (fw (vI (10+s)) (EQ (e:=IntKind.i64.wrap (10+s)) yk (by rw [IR _ (by omega)])) (Mz rfl (Mz rfl (Kz (vP W 0) (Kz (vP W 0) (Lz (vP b 0) az 0 Tryz.isAgg24 (Kz (vP b 0) (Kz (vP b 0) (Kz (vP b 1) (Lz (vU a.aa.ay) az 13 Tryz.isAgg28 (Mz rfl (Mz rfl (Kz (.agg (gN 2 0 (10+s) 0 N 0 M a.aa.ay 0 0 0 0 0 0 0 false ([]) ([]) none 0 0 A4 h.length Z none 0 0).toArray) ?_)))))))))))))))
 obtain⟨aJ,aK⟩:∃ q,dD V (bP.mk 2 0 (10+s) 0 N 0 M a.aa.ay 0 0 0 0 0 0 0 false (bK.mk ([]) ([])) (Ll.mk ([])) (Ll.mk h) (Ll.mk ([])))=q:=⟨_,rfl⟩
 obtain⟨fH,bI,aM,bJ,eT⟩:=FC az
 refine cl Tryz.call65 (fE _ _ W V R S L b (bP.mk 2 0 (10+s) 0 N 0 M a.aa.ay 0 0 0 0 0 0 0 false (bK.mk ([]) ([])) (Ll.mk ([])) (Ll.mk h) (Ll.mk ([]))) none 0 0 A4 h.length Z d4 none 0 0 aJ bI O rfl (fun _ _=>bD.nil _ _ _) (by first | exact⟨IQ rfl,IQ rfl⟩ | omega | exact⟨Nat.le_refl _,by omega⟩) aB rfl (aM _ aF) (show h.length≤Z∧h.length≤9223372036854775807 from by omega) (fun x9 h9=>⟨aM _ (P x9 h9).1,(P x9 h9).2⟩) rfl (fun _ _=>bD.nil _ _ _) (by first | exact⟨IQ rfl,IQ rfl⟩ | omega | exact⟨Nat.le_refl _,by omega⟩) (by first | omega | (dsimp only; omega) | (simp only [List.length_nil]; omega) | decide) (by first | assumption | exact dH (by assumption) | exact fun x hx=>absurd hx List.not_mem_nil | exact dH (Mk.lW (by assumption)).1 | exact dH (Mk.kZ (by assumption)).1 | exact dH (Mk.mg (by assumption)).1 | exact dH (Mk.mf (by assumption)).1 | exact dH (Mk.mh (by assumption)).1) aK) ?_
 rintro _ fI ⟨dI,dJ,dK,rfl,bL,aN,aO⟩
 have bB:=bJ _ _ bL
 have eU:=aA aN
 have eX:=bB.rowC (i:=1) rfl
 replace aO:aJ.bE.ls.length=V.bE.ls.length+1:=aO
 refine WL.nil (Ff (res0 rfl) (WL.nil (Ff (res0 rfl) ?_)))
 have dL:=bB.px [0,1,2,13] [11,12] []
 obtain⟨rfl,rfl⟩:=fT (hr.symm.trans (show _=(aJ,aC.mk a.aa a.bH (Ll.mk a.aB.ls) a.aR a.aN a.aM a.aO (dY.mk true M N (Ll.mk Q)) a.di a.cB a.cZ a.cK a.cO) from et (ai X) (et (iN aQ) (et (iN bE) (et (iN dw) (ai aK))))))
 exact⟨dI,dJ,dK,j,l,f,t,u,m,y,z,n,B,C,p,T,U,aP,rfl,dL,aN,g,G,I,J,Y,(by first | omega | (dsimp only; omega))⟩
def gT (e:Nat) (f:Bool):List Int→List bP→(List bP)
  | [],a=>a
  | c::d,a=>bnd (dD (bQ.mk (Ll.mk a)) (bP.mk 5 0 c 0 0 0 0 0 e 0 0 0 0 0 0 f (bK.mk ([]) ([])) (Ll.mk ([])) (Ll.mk ([])) (Ll.mk ([])))) fun b=>gT e f d b.bE.ls
def fu (a:bQ) (b:Nat) (c:List Int) (d:Bool):bQ:=
 bnd (gT b d c a.bE.ls) fun sLrL=>bQ.mk (Ll.mk sLrL)
set_option maxHeartbeats 1000000 in
theorem kz (w:World) (D:Nat→Prop) (F:Nat) (u:bQ) (l:Option Addr) (m:Nat) (d:List bA) (f:Nat) (h:Nat) (J:Option Addr) (U V:Nat) (c:List Int) (j:Bool) (S:bQ) (H:Own w D w [blk F [.pointer (some ⟨f,0,none⟩), .slice l u.bE.ls.length m] 98,row l u.bE.ls.length m (List.flatMap bA.cells d) 42 21,sepL (List.flatMap bA.own d)]) (n:List.map bA.abs d=u.bE.ls) (G:Ro w D fun w'=>bD w' 1 J U (List.flatMap (eI .i64) c)) (W:U=c.length) (aC:c.length *8≤211106232532992) (aD:u.bE.ls.length+c.length≤1000000) (hr:fu u h c j=S):
    Calls Tryz.prog 27 #[vP F 0,vU h, .slice J U V, .bool j] w (dW fun v w'=> ∃ (B0ox0:Option Addr) (b0ox0:Nat) (e0ox0:List bA),v= .tuple #[]∧Own w D w' [blk F [vP f 0, .slice B0ox0 S.bE.ls.length b0ox0] 98,row B0ox0 S.bE.ls.length b0ox0 (List.flatMap bA.cells e0ox0) 42 21,sepL (List.flatMap bA.own e0ox0)]∧(List.map bA.abs e0ox0=S.bE.ls)):=by
 subst W
 have T:=aA n
 have X:=H.rowC (i:=1) rfl
 refine cb Tryz.func27 ?_
 refine sr (Mz rfl (Kz (vJ c.length) (Mn rfl (bo ?_))))
 have Y:=H.pf []
 obtain⟨Z,o⟩:=zZ fun(a:Nat) (p:Option Addr) (r:Nat) (g:List bA) (b:List bP) (w':World)=>Own w D w' [blk F [vP f 0, .slice p b.length r] 98,row p b.length r (List.flatMap bA.cells g) 42 21,sepL (List.flatMap bA.own g)]∧List.map bA.abs g=b∧a≤c.length∧b.length=u.bE.ls.length+a∧b.length≤u.bE.ls.length+a∧gT h j c u.bE.ls=gT h j (List.drop a c) b
 refine Wp.loop (fun i:Nat × (Option Addr) × Nat × (List bA) × (List bP)=> [(12,vJ i.1),(11,vJ c.length),(10, .slice J c.length V),(0,vP F 0),(1,vU h),(3, .bool j)]) Z (fun i=>c.length - i.1) (0,l,m,d,u.bE.ls) ⟨rfl,rfl,rfl,rfl,rfl,rfl,trivial⟩ (o.2 ⟨Y,by exact n,by omega,by omega,by omega,rfl⟩) ?_
 rintro ⟨a,p,r,g,b⟩ aF K
 show Wp _ _ _ [(12,vJ a),(11,vJ c.length),(10, .slice J c.length V),(0,vP F 0),(1,vU h),(3, .bool j)] _ _
 obtain⟨s,t,aj,ak,au,z⟩:=o.1 K
 have av:=aA t
 refine sr (Kz (.bool (decide (((a:Nat):Int) < ((c.length:Nat):Int)))) (nt (EP ?_)))
 by_cases L:((a:Nat):Int) < ((c.length:Nat):Int)
 obtain⟨y,A⟩:=dK (ls:=c) (i:=a) iJ (by decide) (s.ro G) (by first | omega | (simp; done) | (simp; omega))
 have M:=drop_at A
 refine jT (dT L) (sk (EP (bo (sr (fw (.pointer (some ⟨ab J,ao J+a *1,none⟩)) (ET (mQ) rfl rfl ((s.ro G).addr (i:=a) (by omega)) (by omega)) (fw (vI y) (EY rfl (bZ.one Tryz.isAgg3 (((s.ro G).elem iJ A (by decide)).at_ (k:=0) rfl))) (An rfl (EO (Mz rfl (Mz rfl (Mz rfl (Mz rfl (Kz (.agg (gN 5 0 y 0 0 0 0 0 h 0 0 0 0 0 0 j ([]) ([]) none 0 0 none 0 0 none 0 0).toArray) ?_)))))))))))))
 obtain⟨I,B⟩:∃ q,dD (bQ.mk (Ll.mk b)) (bP.mk 5 0 y 0 0 0 0 0 h 0 0 0 0 0 0 j (bK.mk ([]) ([])) (Ll.mk ([])) (Ll.mk ([])) (Ll.mk ([])))=q:=⟨_,rfl⟩
 obtain⟨aG,N,ax,O,ay⟩:=FC s
 refine cl Tryz.call65 (fE _ _ F (bQ.mk (Ll.mk b)) p r g f (bP.mk 5 0 y 0 0 0 0 0 h 0 0 0 0 0 0 j (bK.mk ([]) ([])) (Ll.mk ([])) (Ll.mk ([])) (Ll.mk ([]))) none 0 0 none 0 0 [] none 0 0 I N t rfl (fun _ _=>bD.nil _ _ _) (by first | exact⟨IQ rfl,IQ rfl⟩ | omega | exact⟨Nat.le_refl _,by omega⟩) rfl rfl (fun _ _=>bD.nil _ _ _) (by first | exact⟨IQ rfl,IQ rfl⟩ | omega | exact⟨Nat.le_refl _,by omega⟩) (fun _ h9=>absurd h9 List.not_mem_nil) rfl (fun _ _=>bD.nil _ _ _) (by first | exact⟨IQ rfl,IQ rfl⟩ | omega | exact⟨Nat.le_refl _,by omega⟩) (by first | omega | (dsimp only; omega) | (simp only [List.length_nil]; omega) | decide) (by first | assumption | exact dH (by assumption) | exact fun x hx=>absurd hx List.not_mem_nil | exact dH (Mk.lW (by assumption)).1 | exact dH (Mk.kZ (by assumption)).1 | exact dH (Mk.mg (by assumption)).1 | exact dH (Mk.mf (by assumption)).1 | exact dH (Mk.mh (by assumption)).1) B) ?_
 rintro _ aI ⟨aa,ae,af,rfl,P,C,E⟩
 have Q:=O _ _ P
 have az:=aA C
 have aB:=Q.rowC (i:=1) rfl
 replace E:I.bE.ls.length=b.length+1:=E
 refine WL.nil (bN (ER (EO (fw (vJ (a+1)) (EQ (e:=IntKind.i64.wrap (((a:Nat):Int)+1)) yk (by rw [IR _ (by omega)]; omega)) (Mz rfl (WL.nil ?_))))))
 have ag:=Q.pf []
 exact E8 (a+1,aa,ae,af,I.bE.ls) ⟨rfl,rfl,rfl,rfl,rfl,rfl,trivial⟩ (o.2 ⟨ag,by exact C,by omega,by omega,by omega,et (z) (et (congrArg (fun q=>gT h j q b) M) (ai B))⟩) (by show c.length - (a+1) < c.length - a; omega)
 refine jF (dF L) (Wp.exit (EX ?_))
 have R:gT h j c u.bE.ls=b:=et (z) (et (congrArg (fun q=>gT h j q b) (eD (ls:=c) (i:=a) (by omega))) rfl)
 refine EX (Fg (Ff (res0 rfl) ?_))
 have ah:=s.pf []
 obtain rfl:_=bQ.mk (Ll.mk b):=hr.symm.trans (ai R)
 exact⟨p,r,g,rfl,ah,t⟩
theorem BH (a:Nat) (b:Bool):∀ (l:List Int) (o:List bP),List.length (gT a b l o)=o.length+l.length
  | [],o=>rfl
  | x::q,o=>by
    simp only [gT,bnd]
    rw [BH a b q]
    simp only [dD,bnd,List.length_append,List.length_cons,List.length_nil]; omega
theorem xu {a:bQ} {c:Nat} {l:List Int} {b:Bool} {r:bQ} (h:fu a c l b=r):r.bE.ls.length=a.bE.ls.length+l.length:=by
 rw [← h]; exact BH c b l _
end Go.Proofs.YtbkagebjhbphaaaGreat
