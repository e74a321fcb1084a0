/-
 coord: what it answers.
-/
import Derived.Test.YtbkagebjhbphaaaGreatCoM
import Derived.Test.YtbkagebjhbphaaaGreatRc
import Derived.Test.YtbkagebjhbphaaaGreatWc
import Derived.Test.YtbkagebjhbphaaaGreatOc
import Derived.Test.YtbkagebjhbphaaaGreatGc
namespace Go.Proofs.YtbkagebjhbphaaaGreat
open Int renaming toNat→D0
open IntKind renaming i64→C5,u64→D1
open List renaming flatMap→q3,getD→C0,length→r8,length_map→s3,map→s5,mem_of_getElem?→D3,not_mem_nil→y6
open Ll renaming mk→E2
open _root_.Go.Proofs.Tryz renaming call65→P6,call89→P4,func89→P5,isAgg24→P3,isAgg28→D4,prog→v8,sizeOf81→P7
open WL renaming nil→C6
set_option maxRecDepth 100000
open Go.RowKit
set_option linter.unusedVariables false
set_option linter.unusedSectionVars false
set_option linter.unusedSimpArgs false
def fT (a:aA):Nat:=
 D0 (D1.wrap (((D0 (D1.wrap (((eU a.aa.av 32:Nat):Int)+((a.bP:Nat):Int))):Nat):Int)+1))
theorem qP (w D x) (a:aA) (b c d f g h i j k l n o p q r s t u z) (H:Own w D w [mK x a b a.aa.ag.ls.length c d f g h i j k l n o p q r s t u]) (hr:fT a=z):
    Calls v8 126 #[vP x 0] w (d9 fun v w'=>v=vU z∧Own w D w' [mK x a b a.aa.ag.ls.length c d f g h i j k l n o p q r s t u]∧(z≤18446744073709551615)):=by
 refine cb Tryz.func126 ?_
 refine sr (An rfl (Ic ?_))
 have y:=H.drew
 refine Ji [] (fun W=> ∃ L',Own w D W ([mK x a b a.aa.ag.ls.length c d f g h i j k l n o p q r s t u]++L')) e7 e7 (Iu IC) ⟨_,y⟩ ?_
 revert y
 generalize World.drew w=C
 intro y
 refine qv 0 rfl rfl (qp x 0 1 rfl (qp x 0 2 rfl (qp x 1 3 rfl (ql 4 rfl 0 D4 rfl rfl rfl ?_))))
 have B:eU a.aa.av 32≤18446744073709551615:=nZ _ _
 refine qt (v:=vU (eU a.aa.av 32)) 5 rfl (fun _ _=>Ie (Jv (m:=32) rfl rfl) (fD _)) (qv 6 rfl rfl (qp x 0 7 rfl (qp x 7 8 rfl (ql 9 rfl 0 D4 rfl rfl rfl (qt (v:= .int .u64 ((D0 (D1.wrap (((eU a.aa.av 32:Nat):Int)+((a.bP:Nat):Int))):Nat):Int)) 10 rfl (fun _ _=>Ie (e:=D1.wrap (((eU a.aa.av 32:Nat):Int)+((a.bP:Nat):Int))) yk (fD _)) (qt (v:= .int .u64 ((D0 (D1.wrap (((D0 (D1.wrap (((eU a.aa.av 32:Nat):Int)+((a.bP:Nat):Int))):Nat):Int)+1)):Nat):Int)) 11 rfl (fun _ _=>Ie (e:=D1.wrap (((D0 (D1.wrap (((eU a.aa.av 32:Nat):Int)+((a.bP:Nat):Int))):Nat):Int)+1)) yk (fD _)) (qa 12 rfl rfl (qn (Ig (rt (rs ?_)))))))))))
 have A:=y.pf []
 obtain rfl:_=D0 (D1.wrap (((D0 (D1.wrap (((eU a.aa.av 32:Nat):Int)+((a.bP:Nat):Int))):Nat):Int)+1)):=hr.symm.trans rfl
 exact⟨rfl,A,(by first | exact mh _ | omega)⟩
def il (b:aA):Nat:=
 bnd (fT b) fun a=>bnd (if((b.ay.ls.length:Nat):Int) > 0 then bnd (C0 b.ay.ls 0 default) fun c=>min a c.aR else a) fun sJrbJ=>if((b.aa.aj.ls.length:Nat):Int) > 0 then bnd (C0 b.aa.aj.ls 0 default) fun d=>min sJrbJ d.aN else sJrbJ
set_option maxHeartbeats 4000000 in
theorem o9 (w D p) (d:aA) (y z a f B C E b g F G I J K L M N O P Q r0) (H:Own w D w [mK p d y d.aa.ag.ls.length z a f C E b g G I J K L M N O P Q]) (R:s5 aC.abs B=d.aa.aj.ls) (r:Ro w D fun w'=>bE w' 5 a d.aa.aj.ls.length (q3 aC.cells B)) (aF:d.aa.aj.ls.length≤f∧d.aa.aj.ls.length≤9223372036854775807) (af:∀ x ∈ B,Ro w D (fun w'=>bE w' 1 x.au.A x.au.ls.length (q3 (eI .i64) x.au.ls))∧(x.au.ls.length≤x.au.c∧x.au.ls.length≤9223372036854775807)) (S:s5 bB.abs F=d.ay.ls) (s:Ro w D fun w'=>bE w' 9 b d.ay.ls.length (q3 bB.cells F)) (aG:d.ay.ls.length≤g∧d.ay.ls.length≤9223372036854775807) (m:∀ x ∈ F,Ro w D (fun w'=>bE w' 6 x.bV.A x.bV.ls.length (q3 bi.cells x.bV.ls))∧(x.bV.ls.length≤x.bV.c∧x.bV.ls.length≤9223372036854775807)∧Ro w D (fun w'=>bE w' 3 x.aG.A x.aG.ls.length (q3 bG.cells x.aG.ls))∧(x.aG.ls.length≤x.aG.c∧x.aG.ls.length≤9223372036854775807)∧(∀ j ∈ x.aG.ls,Ro w D (fun w'=>bE w' 6 j.aH.A j.aH.ls.length (q3 bi.cells j.aH.ls))∧(j.aH.ls.length≤j.aH.c∧j.aH.ls.length≤9223372036854775807)∧Ro w D (fun w'=>bE w' 1 j.aJ.A j.aJ.ls.length (q3 (eI .i64) j.aJ.ls))∧(j.aJ.ls.length≤j.aJ.c∧j.aJ.ls.length≤9223372036854775807))∧Ro w D (fun w'=>bE w' 1 x.bD.A x.bD.ls.length (q3 eL x.bD.ls))∧(x.bD.ls.length≤x.bD.c∧x.bD.ls.length≤9223372036854775807)∧Ro w D (fun w'=>bE w' 1 x.af.A x.af.ls.length (q3 (IX (β:=ae)) x.af.ls))∧(x.af.ls.length≤x.af.c∧x.af.ls.length≤9223372036854775807)∧(∀ j ∈ x.af.ls,Ro w D (fun w'=>bE w' 3 j.A j.ls.length (q3 ae.cells j.ls))∧(j.ls.length≤j.c∧j.ls.length≤9223372036854775807)∧(∀ y2 ∈ j.ls,Ro w D (fun w'=>bE w' 2 y2.ak.A y2.ak.ls.length (q3 aI.cells y2.ak.ls))∧(y2.ak.ls.length≤y2.ak.c∧y2.ak.ls.length≤9223372036854775807)))) (aY:d.aa.ag.ls.length≤1000∧d.aa.aj.ls.length≤1000∧d.aa.aF.ls.length≤1000∧d.ay.ls.length≤1000) (hr:il d=r0):
    Calls v8 108 #[vP p 0] w (d9 fun v w'=>v=vU r0∧Own w D w' [mK p d y d.aa.ag.ls.length z a f C E b g G I J K L M N O P Q]):=by
 have az:=aB R
 have aD:=aB S
 refine cb Tryz.func108 ?_
 refine sr (Ar rfl (Mz rfl ?_))
 obtain⟨h,T⟩:∃ q,fT d=q:=⟨_,rfl⟩
 obtain⟨aZ,ai,aO,aj,aP⟩:=II H
 refine cl Tryz.call126 (qP _ _ p d y z a f C E b g G I J K L M N O P Q h ai T) ?_
 rintro _ bf ⟨rfl,ak,Z⟩
 have t:=aj _ _ ak
 replace Z:h≤18446744073709551615:=Z
 refine An rfl (Ic (sr (Mz rfl (Kz (vP p 0) (Kz (vP p 8) (Lz (.slice b d.ay.ls.length g) t 0 Tryz.isAgg79 (Kz (vJ d.ay.ls.length) (Kz (.bool (decide (((d.ay.ls.length:Nat):Int) > 0))) (nt ?_)))))))))
 obtain⟨aH,U⟩:=nQ fun (n:Nat) w'=>Own w D w' [mK p d y d.aa.ag.ls.length z a f C E b g G I J K L M N O P Q]∧n≤h∧(if((d.ay.ls.length:Nat):Int) > 0 then bnd (C0 d.ay.ls 0 default) fun au=>min h au.aR else h)=n
 refine IZ (fun i:Nat=> [(3,vU i),(2, .int .u64 0),(0,vP p 0)]) aH ?_ ?_
 by_cases X:((d.ay.ls.length:Nat):Int) > 0
 refine jT (dT X) (Ib (Mz rfl (Mz rfl (Kz (vP p 0) (Kz (vP p 8) (Lz (.slice b d.ay.ls.length g) t 0 Tryz.isAgg79 ?_))))))
 obtain⟨o,l⟩:=dN (ls:=F) (i:=0) bB.len f4 (t.ro s) e9
 have av:=fF S l
 have aQ:=(m _ (D3 l)).2.1
 have aR:=(m _ (D3 l)).2.2.2.1
 have aS:r8 (s5 bG.abs o.aG.ls)=o.aG.ls.length:=s3 ..
 have aT:=(m _ (D3 l)).2.2.2.2.2.2.1
 have aU:=(m _ (D3 l)).2.2.2.2.2.2.2.2.1
 have aV:r8 (s5 bO.abs o.af.ls)=o.af.ls.length:=s3 ..
 refine fw (.pointer (some ⟨ab b,ao b+0 *9,none⟩)) (Ij (qh) rfl rfl ((t.ro s).addr (i:=0) e6) e6) (Kz (.pointer (some ⟨ab b,ao b+0 *9,none⟩)) (fw (vU o.aR) (Io rfl (bZ.one D4 (((t.ro s).elem bB.len l f4).at_ (k:=0) rfl))) (fw (vU (min h o.aR)) (Ie (e:=if((o.aR:Nat):Int) < ((h:Nat):Int) then((o.aR:Nat):Int) else((h:Nat):Int)) yk e6) (Az rfl (C6 ?_)))))
 have aJ:=t.pf []
 exact IQ (min h o.aR) ⟨rfl,rfl,rfl,trivial⟩ (U.2 ⟨aJ,e6,et (ip X) (ah (bJ av))⟩)
 refine jF (dF X) (IE ?_)
 have aK:=t.pf []
 exact IQ h ⟨rfl,rfl,rfl,trivial⟩ (U.2 ⟨aK,e6,iN X⟩)
 rintro n bg ax
 obtain⟨u,aW,aa⟩:=U.1 ax
 refine Ic (sr (Mz rfl (Kz (vP p 0) (Kz (vP p 0) (Kz (vP p 5) (Lz (.slice a d.aa.aj.ls.length f) u 0 Tryz.isAgg30 (Kz (vJ d.aa.aj.ls.length) (Kz (.bool (decide (((d.aa.aj.ls.length:Nat):Int) > 0))) (nt ?_)))))))))
 by_cases Y:((d.aa.aj.ls.length:Nat):Int) > 0
 refine jT (dT Y) (Ib (Mz rfl (Mz rfl (Kz (vP p 0) (Kz (vP p 0) (Kz (vP p 5) (Lz (.slice a d.aa.aj.ls.length f) u 0 Tryz.isAgg30 ?_)))))))
 obtain⟨V,W⟩:=dN (ls:=B) (i:=0) aC.len f4 (u.ro r) e9
 have ay:=fF R W
 have aX:=(af _ (D3 W)).2
 refine fw (.pointer (some ⟨ab a,ao a+0 *5,none⟩)) (Ij (kW) rfl rfl ((u.ro r).addr (i:=0) e6) e6) (Kz (.pointer (some ⟨ab a,ao a+0 *5,none⟩)) (fw (vU V.aN) (Io rfl (bZ.one D4 (((u.ro r).elem aC.len W f4).at_ (k:=0) rfl))) (fw (vU (min n V.aN)) (Ie (e:=if((V.aN:Nat):Int) < ((n:Nat):Int) then((V.aN:Nat):Int) else((n:Nat):Int)) yk e6) (Ar rfl (Mz rfl (An rfl (rt (rs ?_))))))))
 have aL:=u.pf []
 obtain rfl:_=min n V.aN:=hr.symm.trans (et (ah T) (et (ah aa) (et (ip Y) (ah (bJ ay)))))
 exact⟨rfl,aL⟩
 refine jF (dF Y) (sk (sr (Mz rfl (An rfl (rt (rs ?_))))))
 have aM:=u.pf []
 obtain rfl:_=n:=hr.symm.trans (et (ah T) (et (ah aa) (iN Y)))
 exact⟨rfl,aM⟩
def dW (f:bI) (d:Int) (p2:bL) (a:aA):List eD→Unit ⊕ bI
  | []=>Sum.inl ()
  | b::c=>if b.aK=d then if((b.av:Nat):Int)=((p2.av:Nat):Int) then if((b.aP:Nat):Int)=((p2.aP:Nat):Int) then bnd (dw f (bL.mk 2 0 (C5.wrap (10+d)) 0 1 0 p2.aP a.aa.av 0 0 0 0 0 0 0 false (bC.mk ([]) ([])) (E2 ([])) (E2 b.ai.ls) (E2 ([])))) fun e=>Sum.inr (e) else dW f d p2 a c else dW f d p2 a c else dW f d p2 a c
def kZ (c:bI) (d:Int) (p2:bL) (a:aA):bI:=
 lp (dW c d p2 a a.aa.aF.ls) fun _=>bnd (dw c (bL.mk 2 0 (C5.wrap (10+d)) 0 2 0 p2.aP a.aa.av 0 0 0 0 0 0 0 false (bC.mk ([]) ([])) (E2 ([])) (E2 ([])) (E2 ([])))) fun b=>b
set_option maxHeartbeats 4000000 in
theorem uA (w D g0) (J:bI) (K L F I) (p2:bL) (au aQ av ax aR ay aF az aS aC d) (a:aA) (N O P Q g h o R S p r T s t U u y V z B W C E X) (r0:bI) (H:Own w D w [blk g0 [.pointer (some ⟨d,0,none⟩), .slice K J.aX.ls.length L] 98,row K J.aX.ls.length L (q3 bf.cells F) 42 21,sepL (q3 bf.own F),mK d a N a.aa.ag.ls.length O P Q g h R S p r s t u y z B C E]) (ag:s5 bf.abs F=J.aX.ls) (bu:aQ=p2.aH.ls.length) (dL:Ro w D fun w'=>bE w' 6 au p2.aH.ls.length (q3 bi.cells p2.aH.ls)) (dO:p2.aH.ls.length≤av∧p2.aH.ls.length≤9223372036854775807) (bv:s5 ae.abs aF=p2.ai.ls) (bz:aR=p2.ai.ls.length) (dP:Ro w D fun w'=>bE w' 3 ax p2.ai.ls.length (q3 ae.cells aF)) (dQ:p2.ai.ls.length≤ay∧p2.ai.ls.length≤9223372036854775807) (dR:∀ x ∈ aF,Ro w D (fun w'=>bE w' 2 x.ak.A x.ak.ls.length (q3 aI.cells x.ak.ls))∧(x.ak.ls.length≤x.ak.c∧x.ak.ls.length≤9223372036854775807)) (bA:aS=p2.ag.ls.length) (dU:Ro w D fun w'=>bE w' 2 az p2.ag.ls.length (q3 aY.cells p2.ag.ls)) (dX:p2.ag.ls.length≤aC∧p2.ag.ls.length≤9223372036854775807) (Y:s5 aU.abs o=a.aa.aF.ls) (G:Ro w D fun w'=>bE w' 4 g a.aa.aF.ls.length (q3 aU.cells o)) (bS:a.aa.aF.ls.length≤h∧a.aa.aF.ls.length≤9223372036854775807) (m:∀ x ∈ o,Ro w D (fun w'=>bE w' 3 x.ai.A x.ai.ls.length (q3 ae.cells x.ai.ls))∧(x.ai.ls.length≤x.ai.c∧x.ai.ls.length≤9223372036854775807)∧(∀ y1 ∈ x.ai.ls,Ro w D (fun w'=>bE w' 2 y1.ak.A y1.ak.ls.length (q3 aI.cells y1.ak.ls))∧(y1.ak.ls.length≤y1.ak.c∧y1.ak.ls.length≤9223372036854775807))) (aG:s5 ae.abs T=a.bK.af.ls) (bT:Ro w D fun w'=>bE w' 3 p a.bK.af.ls.length (q3 ae.cells T)) (bU:a.bK.af.ls.length≤r∧a.bK.af.ls.length≤9223372036854775807) (bV:∀ x ∈ T,Ro w D (fun w'=>bE w' 2 x.ak.A x.ak.ls.length (q3 aI.cells x.ak.ls))∧(x.ak.ls.length≤x.ak.c∧x.ak.ls.length≤9223372036854775807)) (aH:s5 ae.abs U=a.bA.af.ls) (bW:Ro w D fun w'=>bE w' 3 s a.bA.af.ls.length (q3 ae.cells U)) (bX:a.bA.af.ls.length≤t∧a.bA.af.ls.length≤9223372036854775807) (bY:∀ x ∈ U,Ro w D (fun w'=>bE w' 2 x.ak.A x.ak.ls.length (q3 aI.cells x.ak.ls))∧(x.ak.ls.length≤x.ak.c∧x.ak.ls.length≤9223372036854775807)) (aJ:s5 ae.abs V=a.bz.af.ls) (bZ:Ro w D fun w'=>bE w' 3 u a.bz.af.ls.length (q3 ae.cells V)) (cu:a.bz.af.ls.length≤y∧a.bz.af.ls.length≤9223372036854775807) (cz:∀ x ∈ V,Ro w D (fun w'=>bE w' 2 x.ak.A x.ak.ls.length (q3 aI.cells x.ak.ls))∧(x.ak.ls.length≤x.ak.c∧x.ak.ls.length≤9223372036854775807)) (aK:s5 ae.abs W=a.bv.af.ls) (cB:Ro w D fun w'=>bE w' 3 z a.bv.af.ls.length (q3 ae.cells W)) (cK:a.bv.af.ls.length≤B∧a.bv.af.ls.length≤9223372036854775807) (cO:∀ x ∈ W,Ro w D (fun w'=>bE w' 2 x.ak.A x.ak.ls.length (q3 aI.cells x.ak.ls))∧(x.ak.ls.length≤x.ak.c∧x.ak.ls.length≤9223372036854775807)) (aL:s5 ae.abs X=a.bq.af.ls) (cZ:Ro w D fun w'=>bE w' 3 C a.bq.af.ls.length (q3 ae.cells X)) (df:a.bq.af.ls.length≤E∧a.bq.af.ls.length≤9223372036854775807) (dh:∀ x ∈ X,Ro w D (fun w'=>bE w' 2 x.ak.A x.ak.ls.length (q3 aI.cells x.ak.ls))∧(x.ak.ls.length≤x.ak.c∧x.ak.ls.length≤9223372036854775807)) (fK:a.aa.ag.ls.length≤1000∧a.aa.aj.ls.length≤1000∧a.aa.aF.ls.length≤1000∧a.ay.ls.length≤1000∧J.aX.ls.length≤100000) (fM:Mk a) (hr:kZ J I p2 a=r0):
    Calls v8 86 #[vP g0 0,vI I, .agg (gU p2.aD p2.aJ p2.fI p2.aK p2.dz p2.eH p2.aP p2.av p2.aN p2.dY p2.aV p2.aL p2.dL p2.cu p2.xN p2.cz p2.bU.bF p2.bU.bT au aQ av ax aR ay az aS aC).toArray] w (d9 fun v w'=> ∃ aM aN ai,v= .tuple #[]∧Own w D w' [blk g0 [vP d 0, .slice aM r0.aX.ls.length aN] 98,row aM r0.aX.ls.length aN (q3 bf.cells ai) 42 21,sepL (q3 bf.own ai),mK d a N a.aa.ag.ls.length O P Q g h R S p r s t u y z B C E]∧(s5 bf.abs ai=r0.aX.ls)):=by
 subst bu bz bA
 have dJ:=aB ag
 have dK:=aB bv
 have bH:=aB Y
 have bJ:=aB aG
 have bK:=aB aH
 have bM:=aB aJ
 have bO:=aB aK
 have bP:=aB aL
 have dY:=H.rowC (i:=1) rfl
 refine cb Tryz.func86 ?_
 refine sr ?_
 refine dV (iH p2 au av ax ay az aC) 42 H ?_
 intro aj fO bB
 refine nt (Ic (sr (Mz rfl (Kz (vP g0 0) (Kz (vP g0 0) (Lz (vP d 0) bB 1 P3 (Kz (vP d 0) (Kz (vP d 0) (Kz (vP d 6) (Lz (.slice g a.aa.aF.ls.length h) bB 4 Tryz.isAgg31 (Kz (vJ a.aa.aF.ls.length) (Mn rfl (bo ?_)))))))))))))
 have dZ:=bB.pf []
 obtain⟨ed,Z⟩:=nQ fun (f:Nat) w'=>Own w D w' [blk aj (iH p2 au av ax ay az aC) 42,blk g0 [vP d 0, .slice K J.aX.ls.length L] 98,row K J.aX.ls.length L (q3 bf.cells F) 42 21,sepL (q3 bf.own F),mK d a N a.aa.ag.ls.length O P Q g h R S p r s t u y z B C E]∧f≤a.aa.aF.ls.length∧dW J I p2 a a.aa.aF.ls=dW J I p2 a (List.drop f a.aa.aF.ls)
 refine Wp.loop (fun i:Nat=> [(17,vJ i),(16,vJ a.aa.aF.ls.length),(15, .slice g a.aa.aF.ls.length h),(5,vP aj 0),(0,vP g0 0),(1,vI I)]) ed (fun i=>a.aa.aF.ls.length - i) 0 ⟨rfl,rfl,rfl,rfl,rfl,rfl,trivial⟩ (Z.2 ⟨dZ,e6,rfl⟩) ?_
 rintro f fP di
 obtain⟨aa,eZ,af⟩:=Z.1 di
 refine sr (Kz (.bool (decide (((f:Nat):Int) < ((a.aa.aF.ls.length:Nat):Int)))) (nt (Ic ?_)))
 by_cases dm:((f:Nat):Int) < ((a.aa.aF.ls.length:Nat):Int)
 obtain⟨b,M⟩:=dN (ls:=o) (i:=f) aU.len f4 (aa.ro G) e9
 have aT:=fF Y M
 have fe:=(m _ (D3 M)).2.1
 have fo:r8 (s5 ae.abs b.ai.ls)=b.ai.ls.length:=s3 ..
 have dn:nI (s5 ae.abs b.ai.ls):=EW f5 aT
 have fq:b.ai.ls.length≤1000:=by have q9:=dn.1; rw [s3] at q9; exact q9
 have aD:=drop_at aT
 refine jT (dT dm) (sk (Ic (bo (sr (fw (.pointer (some ⟨ab g,ao g+f *4,none⟩)) (Ij (l6) rfl rfl ((aa.ro G).addr (i:=f) e6) e6) (fw (.agg (aU.cells b).toArray) (Io rfl (Iy (cs:=(aU.cells b)) Tryz.isAgg56 Tryz.sizeOf56 ((aa.ro G).elem aU.len M f4))) ?_))))))
 refine dV [vI 0, .int .u64 0, .int .u64 0, .slice none 0 0] 56 aa ?_
 intro aO fQ ek
 refine dS (aU.cells b) 0 ek Tryz.sizeOf56 ?_
 intro fT n
 refine ns (Kz (vP aO 0) (Lz (vI b.aK) n 0 Tryz.isAgg3 (Mz rfl (Kz (.bool (decide (b.aK=I))) (Mz rfl ?_)))))
 by_cases j:b.aK=I
 refine Gz (vP aO 1) (dT j) (Gl (vU b.av) (dT j) n 0 D4 (Gz (vP aj 7) (dT j) (Gl (vU p2.av) (dT j) n 1 D4 (Gz (.bool (decide (((b.av:Nat):Int)=((p2.av:Nat):Int)))) (dT j) (fw (.bool (decide (((b.av:Nat):Int)=((p2.av:Nat):Int)))) (Iw rfl (dT j) rfl) (Mz rfl ?_))))))
 by_cases l:((b.av:Nat):Int)=((p2.av:Nat):Int)
 refine Gz (vP aO 2) (dT l) (Gl (vU b.aP) (dT l) n 0 D4 (Gz (vP aj 6) (dT l) (Gl (vU p2.aP) (dT l) n 1 D4 (Gz (.bool (decide (((b.aP:Nat):Int)=((p2.aP:Nat):Int)))) (dT l) (fw (.bool (decide (((b.aP:Nat):Int)=((p2.aP:Nat):Int)))) (Iw rfl (dT l) rfl) (nt ?_))))))
 by_cases aP:((b.aP:Nat):Int)=((p2.aP:Nat):Int)
 refine jT (dT aP) (sr (Mz rfl (Mz rfl (Kz (vP aj 6) (Lz (vU p2.aP) n 1 D4 (Kz (vP aO 3) (Lz (.slice b.ai.A b.ai.ls.length b.ai.c) n 0 Tryz.isAgg40 ?_)))))))
 refine WL.do rfl (Iz P4 rfl ?_ (fun _ _ k=>k))
 refine cb P5 ?_
 refine Ib (Mz rfl (Mz rfl (Kz (vI (C5.wrap (10+I))) (Mz rfl (Mz rfl (Kz (vP g0 0) (Kz (vP g0 0) (Lz (vP d 0) n 2 P3 (Kz (vP d 0) (Kz (vP d 0) (Kz (vP d 1) (Lz (vU a.aa.av) n 5 D4 (Mz rfl (Mz rfl (Kz (.agg (gU 2 0 (C5.wrap (10+I)) 0 1 0 p2.aP a.aa.av 0 0 0 0 0 0 0 false ([]) ([]) none 0 0 b.ai.A b.ai.ls.length b.ai.c none 0 0).toArray) ?_)))))))))))))))
 have eu:=n.pb [0,1,5]
 obtain⟨bD,aV⟩:∃ q,dw J (bL.mk 2 0 (C5.wrap (10+I)) 0 1 0 p2.aP a.aa.av 0 0 0 0 0 0 0 false (bC.mk ([]) ([])) (E2 ([])) (E2 (s5 ae.abs b.ai.ls)) (E2 ([])))=q:=⟨_,rfl⟩
 obtain⟨fU,dx,aW,dz,fA⟩:=IU eu
 refine cl P6 (gp _ _ g0 J K L F d (bL.mk 2 0 (C5.wrap (10+I)) 0 1 0 p2.aP a.aa.av 0 0 0 0 0 0 0 false (bC.mk ([]) ([])) (E2 ([])) (E2 (s5 ae.abs b.ai.ls)) (E2 ([]))) none 0 0 b.ai.A b.ai.ls.length b.ai.c b.ai.ls none 0 0 bD dx ag rfl (fun _ _=>bE.nil _ _ _) f2 (rfl:s5 ae.abs b.ai.ls=s5 ae.abs b.ai.ls) f1 (fun w9 h9=>qg (aB (rfl:s5 ae.abs b.ai.ls=s5 ae.abs b.ai.ls)) ((aW _ (m _ (D3 M)).1) w9 h9)) (show r8 (s5 ae.abs b.ai.ls)≤b.ai.c∧r8 (s5 ae.abs b.ai.ls)≤9223372036854775807 from by omega) (fun x9 h9=>⟨aW _ ((m _ (D3 M)).2.2 x9 h9).1,((m _ (D3 M)).2.2 x9 h9).2⟩) rfl (fun _ _=>bE.nil _ _ _) f2 e8 (by first | assumption | exact dM f5 | exact fun x hx=>absurd hx y6 | exact dM (Mk.mU f5).1 | exact dM (Mk.lT f5).1 | exact dM (Mk.nu f5).1 | exact dM (Mk.ny f5).1 | exact dM (Mk.nz f5).1) aV) ?_
 rintro _ fZ ⟨eB,eD,eF,rfl,dA,aX,aZ⟩
 have dB:=dz _ _ dA
 have fD:=aB aX
 have fE:=dB.rowC (i:=1) rfl
 replace aZ:bD.aX.ls.length=J.aX.ls.length+1:=aZ
 refine C6 (IA (res0 rfl) (nt (rt (bR (tR (tR (bR (tR (Fin.res (res0 rfl) ?_)))))))))
 have eG:=dB.pk [0,1,2,5]
 obtain rfl:_=bD:=hr.symm.trans (jm (et (af) (et (congrArg (fun q=>dW J I p2 a q) aD) (et (ip j) (et (ip l) (et (ip aP) (ah aV)))))))
 exact⟨eB,eD,eF,rfl,eG,aX⟩
 refine jF (dF aP) (IE (bN (Ig (Ib (fw (vJ (f+1)) (Ie (e:=C5.wrap (((f:Nat):Int)+1)) yk f0) (Mz rfl (C6 ?_)))))))
 have eH:=n.px [] [0] []
 exact Ir (f+1) ⟨rfl,rfl,rfl,rfl,rfl,rfl,trivial⟩ (Z.2 ⟨eH,e6,et (af) (et (congrArg (fun q=>dW J I p2 a q) aD) (et (ip j) (et (ip l) (iN aP))))⟩) (by show a.aa.aF.ls.length - (f+1) < a.aa.aF.ls.length - f; omega)
 refine Sz (dF l) (Sz (dF l) (Sz (dF l) (Sz (dF l) (Sz (dF l) (fw (.bool false) (Ih rfl (dF l) rfl) (nt (jf (IE (bN (Ig (Ib (fw (vJ (f+1)) (Ie (e:=C5.wrap (((f:Nat):Int)+1)) yk f0) (Mz rfl (C6 ?_))))))))))))))
 have eO:=n.px [] [0] []
 exact Ir (f+1) ⟨rfl,rfl,rfl,rfl,rfl,rfl,trivial⟩ (Z.2 ⟨eO,e6,et (af) (et (congrArg (fun q=>dW J I p2 a q) aD) (et (ip j) (iN l)))⟩) (by show a.aa.aF.ls.length - (f+1) < a.aa.aF.ls.length - f; omega)
 refine Sz (dF j) (Sz (dF j) (Sz (dF j) (Sz (dF j) (Sz (dF j) (fw (.bool false) (Ih rfl (dF j) rfl) (Mz rfl (Sz rfl (Sz rfl (Sz rfl (Sz rfl (Sz rfl (fw (.bool false) (Ih rfl rfl rfl) (nt (jf (IE (bN (Ig (Ib (fw (vJ (f+1)) (Ie (e:=C5.wrap (((f:Nat):Int)+1)) yk f0) (Mz rfl (C6 ?_)))))))))))))))))))))
 have eP:=n.px [] [0] []
 exact Ir (f+1) ⟨rfl,rfl,rfl,rfl,rfl,rfl,trivial⟩ (Z.2 ⟨eP,e6,et (af) (et (congrArg (fun q=>dW J I p2 a q) aD) (iN j))⟩) (by show a.aa.aF.ls.length - (f+1) < a.aa.aF.ls.length - f; omega)
 refine jF (dF dm) (Wp.exit (Il ?_))
 have dC:dW J I p2 a a.aa.aF.ls=Sum.inl ():=et (af) (et (congrArg (fun q=>dW J I p2 a q) (fB (ls:=a.aa.aF.ls) (i:=f) e6)) rfl)
 refine Il (IB (Ig (Ib (Mz rfl (Mz rfl (Kz (vP aj 6) (Lz (vU p2.aP) aa 0 D4 ?_)))))))
 refine WL.do rfl (Iz P4 rfl ?_ (fun _ _ k=>k))
 refine cb P5 ?_
 refine Ib (Mz rfl (Mz rfl (Kz (vI (C5.wrap (10+I))) (Mz rfl (Mz rfl (Kz (vP g0 0) (Kz (vP g0 0) (Lz (vP d 0) aa 1 P3 (Kz (vP d 0) (Kz (vP d 0) (Kz (vP d 1) (Lz (vU a.aa.av) aa 4 D4 (Mz rfl (Mz rfl (Kz (.agg (gU 2 0 (C5.wrap (10+I)) 0 2 0 p2.aP a.aa.av 0 0 0 0 0 0 0 false ([]) ([]) none 0 0 none 0 0 none 0 0).toArray) ?_)))))))))))))))
 have eQ:=aa.pb [0,4]
 obtain⟨bF,bg⟩:∃ q,dw J (bL.mk 2 0 (C5.wrap (10+I)) 0 2 0 p2.aP a.aa.av 0 0 0 0 0 0 0 false (bC.mk ([]) ([])) (E2 ([])) (E2 ([])) (E2 ([])))=q:=⟨_,rfl⟩
 obtain⟨gm,dD,fG,dE,fH⟩:=IU eQ
 refine cl P6 (gp _ _ g0 J K L F d (bL.mk 2 0 (C5.wrap (10+I)) 0 2 0 p2.aP a.aa.av 0 0 0 0 0 0 0 false (bC.mk ([]) ([])) (E2 ([])) (E2 ([])) (E2 ([]))) none 0 0 none 0 0 [] none 0 0 bF dD ag rfl (fun _ _=>bE.nil _ _ _) f2 rfl rfl (fun _ _=>bE.nil _ _ _) f2 (fun _ h9=>absurd h9 y6) rfl (fun _ _=>bE.nil _ _ _) f2 e8 (by first | assumption | exact dM f5 | exact fun x hx=>absurd hx y6 | exact dM (Mk.mU f5).1 | exact dM (Mk.lT f5).1 | exact dM (Mk.nu f5).1 | exact dM (Mk.ny f5).1 | exact dM (Mk.nz f5).1) bg) ?_
 rintro _ gq ⟨eT,eU,eX,rfl,dG,bn,bq⟩
 have dH:=dE _ _ dG
 have fI:=aB bn
 have fJ:=dH.rowC (i:=1) rfl
 replace bq:bF.aX.ls.length=J.aX.ls.length+1:=bq
 refine C6 (IA (res0 rfl) (C6 (IA (res0 rfl) ?_)))
 have eY:=dH.px [] [3] []
 obtain rfl:_=bF:=hr.symm.trans (et (nT dC) (ah bg))
 exact⟨eT,eU,eX,rfl,eY,bn⟩
def dC (j:bI) (d:Int) (p2:Nat) (c:Int) (f:List aQ) (a:aA):bI × aA:=
 bnd (jh f) fun b=>if((D0 d:Nat):Int)=1 then bnd (dw j (bL.mk 2 0 (10+d) 0 c 0 p2 a.aa.av 0 0 0 0 0 0 0 false (bC.mk ([]) ([])) (E2 ([])) (E2 f) (E2 ([])))) fun g=>(g,aA.mk a.aa a.bP (E2 a.ay.ls) a.bK (df.mk true p2 c (E2 b)) a.bz a.bv a.bq a.dP a.dH a.dI a.dG a.dJ) else if((D0 d:Nat):Int)=2 then bnd (dw j (bL.mk 2 0 (10+d) 0 c 0 p2 a.aa.av 0 0 0 0 0 0 0 false (bC.mk ([]) ([])) (E2 ([])) (E2 f) (E2 ([])))) fun h=>(h,aA.mk a.aa a.bP (E2 a.ay.ls) a.bK a.bA (df.mk true p2 c (E2 b)) a.bv a.bq a.dP a.dH a.dI a.dG a.dJ) else if((D0 d:Nat):Int)=3 then bnd (dw j (bL.mk 2 0 (10+d) 0 c 0 p2 a.aa.av 0 0 0 0 0 0 0 false (bC.mk ([]) ([])) (E2 ([])) (E2 f) (E2 ([])))) fun i=>(i,aA.mk a.aa a.bP (E2 a.ay.ls) a.bK a.bA a.bz (df.mk true p2 c (E2 b)) a.bq a.dP a.dH a.dI a.dG a.dJ) else bnd (dw j (bL.mk 2 0 (10+d) 0 c 0 p2 a.aa.av 0 0 0 0 0 0 0 false (bC.mk ([]) ([])) (E2 ([])) (E2 f) (E2 ([])))) fun e=>(e,aA.mk a.aa a.bP (E2 a.ay.ls) a.bK a.bA a.bz a.bv (df.mk true p2 c (E2 b)) a.dP a.dH a.dI a.dG a.dJ)
set_option maxHeartbeats 4000000 in
theorem kr (w D V) (U:bI) (Q R L s p2 M A4 n4 c4 d4 h b) (a:aA) (aj ak au av ax ay az aC j l f t u m y z n B C p E F r) (r0:bI) (d:aA) (H:Own w D w [blk V [.pointer (some ⟨b,0,none⟩), .slice Q U.aX.ls.length R] 98,row Q U.aX.ls.length R (q3 bf.cells L) 42 21,sepL (q3 bf.own L),mK b a aj a.aa.ag.ls.length ak au av ax ay az aC j l t u y z B C E F,row j a.bK.af.ls.length l (q3 ae.cells f) 149 3,sepL (q3 ae.own f),row t a.bA.af.ls.length u (q3 ae.cells m) 149 3,sepL (q3 ae.own m),row y a.bz.af.ls.length z (q3 ae.cells n) 149 3,sepL (q3 ae.own n),row B a.bv.af.ls.length C (q3 ae.cells p) 149 3,sepL (q3 ae.own p),row E a.bq.af.ls.length F (q3 ae.cells r) 149 3,sepL (q3 ae.own r)]) (N:s5 bf.abs L=U.aX.ls) (aH:s5 ae.abs d4=h) (aK:Ro w D fun w'=>bE w' 3 A4 n4 (q3 ae.cells d4)) (O:∀ x ∈ d4,Ro w D (fun w'=>bE w' 2 x.ak.A x.ak.ls.length (q3 aI.cells x.ak.ls))∧(x.ak.ls.length≤x.ak.c∧x.ak.ls.length≤9223372036854775807)) (eH:n4=h.length) (gB:h.length *48≤211106232532992) (gD:h.length≤c4) (g:s5 ae.abs f=a.bK.af.ls) (G:s5 ae.abs m=a.bA.af.ls) (I:s5 ae.abs n=a.bz.af.ls) (J:s5 ae.abs p=a.bv.af.ls) (K:s5 ae.abs r=a.bq.af.ls) (gF:U.aX.ls.length≤100000) (gG:1≤s∧s≤4) (gH:h.length≤1000) (gI:nI h) (hr:dC U s p2 M h a=(r0,d)):
    Calls v8 106 #[vP V 0,vI s,vU p2,vI M, .slice A4 n4 c4] w (d9 fun v w'=> ∃ aL aM Y aN aO Z aP aR aa aS aT af aU aV ag aW aX ai,v= .tuple #[]∧Own w D w' [blk V [vP b 0, .slice aL r0.aX.ls.length aM] 98,row aL r0.aX.ls.length aM (q3 bf.cells Y) 42 21,sepL (q3 bf.own Y),blk b [vI d.aa.au,vU d.aa.av,vU d.aa.aV,vU d.aa.aL, .slice aj a.aa.ag.ls.length ak, .slice au a.aa.aj.ls.length av, .slice ax a.aa.aF.ls.length ay,vU d.bP, .slice az a.ay.ls.length aC, .bool d.bK.cO,vU d.bK.aS,vI d.bK.dA, .slice aN d.bK.af.ls.length aO, .bool d.bA.cO,vU d.bA.aS,vI d.bA.dA, .slice aP d.bA.af.ls.length aR, .bool d.bz.cO,vU d.bz.aS,vI d.bz.dA, .slice aS d.bz.af.ls.length aT, .bool d.bv.cO,vU d.bv.aS,vI d.bv.dA, .slice aU d.bv.af.ls.length aV, .bool d.bq.cO,vU d.bq.aS,vI d.bq.dA, .slice aW d.bq.af.ls.length aX,vU d.dP,vU d.dH,vU d.dI,vU d.dG,vU d.dJ, .pointer none] 86,row aN d.bK.af.ls.length aO (q3 ae.cells Z) 149 3,sepL (q3 ae.own Z),row aP d.bA.af.ls.length aR (q3 ae.cells aa) 149 3,sepL (q3 ae.own aa),row aS d.bz.af.ls.length aT (q3 ae.cells af) 149 3,sepL (q3 ae.own af),row aU d.bv.af.ls.length aV (q3 ae.cells ag) 149 3,sepL (q3 ae.own ag),row aW d.bq.af.ls.length aX (q3 ae.cells ai) 149 3,sepL (q3 ae.own ai)]∧(s5 bf.abs Y=r0.aX.ls)∧(s5 ae.abs Z=d.bK.af.ls)∧(s5 ae.abs aa=d.bA.af.ls)∧(s5 ae.abs af=d.bz.af.ls)∧(s5 ae.abs ag=d.bv.af.ls)∧(s5 ae.abs ai=d.bq.af.ls)∧(r0.aX.ls.length=U.aX.ls.length+1)):=by
 subst eH
 have fK:=aB aH
 have eF:=aB N
 have cO:=aB g
 have cZ:=aB G
 have dh:=aB I
 have di:=aB J
 have dm:=aB K
 have eO:=H.rowC (i:=1) rfl
 have dx:=H.rowC (i:=4) rfl
 have dz:=H.rowC (i:=6) rfl
 have dA:=H.rowC (i:=8) rfl
 have dB:=H.rowC (i:=10) rfl
 have dD:=H.rowC (i:=12) rfl
 refine cb Tryz.func106 ?_
 refine Ic ?_
 have eP:=H.pb [3]
 refine pU 13 [] (Iu IC) eP ?_
 intro gJ eQ
 refine qv 0 rfl rfl (qp V 0 1 rfl (qp V 0 2 rfl (ql 3 rfl 0 P3 rfl rfl rfl (qt (v:=vJ (D0 s)) 4 rfl (fun _ _=>Ie (e:=s) (Iq rfl) e6) (qv 5 rfl rfl (qv 6 rfl rfl (qv 7 rfl rfl (qp b 0 10 rfl (qp b 9 11 rfl ?_)))))))))
 obtain⟨P,W⟩:∃ q,jh h=q:=⟨_,rfl⟩
 obtain⟨gK,dE,bH,dF,fM⟩:=Ii eQ
 refine qd 8 rfl (Iz Tryz.call48 rfl (mD _ _ A4 h.length c4 d4 h P dE aH (bH _ aK) (fun x9 h9=>⟨bH _ (O x9 h9).1,(O x9 h9).2⟩) rfl e6 (by first | assumption | exact dM f5 | (intro x hx; exact absurd hx y6)) W) ?_)
 rintro _ gL ⟨S,T,bz,rfl,dG,X⟩
 have dH:=dF _ _ dG
 have fO:=aB X
 have fP:=dH.rowC (i:=0) rfl
 have aY:=dH.pb [0,1,15]
 refine⟨.inr ⟨_,aY⟩, ?_⟩
 refine qk (.agg #[.bool true,vU p2,vI M, .slice S P.length T]) 9 rfl ?_
 by_cases bA:((D0 s:Nat):Int)=1
 refine qt (v:=vP b 13) 12 rfl (fun _ _=>by(try unfold vJ); rw [show ((D0 s:Nat):Int)=1 from by omega]; exact yk) ?_
 have eT:=aY.pf [15]
 refine qe 13 rfl (Do.store (vs:= [.bool true,vU p2,vI M, .slice S P.length T]) (o:=13) eT rfl rfl P7 rfl rfl rfl rfl ?_)
 intro gM eU
 have bB:=eU.pb [0,14,15]
 refine⟨.inr ⟨_,bB⟩, ?_⟩
 refine qn (Ig (Ib (Mz rfl (Mz rfl (Mz rfl (Mz rfl (Mz rfl ?_)))))))
 refine WL.do rfl (Iz P4 rfl ?_ (fun _ _ k=>k))
 refine cb P5 ?_
 refine Ib (Mz rfl (Mz rfl (fw (vI (10+s)) (Ie (e:=C5.wrap (10+s)) yk g2) (Mz rfl (Mz rfl (Kz (vP V 0) (Kz (vP V 0) (Lz (vP b 0) bB 0 P3 (Kz (vP b 0) (Kz (vP b 0) (Kz (vP b 1) (Lz (vU a.aa.av) bB 13 D4 (Mz rfl (Mz rfl (Kz (.agg (gU 2 0 (10+s) 0 M 0 p2 a.aa.av 0 0 0 0 0 0 0 false ([]) ([]) none 0 0 A4 h.length c4 none 0 0).toArray) ?_)))))))))))))))
 obtain⟨bW,bJ⟩:∃ q,dw U (bL.mk 2 0 (10+s) 0 M 0 p2 a.aa.av 0 0 0 0 0 0 0 false (bC.mk ([]) ([])) (E2 ([])) (E2 h) (E2 ([])))=q:=⟨_,rfl⟩
 obtain⟨gN,dI,bK,dJ,fQ⟩:=IU bB
 refine cl P6 (gp _ _ V U Q R L b (bL.mk 2 0 (10+s) 0 M 0 p2 a.aa.av 0 0 0 0 0 0 0 false (bC.mk ([]) ([])) (E2 ([])) (E2 h) (E2 ([]))) none 0 0 A4 h.length c4 d4 none 0 0 bW dI N rfl (fun _ _=>bE.nil _ _ _) f2 aH rfl (bK _ aK) (show h.length≤c4∧h.length≤9223372036854775807 from by omega) (fun x9 h9=>⟨bK _ (O x9 h9).1,(O x9 h9).2⟩) rfl (fun _ _=>bE.nil _ _ _) f2 e8 (by first | assumption | exact dM f5 | exact fun x hx=>absurd hx y6 | exact dM (Mk.mU f5).1 | exact dM (Mk.lT f5).1 | exact dM (Mk.nu f5).1 | exact dM (Mk.ny f5).1 | exact dM (Mk.nz f5).1) bJ) ?_
 rintro _ gP ⟨eX,eY,eZ,rfl,dK,bM,bN⟩
 have dL:=dJ _ _ dK
 have fT:=aB bM
 have fU:=dL.rowC (i:=1) rfl
 replace bN:bW.aX.ls.length=U.aX.ls.length+1:=bN
 refine C6 (IA (res0 rfl) (C6 (IA (res0 rfl) ?_)))
 have fe:=dL.px [0,1,2,13,3,4,14,15] [5,6] []
 obtain⟨rfl,rfl⟩:=ic (hr.symm.trans (show _=(bW,aA.mk a.aa a.bP (E2 a.ay.ls) a.bK (df.mk true p2 M (E2 P)) a.bz a.bv a.bq a.dP a.dH a.dI a.dG a.dJ) from et (ah W) (et (ip bA) (ah bJ))))
 exact⟨eX,eY,eZ,j,l,f,S,T,bz,y,z,n,B,C,p,E,F,r,rfl,fe,bM,g,X,I,J,K,i1⟩
 by_cases bX:((D0 s:Nat):Int)=2
 refine qt (v:=vP b 17) 12 rfl (fun _ _=>by(try unfold vJ); rw [show ((D0 s:Nat):Int)=2 from by omega]; exact yk) ?_
 have fo:=aY.pf [15]
 refine qe 13 rfl (Do.store (vs:= [.bool true,vU p2,vI M, .slice S P.length T]) (o:=17) fo rfl rfl P7 rfl rfl rfl rfl ?_)
 intro gQ fq
 have bD:=fq.pb [0,14,15]
 refine⟨.inr ⟨_,bD⟩, ?_⟩
 refine qn (Ig (Ib (Mz rfl (Mz rfl (Mz rfl (Mz rfl (Mz rfl ?_)))))))
 refine WL.do rfl (Iz P4 rfl ?_ (fun _ _ k=>k))
 refine cb P5 ?_
 refine Ib (Mz rfl (Mz rfl (fw (vI (10+s)) (Ie (e:=C5.wrap (10+s)) yk g2) (Mz rfl (Mz rfl (Kz (vP V 0) (Kz (vP V 0) (Lz (vP b 0) bD 0 P3 (Kz (vP b 0) (Kz (vP b 0) (Kz (vP b 1) (Lz (vU a.aa.av) bD 13 D4 (Mz rfl (Mz rfl (Kz (.agg (gU 2 0 (10+s) 0 M 0 p2 a.aa.av 0 0 0 0 0 0 0 false ([]) ([]) none 0 0 A4 h.length c4 none 0 0).toArray) ?_)))))))))))))))
 obtain⟨bY,bO⟩:∃ q,dw U (bL.mk 2 0 (10+s) 0 M 0 p2 a.aa.av 0 0 0 0 0 0 0 false (bC.mk ([]) ([])) (E2 ([])) (E2 h) (E2 ([])))=q:=⟨_,rfl⟩
 obtain⟨gT,dN,bP,dO,fV⟩:=IU bD
 refine cl P6 (gp _ _ V U Q R L b (bL.mk 2 0 (10+s) 0 M 0 p2 a.aa.av 0 0 0 0 0 0 0 false (bC.mk ([]) ([])) (E2 ([])) (E2 h) (E2 ([]))) none 0 0 A4 h.length c4 d4 none 0 0 bY dN N rfl (fun _ _=>bE.nil _ _ _) f2 aH rfl (bP _ aK) (show h.length≤c4∧h.length≤9223372036854775807 from by omega) (fun x9 h9=>⟨bP _ (O x9 h9).1,(O x9 h9).2⟩) rfl (fun _ _=>bE.nil _ _ _) f2 e8 (by first | assumption | exact dM f5 | exact fun x hx=>absurd hx y6 | exact dM (Mk.mU f5).1 | exact dM (Mk.lT f5).1 | exact dM (Mk.nu f5).1 | exact dM (Mk.ny f5).1 | exact dM (Mk.nz f5).1) bO) ?_
 rintro _ gV ⟨fu,fA,fB,rfl,dP,bQ,bR⟩
 have dQ:=dO _ _ dP
 have fZ:=aB bQ
 have gm:=dQ.rowC (i:=1) rfl
 replace bR:bY.aX.ls.length=U.aX.ls.length+1:=bR
 refine C6 (IA (res0 rfl) (C6 (IA (res0 rfl) ?_)))
 have fC:=dQ.px [0,1,2,13] [7,8] [9,10,11,12]
 obtain⟨rfl,rfl⟩:=ic (hr.symm.trans (show _=(bY,aA.mk a.aa a.bP (E2 a.ay.ls) a.bK a.bA (df.mk true p2 M (E2 P)) a.bv a.bq a.dP a.dH a.dI a.dG a.dJ) from et (ah W) (et (iN bA) (et (ip bX) (ah bO)))))
 exact⟨fu,fA,fB,j,l,f,t,u,m,S,T,bz,B,C,p,E,F,r,rfl,fC,bQ,g,G,X,J,K,i1⟩
 by_cases dR:((D0 s:Nat):Int)=3
 refine qt (v:=vP b 21) 12 rfl (fun _ _=>by(try unfold vJ); rw [show ((D0 s:Nat):Int)=3 from by omega]; exact yk) ?_
 have fD:=aY.pf [15]
 refine qe 13 rfl (Do.store (vs:= [.bool true,vU p2,vI M, .slice S P.length T]) (o:=21) fD rfl rfl P7 rfl rfl rfl rfl ?_)
 intro gW fE
 have bF:=fE.pb [0,14,15]
 refine⟨.inr ⟨_,bF⟩, ?_⟩
 refine qn (Ig (Ib (Mz rfl (Mz rfl (Mz rfl (Mz rfl (Mz rfl ?_)))))))
 refine WL.do rfl (Iz P4 rfl ?_ (fun _ _ k=>k))
 refine cb P5 ?_
 refine Ib (Mz rfl (Mz rfl (fw (vI (10+s)) (Ie (e:=C5.wrap (10+s)) yk g2) (Mz rfl (Mz rfl (Kz (vP V 0) (Kz (vP V 0) (Lz (vP b 0) bF 0 P3 (Kz (vP b 0) (Kz (vP b 0) (Kz (vP b 1) (Lz (vU a.aa.av) bF 13 D4 (Mz rfl (Mz rfl (Kz (.agg (gU 2 0 (10+s) 0 M 0 p2 a.aa.av 0 0 0 0 0 0 0 false ([]) ([]) none 0 0 A4 h.length c4 none 0 0).toArray) ?_)))))))))))))))
 obtain⟨bZ,bS⟩:∃ q,dw U (bL.mk 2 0 (10+s) 0 M 0 p2 a.aa.av 0 0 0 0 0 0 0 false (bC.mk ([]) ([])) (E2 ([])) (E2 h) (E2 ([])))=q:=⟨_,rfl⟩
 obtain⟨gX,dS,bT,dU,gq⟩:=IU bF
 refine cl P6 (gp _ _ V U Q R L b (bL.mk 2 0 (10+s) 0 M 0 p2 a.aa.av 0 0 0 0 0 0 0 false (bC.mk ([]) ([])) (E2 ([])) (E2 h) (E2 ([]))) none 0 0 A4 h.length c4 d4 none 0 0 bZ dS N rfl (fun _ _=>bE.nil _ _ _) f2 aH rfl (bT _ aK) (show h.length≤c4∧h.length≤9223372036854775807 from by omega) (fun x9 h9=>⟨bT _ (O x9 h9).1,(O x9 h9).2⟩) rfl (fun _ _=>bE.nil _ _ _) f2 e8 (by first | assumption | exact dM f5 | exact fun x hx=>absurd hx y6 | exact dM (Mk.mU f5).1 | exact dM (Mk.lT f5).1 | exact dM (Mk.nu f5).1 | exact dM (Mk.ny f5).1 | exact dM (Mk.nz f5).1) bS) ?_
 rintro _ gY ⟨dV,dW,dX,rfl,cu,aZ,bg⟩
 have bU:=dU _ _ cu
 have fF:=aB aZ
 have fG:=bU.rowC (i:=1) rfl
 replace bg:bZ.aX.ls.length=U.aX.ls.length+1:=bg
 refine C6 (IA (res0 rfl) (C6 (IA (res0 rfl) ?_)))
 have dY:=bU.px [0,1,2,13] [9,10] [11,12]
 obtain⟨rfl,rfl⟩:=ic (hr.symm.trans (show _=(bZ,aA.mk a.aa a.bP (E2 a.ay.ls) a.bK a.bA a.bz (df.mk true p2 M (E2 P)) a.bq a.dP a.dH a.dI a.dG a.dJ) from et (ah W) (et (iN bA) (et (iN bX) (et (ip dR) (ah bS))))))
 exact⟨dV,dW,dX,j,l,f,t,u,m,y,z,n,S,T,bz,E,F,r,rfl,dY,aZ,g,G,I,X,K,i1⟩
 refine qt (v:=vP b 25) 12 rfl (fun _ _=>by(try unfold vJ); rw [show ((D0 s:Nat):Int)=4 from by omega]; exact yk) ?_
 have dZ:=aY.pf [15]
 refine qe 13 rfl (Do.store (vs:= [.bool true,vU p2,vI M, .slice S P.length T]) (o:=25) dZ rfl rfl P7 rfl rfl rfl rfl ?_)
 intro gu ed
 have aG:=ed.pb [0,14,15]
 refine⟨.inr ⟨_,aG⟩, ?_⟩
 refine qn (Ig (Ib (Mz rfl (Mz rfl (Mz rfl (Mz rfl (Mz rfl ?_)))))))
 refine WL.do rfl (Iz P4 rfl ?_ (fun _ _ k=>k))
 refine cb P5 ?_
 refine Ib (Mz rfl (Mz rfl (fw (vI (10+s)) (Ie (e:=C5.wrap (10+s)) yk g2) (Mz rfl (Mz rfl (Kz (vP V 0) (Kz (vP V 0) (Lz (vP b 0) aG 0 P3 (Kz (vP b 0) (Kz (vP b 0) (Kz (vP b 1) (Lz (vU a.aa.av) aG 13 D4 (Mz rfl (Mz rfl (Kz (.agg (gU 2 0 (10+s) 0 M 0 p2 a.aa.av 0 0 0 0 0 0 0 false ([]) ([]) none 0 0 A4 h.length c4 none 0 0).toArray) ?_)))))))))))))))
 obtain⟨bi,bn⟩:∃ q,dw U (bL.mk 2 0 (10+s) 0 M 0 p2 a.aa.av 0 0 0 0 0 0 0 false (bC.mk ([]) ([])) (E2 ([])) (E2 h) (E2 ([])))=q:=⟨_,rfl⟩
 obtain⟨gy,cz,bq,cB,fH⟩:=IU aG
 refine cl P6 (gp _ _ V U Q R L b (bL.mk 2 0 (10+s) 0 M 0 p2 a.aa.av 0 0 0 0 0 0 0 false (bC.mk ([]) ([])) (E2 ([])) (E2 h) (E2 ([]))) none 0 0 A4 h.length c4 d4 none 0 0 bi cz N rfl (fun _ _=>bE.nil _ _ _) f2 aH rfl (bq _ aK) (show h.length≤c4∧h.length≤9223372036854775807 from by omega) (fun x9 h9=>⟨bq _ (O x9 h9).1,(O x9 h9).2⟩) rfl (fun _ _=>bE.nil _ _ _) f2 e8 (by first | assumption | exact dM f5 | exact fun x hx=>absurd hx y6 | exact dM (Mk.mU f5).1 | exact dM (Mk.lT f5).1 | exact dM (Mk.nu f5).1 | exact dM (Mk.ny f5).1 | exact dM (Mk.nz f5).1) bn) ?_
 rintro _ gz ⟨ek,eu,eB,rfl,cK,bu,bv⟩
 have bV:=cB _ _ cK
 have fI:=aB bu
 have fJ:=bV.rowC (i:=1) rfl
 replace bv:bi.aX.ls.length=U.aX.ls.length+1:=bv
 refine C6 (IA (res0 rfl) (C6 (IA (res0 rfl) ?_)))
 have eD:=bV.px [0,1,2,13] [11,12] []
 obtain⟨rfl,rfl⟩:=ic (hr.symm.trans (show _=(bi,aA.mk a.aa a.bP (E2 a.ay.ls) a.bK a.bA a.bz a.bv (df.mk true p2 M (E2 P)) a.dP a.dH a.dI a.dG a.dJ) from et (ah W) (et (iN bA) (et (iN bX) (et (iN dR) (ah bn))))))
 exact⟨ek,eu,eB,j,l,f,t,u,m,y,z,n,B,C,p,S,T,bz,rfl,eD,bu,g,G,I,J,X,i1⟩
def ik (e:Nat) (f:Bool):List Int→List bL→(List bL)
  | [],a=>a
  | c::d,a=>bnd (dw (bI.mk (E2 a)) (bL.mk 5 0 c 0 0 0 0 0 e 0 0 0 0 0 0 f (bC.mk ([]) ([])) (E2 ([])) (E2 ([])) (E2 ([])))) fun b=>ik e f d b.aX.ls
def dZ (a:bI) (b:Nat) (c:List Int) (d:Bool):bI:=
 bnd (ik b d c a.aX.ls) fun sLrL=>bI.mk (E2 sLrL)
set_option maxHeartbeats 1000000 in
theorem kV (w D J) (A:bI) (m n f g j M X c2 c l) (V:bI) (H:Own w D w [blk J [.pointer (some ⟨g,0,none⟩), .slice m A.aX.ls.length n] 98,row m A.aX.ls.length n (q3 bf.cells f) 42 21,sepL (q3 bf.own f)]) (o:s5 bf.abs f=A.aX.ls) (K:Ro w D fun w'=>bE w' 1 M X (q3 (eI .i64) c)) (Y:X=c.length) (aF:c.length *8≤211106232532992) (aG:A.aX.ls.length+c.length≤1000000) (hr:dZ A j c l=V):
    Calls v8 27 #[vP J 0,vU j, .slice M X c2, .bool l] w (d9 fun v w'=> ∃ p r d,v= .tuple #[]∧Own w D w' [blk J [vP g 0, .slice p V.aX.ls.length r] 98,row p V.aX.ls.length r (q3 bf.cells d) 42 21,sepL (q3 bf.own d)]∧(s5 bf.abs d=V.aX.ls)):=by
 subst Y
 have W:=aB o
 have Z:=H.rowC (i:=1) rfl
 refine cb Tryz.func27 ?_
 refine sr (Mz rfl (Kz (vJ c.length) (Mn rfl (bo ?_))))
 have aa:=H.pf []
 obtain⟨ae,s⟩:=Au fun (a:Nat) t (u:Nat) h b w'=>Own w D w' [blk J [vP g 0, .slice t b.length u] 98,row t b.length u (q3 bf.cells h) 42 21,sepL (q3 bf.own h)]∧s5 bf.abs h=b∧a≤c.length∧b.length=A.aX.ls.length+a∧b.length≤A.aX.ls.length+a∧ik j l c A.aX.ls=ik j l (List.drop a c) b
 refine Wp.loop (fun i:Nat × (Option Addr) × Nat × (List bf) × (List bL)=> [(12,vJ i.1),(11,vJ c.length),(10, .slice M c.length c2),(0,vP J 0),(1,vU j),(3, .bool l)]) ae (fun i=>c.length - i.1) (0,m,n,f,A.aX.ls) ⟨rfl,rfl,rfl,rfl,rfl,rfl,trivial⟩ (s.2 ⟨aa,by exact o,e6,e6,e6,rfl⟩) ?_
 rintro ⟨a,t,u,h,b⟩ aH N
 obtain⟨y,z,au,av,ax,C⟩:=s.1 N
 have ay:=aB z
 refine sr (Kz (.bool (decide (((a:Nat):Int) < ((c.length:Nat):Int)))) (nt (Ic ?_)))
 by_cases O:((a:Nat):Int) < ((c.length:Nat):Int)
 obtain⟨B,E⟩:=dN (ls:=c) (i:=a) jd f4 (y.ro K) e9
 have P:=drop_at E
 refine jT (dT O) (sk (Ic (bo (sr (fw (.pointer (some ⟨ab M,ao M+a *1,none⟩)) (Ij (om) rfl rfl ((y.ro K).addr (i:=a) e6) e6) (fw (vI B) (Io rfl (bZ.one Tryz.isAgg3 (((y.ro K).elem jd E f4).at_ (k:=0) rfl))) (An rfl (Ib (Mz rfl (Mz rfl (Mz rfl (Mz rfl (Kz (.agg (gU 5 0 B 0 0 0 0 0 j 0 0 0 0 0 0 l ([]) ([]) none 0 0 none 0 0 none 0 0).toArray) ?_)))))))))))))
 obtain⟨L,F⟩:∃ q,dw (bI.mk (E2 b)) (bL.mk 5 0 B 0 0 0 0 0 j 0 0 0 0 0 0 l (bC.mk ([]) ([])) (E2 ([])) (E2 ([])) (E2 ([])))=q:=⟨_,rfl⟩
 obtain⟨aI,Q,az,R,aA⟩:=IU y
 refine cl P6 (gp _ _ J (bI.mk (E2 b)) t u h g (bL.mk 5 0 B 0 0 0 0 0 j 0 0 0 0 0 0 l (bC.mk ([]) ([])) (E2 ([])) (E2 ([])) (E2 ([]))) none 0 0 none 0 0 [] none 0 0 L Q z rfl (fun _ _=>bE.nil _ _ _) f2 rfl rfl (fun _ _=>bE.nil _ _ _) f2 (fun _ h9=>absurd h9 y6) rfl (fun _ _=>bE.nil _ _ _) f2 e8 (by first | assumption | exact dM f5 | exact fun x hx=>absurd hx y6 | exact dM (Mk.mU f5).1 | exact dM (Mk.lT f5).1 | exact dM (Mk.nu f5).1 | exact dM (Mk.ny f5).1 | exact dM (Mk.nz f5).1) F) ?_
 rintro _ aK ⟨af,ag,ai,rfl,S,G,I⟩
 have T:=R _ _ S
 have aC:=aB G
 have aD:=T.rowC (i:=1) rfl
 replace I:L.aX.ls.length=b.length+1:=I
 refine C6 (bN (Ig (Ib (fw (vJ (a+1)) (Ie (e:=C5.wrap (((a:Nat):Int)+1)) yk f0) (Mz rfl (C6 ?_))))))
 have aj:=T.pf []
 exact Ir (a+1,af,ag,ai,L.aX.ls) ⟨rfl,rfl,rfl,rfl,rfl,rfl,trivial⟩ (s.2 ⟨aj,by exact G,e6,e6,e6,et (C) (et (congrArg (fun q=>ik j l q b) P) (ah F))⟩) (by show c.length - (a+1) < c.length - a; omega)
 refine jF (dF O) (Wp.exit (Il ?_))
 have U:ik j l c A.aX.ls=b:=et (C) (et (congrArg (fun q=>ik j l q b) (fB (ls:=c) (i:=a) e6)) rfl)
 refine Il (IB (IA (res0 rfl) ?_))
 have ak:=y.pf []
 obtain rfl:_=bI.mk (E2 b):=hr.symm.trans (ah U)
 exact⟨t,u,h,rfl,ak,z⟩
theorem Dr (a:Nat) (b:Bool):∀ (l:List Int) (o:List bL),r8 (ik a b l o)=o.length+l.length
  | [],o=>rfl
  | x::q,o=>by
    simp only [ik,bnd]
    rw [Dr a b q]
    simp only [dw,bnd,List.length_append,List.length_cons,List.length_nil]; omega
theorem yB {a:bI} {c:Nat} {l:List Int} {b:Bool} {r:bI} (h:dZ a c l b=r):r.aX.ls.length=a.aX.ls.length+l.length:=by
 rw [← h]; exact Dr c b l _
end Go.Proofs.YtbkagebjhbphaaaGreat
