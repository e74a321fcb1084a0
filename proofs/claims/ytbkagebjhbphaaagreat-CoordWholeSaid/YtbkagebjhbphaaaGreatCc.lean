/-
 coord: what it answers.
-/
import Derived.Test.YtbkagebjhbphaaaGreatCoM
import Derived.Test.YtbkagebjhbphaaaGreatRc
import Derived.Test.YtbkagebjhbphaaaGreatWc
import Derived.Test.YtbkagebjhbphaaaGreatOc
import Derived.Test.YtbkagebjhbphaaaGreatGc
namespace Go.Proofs.YtbkagebjhbphaaaGreat
open Int renaming toNat→C6
open IntKind renaming i64→C3,u64→C7
open List renaming flatMap→q4,getD→B8,length→s0,length_map→s3,map→s5,mem_of_getElem?→D1,not_mem_nil→v7
open Ll renaming mk→E0
open _root_.Go.Proofs.Tryz renaming call65→P9,call89→P7,func89→P8,isAgg24→P6,isAgg28→D2,prog→v5,sizeOf81→Q0
open WL renaming nil→C4
set_option maxRecDepth 100000
open Go.RowKit
set_option linter.unusedVariables false
set_option linter.unusedSectionVars false
set_option linter.unusedSimpArgs false
def gu (a:aD):Nat:=
 C6 (C7.wrap (((C6 (C7.wrap (((fQ a.aa.ax 32:Nat):Int)+((a.bT:Nat):Int))):Nat):Int)+1))
theorem qy (w D x) (a:aD) (b c d f g h i j k l n o p q r s t u z) (H:Own w D w [mK x a b a.aa.ag.ls.length c d f g h i j k l n o p q r s t u]) (hr:gu a=z):
    Calls v5 126 #[vP x 0] w (dA fun v w'=>v=vU z∧Own w D w' [mK x a b a.aa.ag.ls.length c d f g h i j k l n o p q r s t u]∧(z≤18446744073709551615)):=by
 refine cb Tryz.func126 ?_
 refine sr (An rfl (Ik ?_))
 have y:=H.drew
 refine Jr [] (fun W=> ∃ L',Own w D W ([mK x a b a.aa.ag.ls.length c d f g h i j k l n o p q r s t u]++L')) e7 e7 (IE IQ) ⟨_,y⟩ ?_
 revert y
 generalize World.drew w=C
 intro y
 refine qv 0 rfl rfl (qp x 0 1 rfl (qp x 0 2 rfl (qp x 1 3 rfl (ql 4 rfl 0 D2 rfl rfl rfl ?_))))
 have B:fQ a.aa.ax 32≤18446744073709551615:=pq _ _
 refine qt (v:=vU (fQ a.aa.ax 32)) 5 rfl (fun _ _=>Ir (JO (m:=32) rfl rfl) (fB _)) (qv 6 rfl rfl (qp x 0 7 rfl (qp x 7 8 rfl (ql 9 rfl 0 D2 rfl rfl rfl (qt (v:= .int .u64 ((C6 (C7.wrap (((fQ a.aa.ax 32:Nat):Int)+((a.bT:Nat):Int))):Nat):Int)) 10 rfl (fun _ _=>Ir (e:=C7.wrap (((fQ a.aa.ax 32:Nat):Int)+((a.bT:Nat):Int))) yk (fB _)) (qt (v:= .int .u64 ((C6 (C7.wrap (((C6 (C7.wrap (((fQ a.aa.ax 32:Nat):Int)+((a.bT:Nat):Int))):Nat):Int)+1)):Nat):Int)) 11 rfl (fun _ _=>Ir (e:=C7.wrap (((C6 (C7.wrap (((fQ a.aa.ax 32:Nat):Int)+((a.bT:Nat):Int))):Nat):Int)+1)) yk (fB _)) (qa 12 rfl rfl (qn (Iq (rt (rs ?_)))))))))))
 have A:=y.pf []
 obtain rfl:_=C6 (C7.wrap (((C6 (C7.wrap (((fQ a.aa.ax 32:Nat):Int)+((a.bT:Nat):Int))):Nat):Int)+1)):=hr.symm.trans rfl
 exact⟨rfl,A,(by first | exact lV _ | omega)⟩
def gQ (b:aD):Nat:=
 bnd (gu b) fun a=>bnd (if((b.aC.ls.length:Nat):Int) > 0 then bnd (B8 b.aC.ls 0 default) fun c=>min a c.bI else a) fun sJrbJ=>if((b.aa.ak.ls.length:Nat):Int) > 0 then bnd (B8 b.aa.ak.ls 0 default) fun d=>min sJrbJ d.aX else sJrbJ
set_option maxHeartbeats 4000000 in
theorem qO (w D p) (d:aD) (y z a f B C E b g F G I J K L M N O P Q r0) (H:Own w D w [mK p d y d.aa.ag.ls.length z a f C E b g G I J K L M N O P Q]) (R:s5 ay.abs B=d.aa.ak.ls) (r:Ro w D fun w'=>aY w' 5 a d.aa.ak.ls.length (q4 ay.cells B)) (aF:d.aa.ak.ls.length≤f∧d.aa.ak.ls.length≤9223372036854775807) (ag:∀ x ∈ B,Ro w D (fun w'=>aY w' 1 x.au.A x.au.ls.length (q4 (eI .i64) x.au.ls))∧(x.au.ls.length≤x.au.c∧x.au.ls.length≤9223372036854775807)) (S:s5 bK.abs F=d.aC.ls) (s:Ro w D fun w'=>aY w' 9 b d.aC.ls.length (q4 bK.cells F)) (aG:d.aC.ls.length≤g∧d.aC.ls.length≤9223372036854775807) (m:∀ x ∈ F,Ro w D (fun w'=>aY w' 6 x.cB.A x.cB.ls.length (q4 aN.cells x.cB.ls))∧(x.cB.ls.length≤x.cB.c∧x.cB.ls.length≤9223372036854775807)∧Ro w D (fun w'=>aY w' 3 x.aO.A x.aO.ls.length (q4 bO.cells x.aO.ls))∧(x.aO.ls.length≤x.aO.c∧x.aO.ls.length≤9223372036854775807)∧(∀ j ∈ x.aO.ls,Ro w D (fun w'=>aY w' 6 j.aB.A j.aB.ls.length (q4 aN.cells j.aB.ls))∧(j.aB.ls.length≤j.aB.c∧j.aB.ls.length≤9223372036854775807)∧Ro w D (fun w'=>aY w' 1 j.aI.A j.aI.ls.length (q4 (eI .i64) j.aI.ls))∧(j.aI.ls.length≤j.aI.c∧j.aI.ls.length≤9223372036854775807))∧Ro w D (fun w'=>aY w' 1 x.bL.A x.bL.ls.length (q4 eL x.bL.ls))∧(x.bL.ls.length≤x.bL.c∧x.bL.ls.length≤9223372036854775807)∧Ro w D (fun w'=>aY w' 1 x.ai.A x.ai.ls.length (q4 (I9 (β:=af)) x.ai.ls))∧(x.ai.ls.length≤x.ai.c∧x.ai.ls.length≤9223372036854775807)∧(∀ j ∈ x.ai.ls,Ro w D (fun w'=>aY w' 3 j.A j.ls.length (q4 af.cells j.ls))∧(j.ls.length≤j.c∧j.ls.length≤9223372036854775807)∧(∀ y2 ∈ j.ls,Ro w D (fun w'=>aY w' 2 y2.aj.A y2.aj.ls.length (q4 aH.cells y2.aj.ls))∧(y2.aj.ls.length≤y2.aj.c∧y2.aj.ls.length≤9223372036854775807)))) (bg:d.aa.ag.ls.length≤1000∧d.aa.ak.ls.length≤1000∧d.aa.aK.ls.length≤1000∧d.aC.ls.length≤1000) (hr:gQ d=r0):
    Calls v5 108 #[vP p 0] w (dA fun v w'=>v=vU r0∧Own w D w' [mK p d y d.aa.ag.ls.length z a f C E b g G I J K L M N O P Q]):=by
 have aB:=aA R
 have aC:=aA S
 refine cb Tryz.func108 ?_
 refine sr (Ar rfl (Mz rfl ?_))
 obtain⟨h,T⟩:∃ q,gu d=q:=⟨_,rfl⟩
 obtain⟨bi,ai,aP,aj,aQ⟩:=IZ H
 refine cl Tryz.call126 (qy _ _ p d y z a f C E b g G I J K L M N O P Q h ai T) ?_
 rintro _ bn ⟨rfl,ak,Z⟩
 have t:=aj _ _ ak
 replace Z:h≤18446744073709551615:=Z
 refine An rfl (Ik (sr (Mz rfl (Kz (vP p 0) (Kz (vP p 8) (Lz (.slice b d.aC.ls.length g) t 0 Tryz.isAgg79 (Kz (vJ d.aC.ls.length) (Kz (.bool (decide (((d.aC.ls.length:Nat):Int) > 0))) (nt ?_)))))))))
 obtain⟨aI,U⟩:=lF fun (n:Nat) w'=>Own w D w' [mK p d y d.aa.ag.ls.length z a f C E b g G I J K L M N O P Q]∧n≤h∧(if((d.aC.ls.length:Nat):Int) > 0 then bnd (B8 d.aC.ls 0 default) fun au=>min h au.bI else h)=n
 refine Jg (fun i:Nat=> [(3,vU i),(2, .int .u64 0),(0,vP p 0)]) aI ?_ ?_
 by_cases X:((d.aC.ls.length:Nat):Int) > 0
 refine jT (dT X) (Il (Mz rfl (Mz rfl (Kz (vP p 0) (Kz (vP p 8) (Lz (.slice b d.aC.ls.length g) t 0 Tryz.isAgg79 ?_))))))
 obtain⟨o,l⟩:=dh (ls:=F) (i:=0) bK.len f2 (t.ro s) e9
 have av:=eY S l
 have aR:=(m _ (D1 l)).2.1
 have aS:=(m _ (D1 l)).2.2.2.1
 have aU:s0 (s5 bO.abs o.aO.ls)=o.aO.ls.length:=s3 ..
 have aV:=(m _ (D1 l)).2.2.2.2.2.2.1
 have aW:=(m _ (D1 l)).2.2.2.2.2.2.2.2.1
 have aX:s0 (s5 bP.abs o.ai.ls)=o.ai.ls.length:=s3 ..
 refine fw (.pointer (some ⟨ab b,ao b+0 *9,none⟩)) (Iz (qF) rfl rfl ((t.ro s).addr (i:=0) e6) e6) (Kz (.pointer (some ⟨ab b,ao b+0 *9,none⟩)) (fw (vU o.bI) (IB rfl (bJ.one D2 (((t.ro s).elem bK.len l f2).at_ (k:=0) rfl))) (fw (vU (min h o.bI)) (Ir (e:=if((o.bI:Nat):Int) < ((h:Nat):Int) then((o.bI:Nat):Int) else((h:Nat):Int)) yk e6) (Az rfl (C4 ?_)))))
 have aJ:=t.pf []
 exact I8 (min h o.bI) ⟨rfl,rfl,rfl,trivial⟩ (U.2 ⟨aJ,e6,et (ip X) (ae (aT av))⟩)
 refine jF (dF X) (IU ?_)
 have aK:=t.pf []
 exact I8 h ⟨rfl,rfl,rfl,trivial⟩ (U.2 ⟨aK,e6,iN X⟩)
 rintro n bq ax
 obtain⟨u,aZ,aa⟩:=U.1 ax
 refine Ik (sr (Mz rfl (Kz (vP p 0) (Kz (vP p 0) (Kz (vP p 5) (Lz (.slice a d.aa.ak.ls.length f) u 0 Tryz.isAgg30 (Kz (vJ d.aa.ak.ls.length) (Kz (.bool (decide (((d.aa.ak.ls.length:Nat):Int) > 0))) (nt ?_)))))))))
 by_cases Y:((d.aa.ak.ls.length:Nat):Int) > 0
 refine jT (dT Y) (Il (Mz rfl (Mz rfl (Kz (vP p 0) (Kz (vP p 0) (Kz (vP p 5) (Lz (.slice a d.aa.ak.ls.length f) u 0 Tryz.isAgg30 ?_)))))))
 obtain⟨V,W⟩:=dh (ls:=B) (i:=0) ay.len f2 (u.ro r) e9
 have az:=eY R W
 have bf:=(ag _ (D1 W)).2
 refine fw (.pointer (some ⟨ab a,ao a+0 *5,none⟩)) (Iz (kM) rfl rfl ((u.ro r).addr (i:=0) e6) e6) (Kz (.pointer (some ⟨ab a,ao a+0 *5,none⟩)) (fw (vU V.aX) (IB rfl (bJ.one D2 (((u.ro r).elem ay.len W f2).at_ (k:=0) rfl))) (fw (vU (min n V.aX)) (Ir (e:=if((V.aX:Nat):Int) < ((n:Nat):Int) then((V.aX:Nat):Int) else((n:Nat):Int)) yk e6) (Ar rfl (Mz rfl (An rfl (rt (rs ?_))))))))
 have aL:=u.pf []
 obtain rfl:_=min n V.aX:=hr.symm.trans (et (ae T) (et (ae aa) (et (ip Y) (ae (aT az)))))
 exact⟨rfl,aL⟩
 refine jF (dF Y) (sk (sr (Mz rfl (An rfl (rt (rs ?_))))))
 have aM:=u.pf []
 obtain rfl:_=n:=hr.symm.trans (et (ae T) (et (ae aa) (iN Y)))
 exact⟨rfl,aM⟩
def eU (g:bU) (e:Int) (d:bW) (a:aD):List fF→Unit ⊕ bU
  | []=>Sum.inl ()
  | b::c=>if b.aP=e then if((b.ax:Nat):Int)=((d.ax:Nat):Int) then if((b.aU:Nat):Int)=((d.aU:Nat):Int) then bnd (dM g (bW.mk 2 0 (C3.wrap (10+e)) 0 1 0 d.aU a.aa.ax 0 0 0 0 0 0 0 false (aL.mk ([]) ([])) (E0 ([])) (E0 b.ah.ls) (E0 ([])))) fun f=>Sum.inr (f) else eU g e d a c else eU g e d a c else eU g e d a c
def lK (c:bU) (d:Int) (e:bW) (a:aD):bU:=
 lp (eU c d e a a.aa.aK.ls) fun _=>bnd (dM c (bW.mk 2 0 (C3.wrap (10+d)) 0 2 0 e.aU a.aa.ax 0 0 0 0 0 0 0 false (aL.mk ([]) ([])) (E0 ([])) (E0 ([])) (E0 ([])))) fun b=>b
set_option maxHeartbeats 4000000 in
theorem uo (w D g0) (K:bU) (L M G J) (f:bW) (av aV ax ay aW az aG aB aX aC d) (a:aD) (O P Q R h j p S T r s U t u V y z W B C X E F Y) (r0:bU) (H:Own w D w [blk g0 [.pointer (some ⟨d,0,none⟩), .slice L K.bF.ls.length M] 98,row L K.bF.ls.length M (q4 bz.cells G) 42 21,sepL (q4 bz.own G),mK d a O a.aa.ag.ls.length P Q R h j S T r s t u y z B C E F]) (ai:s5 bz.abs G=K.bF.ls) (bA:aV=f.aB.ls.length) (dQ:Ro w D fun w'=>aY w' 6 av f.aB.ls.length (q4 aN.cells f.aB.ls)) (dR:f.aB.ls.length≤ax∧f.aB.ls.length≤9223372036854775807) (bB:s5 af.abs aG=f.ah.ls) (bC:aW=f.ah.ls.length) (dS:Ro w D fun w'=>aY w' 3 ay f.ah.ls.length (q4 af.cells aG)) (dU:f.ah.ls.length≤az∧f.ah.ls.length≤9223372036854775807) (dV:∀ x ∈ aG,Ro w D (fun w'=>aY w' 2 x.aj.A x.aj.ls.length (q4 aH.cells x.aj.ls))∧(x.aj.ls.length≤x.aj.c∧x.aj.ls.length≤9223372036854775807)) (bD:aX=f.ag.ls.length) (dW:Ro w D fun w'=>aY w' 2 aB f.ag.ls.length (q4 aM.cells f.ag.ls)) (dX:f.ag.ls.length≤aC∧f.ag.ls.length≤9223372036854775807) (Z:s5 aS.abs p=a.aa.aK.ls) (I:Ro w D fun w'=>aY w' 4 h a.aa.aK.ls.length (q4 aS.cells p)) (bQ:a.aa.aK.ls.length≤j∧a.aa.aK.ls.length≤9223372036854775807) (n:∀ x ∈ p,Ro w D (fun w'=>aY w' 3 x.ah.A x.ah.ls.length (q4 af.cells x.ah.ls))∧(x.ah.ls.length≤x.ah.c∧x.ah.ls.length≤9223372036854775807)∧(∀ y1 ∈ x.ah.ls,Ro w D (fun w'=>aY w' 2 y1.aj.A y1.aj.ls.length (q4 aH.cells y1.aj.ls))∧(y1.aj.ls.length≤y1.aj.c∧y1.aj.ls.length≤9223372036854775807))) (aI:s5 af.abs U=a.bM.ai.ls) (bS:Ro w D fun w'=>aY w' 3 r a.bM.ai.ls.length (q4 af.cells U)) (bT:a.bM.ai.ls.length≤s∧a.bM.ai.ls.length≤9223372036854775807) (bV:∀ x ∈ U,Ro w D (fun w'=>aY w' 2 x.aj.A x.aj.ls.length (q4 aH.cells x.aj.ls))∧(x.aj.ls.length≤x.aj.c∧x.aj.ls.length≤9223372036854775807)) (aJ:s5 af.abs V=a.bD.ai.ls) (bX:Ro w D fun w'=>aY w' 3 t a.bD.ai.ls.length (q4 af.cells V)) (bY:a.bD.ai.ls.length≤u∧a.bD.ai.ls.length≤9223372036854775807) (bZ:∀ x ∈ V,Ro w D (fun w'=>aY w' 2 x.aj.A x.aj.ls.length (q4 aH.cells x.aj.ls))∧(x.aj.ls.length≤x.aj.c∧x.aj.ls.length≤9223372036854775807)) (aK:s5 af.abs W=a.bA.ai.ls) (cu:Ro w D fun w'=>aY w' 3 y a.bA.ai.ls.length (q4 af.cells W)) (cz:a.bA.ai.ls.length≤z∧a.bA.ai.ls.length≤9223372036854775807) (cB:∀ x ∈ W,Ro w D (fun w'=>aY w' 2 x.aj.A x.aj.ls.length (q4 aH.cells x.aj.ls))∧(x.aj.ls.length≤x.aj.c∧x.aj.ls.length≤9223372036854775807)) (aO:s5 af.abs X=a.bC.ai.ls) (cK:Ro w D fun w'=>aY w' 3 B a.bC.ai.ls.length (q4 af.cells X)) (cO:a.bC.ai.ls.length≤C∧a.bC.ai.ls.length≤9223372036854775807) (cZ:∀ x ∈ X,Ro w D (fun w'=>aY w' 2 x.aj.A x.aj.ls.length (q4 aH.cells x.aj.ls))∧(x.aj.ls.length≤x.aj.c∧x.aj.ls.length≤9223372036854775807)) (aP:s5 af.abs Y=a.bB.ai.ls) (di:Ro w D fun w'=>aY w' 3 E a.bB.ai.ls.length (q4 af.cells Y)) (dm:a.bB.ai.ls.length≤F∧a.bB.ai.ls.length≤9223372036854775807) (dw:∀ x ∈ Y,Ro w D (fun w'=>aY w' 2 x.aj.A x.aj.ls.length (q4 aH.cells x.aj.ls))∧(x.aj.ls.length≤x.aj.c∧x.aj.ls.length≤9223372036854775807)) (fM:a.aa.ag.ls.length≤1000∧a.aa.ak.ls.length≤1000∧a.aa.aK.ls.length≤1000∧a.aC.ls.length≤1000∧K.bF.ls.length≤100000) (fO:Mk a) (hr:lK K J f a=r0):
    Calls v5 86 #[vP g0 0,vI J, .agg (iA f.av f.aI f.eO f.aP f.dK f.fA f.aU f.ax f.aX f.eQ f.bG f.aF f.eG f.cZ f.xN f.fe f.cu.aJ f.cu.aR av aV ax ay aW az aB aX aC).toArray] w (dA fun v w'=> ∃ aQ aR aj,v= .tuple #[]∧Own w D w' [blk g0 [vP d 0, .slice aQ r0.bF.ls.length aR] 98,row aQ r0.bF.ls.length aR (q4 bz.cells aj) 42 21,sepL (q4 bz.own aj),mK d a O a.aa.ag.ls.length P Q R h j S T r s t u y z B C E F]∧(s5 bz.abs aj=r0.bF.ls)):=by
 subst bA bC bD
 have dO:=aA ai
 have dP:=aA bB
 have bI:=aA Z
 have bJ:=aA aI
 have bK:=aA aJ
 have bL:=aA aK
 have bM:=aA aO
 have bO:=aA aP
 have dY:=H.rowC (i:=1) rfl
 refine cb Tryz.func86 ?_
 refine sr ?_
 refine dn (gK f av ax ay az aB aC) 42 H ?_
 intro ak fP bE
 refine nt (Ik (sr (Mz rfl (Kz (vP g0 0) (Kz (vP g0 0) (Lz (vP d 0) bE 1 P6 (Kz (vP d 0) (Kz (vP d 0) (Kz (vP d 6) (Lz (.slice h a.aa.aK.ls.length j) bE 4 Tryz.isAgg31 (Kz (vJ a.aa.aK.ls.length) (Mn rfl (bo ?_)))))))))))))
 have ed:=bE.pf []
 obtain⟨ek,aa⟩:=lF fun (g:Nat) w'=>Own w D w' [blk ak (gK f av ax ay az aB aC) 42,blk g0 [vP d 0, .slice L K.bF.ls.length M] 98,row L K.bF.ls.length M (q4 bz.cells G) 42 21,sepL (q4 bz.own G),mK d a O a.aa.ag.ls.length P Q R h j S T r s t u y z B C E F]∧g≤a.aa.aK.ls.length∧eU K J f a a.aa.aK.ls=eU K J f a (List.drop g a.aa.aK.ls)
 refine Wp.loop (fun i:Nat=> [(17,vJ i),(16,vJ a.aa.aK.ls.length),(15, .slice h a.aa.aK.ls.length j),(5,vP ak 0),(0,vP g0 0),(1,vI J)]) ek (fun i=>a.aa.aK.ls.length - i) 0 ⟨rfl,rfl,rfl,rfl,rfl,rfl,trivial⟩ (aa.2 ⟨ed,e6,rfl⟩) ?_
 rintro g fQ dx
 obtain⟨ag,fq,ah⟩:=aa.1 dx
 refine sr (Kz (.bool (decide (((g:Nat):Int) < ((a.aa.aK.ls.length:Nat):Int)))) (nt (Ik ?_)))
 by_cases dz:((g:Nat):Int) < ((a.aa.aK.ls.length:Nat):Int)
 obtain⟨b,N⟩:=dh (ls:=p) (i:=g) aS.len f2 (ag.ro I) e9
 have aZ:=eY Z N
 have fu:=(n _ (D1 N)).2.1
 have fA:s0 (s5 af.abs b.ah.ls)=b.ah.ls.length:=s3 ..
 have dB:mV (s5 af.abs b.ah.ls):=Fp f5 aZ
 have fB:b.ah.ls.length≤1000:=by have q9:=dB.1; rw [s3] at q9; exact q9
 have aF:=drop_at aZ
 refine jT (dT dz) (sk (Ik (bo (sr (fw (.pointer (some ⟨ab h,ao h+g *4,none⟩)) (Iz (lW) rfl rfl ((ag.ro I).addr (i:=g) e6) e6) (fw (.agg (aS.cells b).toArray) (IB rfl (IJ (cs:=(aS.cells b)) Tryz.isAgg56 Tryz.sizeOf56 ((ag.ro I).elem aS.len N f2))) ?_))))))
 refine dn [vI 0, .int .u64 0, .int .u64 0, .slice none 0 0] 56 ag ?_
 intro aT fT eu
 refine df (aS.cells b) 0 eu Tryz.sizeOf56 ?_
 intro fU o
 refine ns (Kz (vP aT 0) (Lz (vI b.aP) o 0 Tryz.isAgg3 (Mz rfl (Kz (.bool (decide (b.aP=J))) (Mz rfl ?_)))))
 by_cases l:b.aP=J
 refine Gz (vP aT 1) (dT l) (Gl (vU b.ax) (dT l) o 0 D2 (Gz (vP ak 7) (dT l) (Gl (vU f.ax) (dT l) o 1 D2 (Gz (.bool (decide (((b.ax:Nat):Int)=((f.ax:Nat):Int)))) (dT l) (fw (.bool (decide (((b.ax:Nat):Int)=((f.ax:Nat):Int)))) (Iw rfl (dT l) rfl) (Mz rfl ?_))))))
 by_cases m:((b.ax:Nat):Int)=((f.ax:Nat):Int)
 refine Gz (vP aT 2) (dT m) (Gl (vU b.aU) (dT m) o 0 D2 (Gz (vP ak 6) (dT m) (Gl (vU f.aU) (dT m) o 1 D2 (Gz (.bool (decide (((b.aU:Nat):Int)=((f.aU:Nat):Int)))) (dT m) (fw (.bool (decide (((b.aU:Nat):Int)=((f.aU:Nat):Int)))) (Iw rfl (dT m) rfl) (nt ?_))))))
 by_cases aU:((b.aU:Nat):Int)=((f.aU:Nat):Int)
 refine jT (dT aU) (sr (Mz rfl (Mz rfl (Kz (vP ak 6) (Lz (vU f.aU) o 1 D2 (Kz (vP aT 3) (Lz (.slice b.ah.A b.ah.ls.length b.ah.c) o 0 Tryz.isAgg40 ?_)))))))
 refine WL.do rfl (IP P7 rfl ?_ (fun _ _ k=>k))
 refine cb P8 ?_
 refine Il (Mz rfl (Mz rfl (Kz (vI (C3.wrap (10+J))) (Mz rfl (Mz rfl (Kz (vP g0 0) (Kz (vP g0 0) (Lz (vP d 0) o 2 P6 (Kz (vP d 0) (Kz (vP d 0) (Kz (vP d 1) (Lz (vU a.aa.ax) o 5 D2 (Mz rfl (Mz rfl (Kz (.agg (iA 2 0 (C3.wrap (10+J)) 0 1 0 f.aU a.aa.ax 0 0 0 0 0 0 0 false ([]) ([]) none 0 0 b.ah.A b.ah.ls.length b.ah.c none 0 0).toArray) ?_)))))))))))))))
 have eB:=o.pb [0,1,5]
 obtain⟨bF,bf⟩:∃ q,dM K (bW.mk 2 0 (C3.wrap (10+J)) 0 1 0 f.aU a.aa.ax 0 0 0 0 0 0 0 false (aL.mk ([]) ([])) (E0 ([])) (E0 (s5 af.abs b.ah.ls)) (E0 ([])))=q:=⟨_,rfl⟩
 obtain⟨fV,dC,bg,dD,fD⟩:=Ja eB
 refine cl P9 (gV _ _ g0 K L M G d (bW.mk 2 0 (C3.wrap (10+J)) 0 1 0 f.aU a.aa.ax 0 0 0 0 0 0 0 false (aL.mk ([]) ([])) (E0 ([])) (E0 (s5 af.abs b.ah.ls)) (E0 ([]))) none 0 0 b.ah.A b.ah.ls.length b.ah.c b.ah.ls none 0 0 bF dC ai rfl (fun _ _=>aY.nil _ _ _) f3 (rfl:s5 af.abs b.ah.ls=s5 af.abs b.ah.ls) f1 (fun w9 h9=>sZ (aA (rfl:s5 af.abs b.ah.ls=s5 af.abs b.ah.ls)) ((bg _ (n _ (D1 N)).1) w9 h9)) (show s0 (s5 af.abs b.ah.ls)≤b.ah.c∧s0 (s5 af.abs b.ah.ls)≤9223372036854775807 from by omega) (fun x9 h9=>⟨bg _ ((n _ (D1 N)).2.2 x9 h9).1,((n _ (D1 N)).2.2 x9 h9).2⟩) rfl (fun _ _=>aY.nil _ _ _) f3 e8 (by first | assumption | exact d9 f5 | exact fun x hx=>absurd hx v7 | exact d9 (Mk.nK f5).1 | exact d9 (Mk.mh f5).1 | exact d9 (Mk.nV f5).1 | exact d9 (Mk.nW f5).1 | exact d9 (Mk.nX f5).1) bf) ?_
 rintro _ gm ⟨eD,eF,eG,rfl,dE,bi,bn⟩
 have dG:=dD _ _ dE
 have fF:=aA bi
 have fG:=dG.rowC (i:=1) rfl
 replace bn:bF.bF.ls.length=K.bF.ls.length+1:=bn
 refine C4 (IL (res0 rfl) (nt (rt (bR (tR (tR (bR (tR (Fin.res (res0 rfl) ?_)))))))))
 have eH:=dG.pk [0,1,2,5]
 obtain rfl:_=bF:=hr.symm.trans (gL (et (ah) (et (congrArg (fun q=>eU K J f a q) aF) (et (ip l) (et (ip m) (et (ip aU) (ae bf)))))))
 exact⟨eD,eF,eG,rfl,eH,bi⟩
 refine jF (dF aU) (IU (bN (Iq (Il (fw (vJ (g+1)) (Ir (e:=C3.wrap (((g:Nat):Int)+1)) yk f0) (Mz rfl (C4 ?_)))))))
 have eO:=o.px [] [0] []
 exact II (g+1) ⟨rfl,rfl,rfl,rfl,rfl,rfl,trivial⟩ (aa.2 ⟨eO,e6,et (ah) (et (congrArg (fun q=>eU K J f a q) aF) (et (ip l) (et (ip m) (iN aU))))⟩) (by show a.aa.aK.ls.length - (g+1) < a.aa.aK.ls.length - g; omega)
 refine Sz (dF m) (Sz (dF m) (Sz (dF m) (Sz (dF m) (Sz (dF m) (fw (.bool false) (Io rfl (dF m) rfl) (nt (jf (IU (bN (Iq (Il (fw (vJ (g+1)) (Ir (e:=C3.wrap (((g:Nat):Int)+1)) yk f0) (Mz rfl (C4 ?_))))))))))))))
 have eP:=o.px [] [0] []
 exact II (g+1) ⟨rfl,rfl,rfl,rfl,rfl,rfl,trivial⟩ (aa.2 ⟨eP,e6,et (ah) (et (congrArg (fun q=>eU K J f a q) aF) (et (ip l) (iN m)))⟩) (by show a.aa.aK.ls.length - (g+1) < a.aa.aK.ls.length - g; omega)
 refine Sz (dF l) (Sz (dF l) (Sz (dF l) (Sz (dF l) (Sz (dF l) (fw (.bool false) (Io rfl (dF l) rfl) (Mz rfl (Sz rfl (Sz rfl (Sz rfl (Sz rfl (Sz rfl (fw (.bool false) (Io rfl rfl rfl) (nt (jf (IU (bN (Iq (Il (fw (vJ (g+1)) (Ir (e:=C3.wrap (((g:Nat):Int)+1)) yk f0) (Mz rfl (C4 ?_)))))))))))))))))))))
 have eQ:=o.px [] [0] []
 exact II (g+1) ⟨rfl,rfl,rfl,rfl,rfl,rfl,trivial⟩ (aa.2 ⟨eQ,e6,et (ah) (et (congrArg (fun q=>eU K J f a q) aF) (iN l))⟩) (by show a.aa.aK.ls.length - (g+1) < a.aa.aK.ls.length - g; omega)
 refine jF (dF dz) (Wp.exit (IC ?_))
 have dH:eU K J f a a.aa.aK.ls=Sum.inl ():=et (ah) (et (congrArg (fun q=>eU K J f a q) (dZ (ls:=a.aa.aK.ls) (i:=g) e6)) rfl)
 refine IC (IK (Iq (Il (Mz rfl (Mz rfl (Kz (vP ak 6) (Lz (vU f.aU) ag 0 D2 ?_)))))))
 refine WL.do rfl (IP P7 rfl ?_ (fun _ _ k=>k))
 refine cb P8 ?_
 refine Il (Mz rfl (Mz rfl (Kz (vI (C3.wrap (10+J))) (Mz rfl (Mz rfl (Kz (vP g0 0) (Kz (vP g0 0) (Lz (vP d 0) ag 1 P6 (Kz (vP d 0) (Kz (vP d 0) (Kz (vP d 1) (Lz (vU a.aa.ax) ag 4 D2 (Mz rfl (Mz rfl (Kz (.agg (iA 2 0 (C3.wrap (10+J)) 0 2 0 f.aU a.aa.ax 0 0 0 0 0 0 0 false ([]) ([]) none 0 0 none 0 0 none 0 0).toArray) ?_)))))))))))))))
 have eT:=ag.pb [0,4]
 obtain⟨bG,bq⟩:∃ q,dM K (bW.mk 2 0 (C3.wrap (10+J)) 0 2 0 f.aU a.aa.ax 0 0 0 0 0 0 0 false (aL.mk ([]) ([])) (E0 ([])) (E0 ([])) (E0 ([])))=q:=⟨_,rfl⟩
 obtain⟨gp,dI,fH,dJ,fI⟩:=Ja eT
 refine cl P9 (gV _ _ g0 K L M G d (bW.mk 2 0 (C3.wrap (10+J)) 0 2 0 f.aU a.aa.ax 0 0 0 0 0 0 0 false (aL.mk ([]) ([])) (E0 ([])) (E0 ([])) (E0 ([]))) none 0 0 none 0 0 [] none 0 0 bG dI ai rfl (fun _ _=>aY.nil _ _ _) f3 rfl rfl (fun _ _=>aY.nil _ _ _) f3 (fun _ h9=>absurd h9 v7) rfl (fun _ _=>aY.nil _ _ _) f3 e8 (by first | assumption | exact d9 f5 | exact fun x hx=>absurd hx v7 | exact d9 (Mk.nK f5).1 | exact d9 (Mk.mh f5).1 | exact d9 (Mk.nV f5).1 | exact d9 (Mk.nW f5).1 | exact d9 (Mk.nX f5).1) bq) ?_
 rintro _ gq ⟨eX,eZ,fe,rfl,dK,bu,bv⟩
 have dL:=dJ _ _ dK
 have fJ:=aA bu
 have fK:=dL.rowC (i:=1) rfl
 replace bv:bG.bF.ls.length=K.bF.ls.length+1:=bv
 refine C4 (IL (res0 rfl) (C4 (IL (res0 rfl) ?_)))
 have fo:=dL.px [] [3] []
 obtain rfl:_=bG:=hr.symm.trans (et (mF dH) (ae bq))
 exact⟨eX,eZ,fe,rfl,fo,bu⟩
def dL (k:bU) (e:Int) (c:Nat) (d:Int) (g:List aQ) (a:aD):bU × aD:=
 bnd (iT g) fun b=>if((C6 e:Nat):Int)=1 then bnd (dM k (bW.mk 2 0 (10+e) 0 d 0 c a.aa.ax 0 0 0 0 0 0 0 false (aL.mk ([]) ([])) (E0 ([])) (E0 g) (E0 ([])))) fun h=>(h,aD.mk a.aa a.bT (E0 a.aC.ls) a.bM (dU.mk true c d (E0 b)) a.bA a.bC a.bB a.dO a.dG a.dH a.dD a.dE) else if((C6 e:Nat):Int)=2 then bnd (dM k (bW.mk 2 0 (10+e) 0 d 0 c a.aa.ax 0 0 0 0 0 0 0 false (aL.mk ([]) ([])) (E0 ([])) (E0 g) (E0 ([])))) fun i=>(i,aD.mk a.aa a.bT (E0 a.aC.ls) a.bM a.bD (dU.mk true c d (E0 b)) a.bC a.bB a.dO a.dG a.dH a.dD a.dE) else if((C6 e:Nat):Int)=3 then bnd (dM k (bW.mk 2 0 (10+e) 0 d 0 c a.aa.ax 0 0 0 0 0 0 0 false (aL.mk ([]) ([])) (E0 ([])) (E0 g) (E0 ([])))) fun j=>(j,aD.mk a.aa a.bT (E0 a.aC.ls) a.bM a.bD a.bA (dU.mk true c d (E0 b)) a.bB a.dO a.dG a.dH a.dD a.dE) else bnd (dM k (bW.mk 2 0 (10+e) 0 d 0 c a.aa.ax 0 0 0 0 0 0 0 false (aL.mk ([]) ([])) (E0 ([])) (E0 g) (E0 ([])))) fun f=>(f,aD.mk a.aa a.bT (E0 a.aC.ls) a.bM a.bD a.bA a.bC (dU.mk true c d (E0 b)) a.dO a.dG a.dH a.dD a.dE)
set_option maxHeartbeats 4000000 in
theorem jM (w D W) (V:bU) (R S L s M N A4 n4 Z d4 h b) (a:aD) (au av ax ay az aB aC aF j l f t u m y z n B C p E F r) (r0:bU) (d:aD) (H:Own w D w [blk W [.pointer (some ⟨b,0,none⟩), .slice R V.bF.ls.length S] 98,row R V.bF.ls.length S (q4 bz.cells L) 42 21,sepL (q4 bz.own L),mK b a au a.aa.ag.ls.length av ax ay az aB aC aF j l t u y z B C E F,row j a.bM.ai.ls.length l (q4 af.cells f) 149 3,sepL (q4 af.own f),row t a.bD.ai.ls.length u (q4 af.cells m) 149 3,sepL (q4 af.own m),row y a.bA.ai.ls.length z (q4 af.cells n) 149 3,sepL (q4 af.own n),row B a.bC.ai.ls.length C (q4 af.cells p) 149 3,sepL (q4 af.own p),row E a.bB.ai.ls.length F (q4 af.cells r) 149 3,sepL (q4 af.own r)]) (O:s5 bz.abs L=V.bF.ls) (aK:s5 af.abs d4=h) (aN:Ro w D fun w'=>aY w' 3 A4 n4 (q4 af.cells d4)) (P:∀ x ∈ d4,Ro w D (fun w'=>aY w' 2 x.aj.A x.aj.ls.length (q4 aH.cells x.aj.ls))∧(x.aj.ls.length≤x.aj.c∧x.aj.ls.length≤9223372036854775807)) (eP:n4=h.length) (gF:h.length *48≤211106232532992) (gG:h.length≤Z) (g:s5 af.abs f=a.bM.ai.ls) (G:s5 af.abs m=a.bD.ai.ls) (I:s5 af.abs n=a.bA.ai.ls) (J:s5 af.abs p=a.bC.ai.ls) (K:s5 af.abs r=a.bB.ai.ls) (gH:V.bF.ls.length≤100000) (gI:1≤s∧s≤4) (gJ:h.length≤1000) (gK:mV h) (hr:dL V s M N h a=(r0,d)):
    Calls v5 106 #[vP W 0,vI s,vU M,vI N, .slice A4 n4 Z] w (dA fun v w'=> ∃ aO aP aa aR aS ag aT aU ah aV aW ai aX aZ aj bf bg ak,v= .tuple #[]∧Own w D w' [blk W [vP b 0, .slice aO r0.bF.ls.length aP] 98,row aO r0.bF.ls.length aP (q4 bz.cells aa) 42 21,sepL (q4 bz.own aa),blk b [vI d.aa.au,vU d.aa.ax,vU d.aa.bG,vU d.aa.aF, .slice au a.aa.ag.ls.length av, .slice ax a.aa.ak.ls.length ay, .slice az a.aa.aK.ls.length aB,vU d.bT, .slice aC a.aC.ls.length aF, .bool d.bM.dB,vU d.bM.bi,vI d.bM.dP, .slice aR d.bM.ai.ls.length aS, .bool d.bD.dB,vU d.bD.bi,vI d.bD.dP, .slice aT d.bD.ai.ls.length aU, .bool d.bA.dB,vU d.bA.bi,vI d.bA.dP, .slice aV d.bA.ai.ls.length aW, .bool d.bC.dB,vU d.bC.bi,vI d.bC.dP, .slice aX d.bC.ai.ls.length aZ, .bool d.bB.dB,vU d.bB.bi,vI d.bB.dP, .slice bf d.bB.ai.ls.length bg,vU d.dO,vU d.dG,vU d.dH,vU d.dD,vU d.dE, .pointer none] 86,row aR d.bM.ai.ls.length aS (q4 af.cells ag) 149 3,sepL (q4 af.own ag),row aT d.bD.ai.ls.length aU (q4 af.cells ah) 149 3,sepL (q4 af.own ah),row aV d.bA.ai.ls.length aW (q4 af.cells ai) 149 3,sepL (q4 af.own ai),row aX d.bC.ai.ls.length aZ (q4 af.cells aj) 149 3,sepL (q4 af.own aj),row bf d.bB.ai.ls.length bg (q4 af.cells ak) 149 3,sepL (q4 af.own ak)]∧(s5 bz.abs aa=r0.bF.ls)∧(s5 af.abs ag=d.bM.ai.ls)∧(s5 af.abs ah=d.bD.ai.ls)∧(s5 af.abs ai=d.bA.ai.ls)∧(s5 af.abs aj=d.bC.ai.ls)∧(s5 af.abs ak=d.bB.ai.ls)∧(r0.bF.ls.length=V.bF.ls.length+1)):=by
 subst eP
 have fP:=aA aK
 have eH:=aA O
 have df:=aA g
 have dh:=aA G
 have di:=aA I
 have dm:=aA J
 have dn:=aA K
 have eQ:=H.rowC (i:=1) rfl
 have dx:=H.rowC (i:=4) rfl
 have dz:=H.rowC (i:=6) rfl
 have dB:=H.rowC (i:=8) rfl
 have dC:=H.rowC (i:=10) rfl
 have dD:=H.rowC (i:=12) rfl
 refine cb Tryz.func106 ?_
 refine Ik ?_
 have eT:=H.pb [3]
 refine oV 13 [] (IE IQ) eT ?_
 intro gL eU
 refine qv 0 rfl rfl (qp W 0 1 rfl (qp W 0 2 rfl (ql 3 rfl 0 P6 rfl rfl rfl (qt (v:=vJ (C6 s)) 4 rfl (fun _ _=>Ir (e:=s) (IA rfl) e6) (qv 5 rfl rfl (qv 6 rfl rfl (qv 7 rfl rfl (qp b 0 10 rfl (qp b 9 11 rfl ?_)))))))))
 obtain⟨Q,X⟩:∃ q,iT h=q:=⟨_,rfl⟩
 obtain⟨gM,dE,bJ,dF,fQ⟩:=Iu eU
 refine qd 8 rfl (IP Tryz.call48 rfl (l8 _ _ A4 h.length Z d4 h Q dE aK (bJ _ aN) (fun x9 h9=>⟨bJ _ (P x9 h9).1,(P x9 h9).2⟩) rfl e6 (by first | assumption | exact d9 f5 | (intro x hx; exact absurd hx v7)) X) ?_)
 rintro _ gN ⟨T,U,bD,rfl,dG,Y⟩
 have dH:=dF _ _ dG
 have fT:=aA Y
 have fU:=dH.rowC (i:=0) rfl
 have bi:=dH.pb [0,1,15]
 refine⟨.inr ⟨_,bi⟩, ?_⟩
 refine qk (.agg #[.bool true,vU M,vI N, .slice T Q.length U]) 9 rfl ?_
 by_cases bE:((C6 s:Nat):Int)=1
 refine qt (v:=vP b 13) 12 rfl (fun _ _=>by(try unfold vJ); rw [show ((C6 s:Nat):Int)=1 from by omega]; exact yk) ?_
 have eX:=bi.pf [15]
 refine qe 13 rfl (Do.store (vs:= [.bool true,vU M,vI N, .slice T Q.length U]) (o:=13) eX rfl rfl Q0 rfl rfl rfl rfl ?_)
 intro gP eY
 have bF:=eY.pb [0,14,15]
 refine⟨.inr ⟨_,bF⟩, ?_⟩
 refine qn (Iq (Il (Mz rfl (Mz rfl (Mz rfl (Mz rfl (Mz rfl ?_)))))))
 refine WL.do rfl (IP P7 rfl ?_ (fun _ _ k=>k))
 refine cb P8 ?_
 refine Il (Mz rfl (Mz rfl (fw (vI (10+s)) (Ir (e:=C3.wrap (10+s)) yk g1) (Mz rfl (Mz rfl (Kz (vP W 0) (Kz (vP W 0) (Lz (vP b 0) bF 0 P6 (Kz (vP b 0) (Kz (vP b 0) (Kz (vP b 1) (Lz (vU a.aa.ax) bF 13 D2 (Mz rfl (Mz rfl (Kz (.agg (iA 2 0 (10+s) 0 N 0 M a.aa.ax 0 0 0 0 0 0 0 false ([]) ([]) none 0 0 A4 h.length Z none 0 0).toArray) ?_)))))))))))))))
 obtain⟨bY,bK⟩:∃ q,dM V (bW.mk 2 0 (10+s) 0 N 0 M a.aa.ax 0 0 0 0 0 0 0 false (aL.mk ([]) ([])) (E0 ([])) (E0 h) (E0 ([])))=q:=⟨_,rfl⟩
 obtain⟨gQ,dI,bL,dJ,fV⟩:=Ja bF
 refine cl P9 (gV _ _ W V R S L b (bW.mk 2 0 (10+s) 0 N 0 M a.aa.ax 0 0 0 0 0 0 0 false (aL.mk ([]) ([])) (E0 ([])) (E0 h) (E0 ([]))) none 0 0 A4 h.length Z d4 none 0 0 bY dI O rfl (fun _ _=>aY.nil _ _ _) f3 aK rfl (bL _ aN) (show h.length≤Z∧h.length≤9223372036854775807 from by omega) (fun x9 h9=>⟨bL _ (P x9 h9).1,(P x9 h9).2⟩) rfl (fun _ _=>aY.nil _ _ _) f3 e8 (by first | assumption | exact d9 f5 | exact fun x hx=>absurd hx v7 | exact d9 (Mk.nK f5).1 | exact d9 (Mk.mh f5).1 | exact d9 (Mk.nV f5).1 | exact d9 (Mk.nW f5).1 | exact d9 (Mk.nX f5).1) bK) ?_
 rintro _ gT ⟨eZ,fe,fo,rfl,dK,bM,bN⟩
 have dN:=dJ _ _ dK
 have fZ:=aA bM
 have gm:=dN.rowC (i:=1) rfl
 replace bN:bY.bF.ls.length=V.bF.ls.length+1:=bN
 refine C4 (IL (res0 rfl) (C4 (IL (res0 rfl) ?_)))
 have fq:=dN.px [0,1,2,13,3,4,14,15] [5,6] []
 obtain⟨rfl,rfl⟩:=fD (hr.symm.trans (show _=(bY,aD.mk a.aa a.bT (E0 a.aC.ls) a.bM (dU.mk true M N (E0 Q)) a.bA a.bC a.bB a.dO a.dG a.dH a.dD a.dE) from et (ae X) (et (ip bE) (ae bK))))
 exact⟨eZ,fe,fo,j,l,f,T,U,bD,y,z,n,B,C,p,E,F,r,rfl,fq,bM,g,Y,I,J,K,i2⟩
 by_cases bZ:((C6 s:Nat):Int)=2
 refine qt (v:=vP b 17) 12 rfl (fun _ _=>by(try unfold vJ); rw [show ((C6 s:Nat):Int)=2 from by omega]; exact yk) ?_
 have fu:=bi.pf [15]
 refine qe 13 rfl (Do.store (vs:= [.bool true,vU M,vI N, .slice T Q.length U]) (o:=17) fu rfl rfl Q0 rfl rfl rfl rfl ?_)
 intro gU fA
 have bG:=fA.pb [0,14,15]
 refine⟨.inr ⟨_,bG⟩, ?_⟩
 refine qn (Iq (Il (Mz rfl (Mz rfl (Mz rfl (Mz rfl (Mz rfl ?_)))))))
 refine WL.do rfl (IP P7 rfl ?_ (fun _ _ k=>k))
 refine cb P8 ?_
 refine Il (Mz rfl (Mz rfl (fw (vI (10+s)) (Ir (e:=C3.wrap (10+s)) yk g1) (Mz rfl (Mz rfl (Kz (vP W 0) (Kz (vP W 0) (Lz (vP b 0) bG 0 P6 (Kz (vP b 0) (Kz (vP b 0) (Kz (vP b 1) (Lz (vU a.aa.ax) bG 13 D2 (Mz rfl (Mz rfl (Kz (.agg (iA 2 0 (10+s) 0 N 0 M a.aa.ax 0 0 0 0 0 0 0 false ([]) ([]) none 0 0 A4 h.length Z none 0 0).toArray) ?_)))))))))))))))
 obtain⟨cu,bO⟩:∃ q,dM V (bW.mk 2 0 (10+s) 0 N 0 M a.aa.ax 0 0 0 0 0 0 0 false (aL.mk ([]) ([])) (E0 ([])) (E0 h) (E0 ([])))=q:=⟨_,rfl⟩
 obtain⟨gW,dO,bP,dP,gp⟩:=Ja bG
 refine cl P9 (gV _ _ W V R S L b (bW.mk 2 0 (10+s) 0 N 0 M a.aa.ax 0 0 0 0 0 0 0 false (aL.mk ([]) ([])) (E0 ([])) (E0 h) (E0 ([]))) none 0 0 A4 h.length Z d4 none 0 0 cu dO O rfl (fun _ _=>aY.nil _ _ _) f3 aK rfl (bP _ aN) (show h.length≤Z∧h.length≤9223372036854775807 from by omega) (fun x9 h9=>⟨bP _ (P x9 h9).1,(P x9 h9).2⟩) rfl (fun _ _=>aY.nil _ _ _) f3 e8 (by first | assumption | exact d9 f5 | exact fun x hx=>absurd hx v7 | exact d9 (Mk.nK f5).1 | exact d9 (Mk.mh f5).1 | exact d9 (Mk.nV f5).1 | exact d9 (Mk.nW f5).1 | exact d9 (Mk.nX f5).1) bO) ?_
 rintro _ gX ⟨fB,fC,fE,rfl,dQ,bQ,bR⟩
 have dR:=dP _ _ dQ
 have gq:=aA bQ
 have gu:=dR.rowC (i:=1) rfl
 replace bR:cu.bF.ls.length=V.bF.ls.length+1:=bR
 refine C4 (IL (res0 rfl) (C4 (IL (res0 rfl) ?_)))
 have fF:=dR.px [0,1,2,13] [7,8] [9,10,11,12]
 obtain⟨rfl,rfl⟩:=fD (hr.symm.trans (show _=(cu,aD.mk a.aa a.bT (E0 a.aC.ls) a.bM a.bD (dU.mk true M N (E0 Q)) a.bC a.bB a.dO a.dG a.dH a.dD a.dE) from et (ae X) (et (iN bE) (et (ip bZ) (ae bO)))))
 exact⟨fB,fC,fE,j,l,f,t,u,m,T,U,bD,B,C,p,E,F,r,rfl,fF,bQ,g,G,Y,J,K,i2⟩
 by_cases dS:((C6 s:Nat):Int)=3
 refine qt (v:=vP b 21) 12 rfl (fun _ _=>by(try unfold vJ); rw [show ((C6 s:Nat):Int)=3 from by omega]; exact yk) ?_
 have fG:=bi.pf [15]
 refine qe 13 rfl (Do.store (vs:= [.bool true,vU M,vI N, .slice T Q.length U]) (o:=21) fG rfl rfl Q0 rfl rfl rfl rfl ?_)
 intro gY fH
 have bH:=fH.pb [0,14,15]
 refine⟨.inr ⟨_,bH⟩, ?_⟩
 refine qn (Iq (Il (Mz rfl (Mz rfl (Mz rfl (Mz rfl (Mz rfl ?_)))))))
 refine WL.do rfl (IP P7 rfl ?_ (fun _ _ k=>k))
 refine cb P8 ?_
 refine Il (Mz rfl (Mz rfl (fw (vI (10+s)) (Ir (e:=C3.wrap (10+s)) yk g1) (Mz rfl (Mz rfl (Kz (vP W 0) (Kz (vP W 0) (Lz (vP b 0) bH 0 P6 (Kz (vP b 0) (Kz (vP b 0) (Kz (vP b 1) (Lz (vU a.aa.ax) bH 13 D2 (Mz rfl (Mz rfl (Kz (.agg (iA 2 0 (10+s) 0 N 0 M a.aa.ax 0 0 0 0 0 0 0 false ([]) ([]) none 0 0 A4 h.length Z none 0 0).toArray) ?_)))))))))))))))
 obtain⟨cz,bS⟩:∃ q,dM V (bW.mk 2 0 (10+s) 0 N 0 M a.aa.ax 0 0 0 0 0 0 0 false (aL.mk ([]) ([])) (E0 ([])) (E0 h) (E0 ([])))=q:=⟨_,rfl⟩
 obtain⟨gZ,dV,bT,dW,gy⟩:=Ja bH
 refine cl P9 (gV _ _ W V R S L b (bW.mk 2 0 (10+s) 0 N 0 M a.aa.ax 0 0 0 0 0 0 0 false (aL.mk ([]) ([])) (E0 ([])) (E0 h) (E0 ([]))) none 0 0 A4 h.length Z d4 none 0 0 cz dV O rfl (fun _ _=>aY.nil _ _ _) f3 aK rfl (bT _ aN) (show h.length≤Z∧h.length≤9223372036854775807 from by omega) (fun x9 h9=>⟨bT _ (P x9 h9).1,(P x9 h9).2⟩) rfl (fun _ _=>aY.nil _ _ _) f3 e8 (by first | assumption | exact d9 f5 | exact fun x hx=>absurd hx v7 | exact d9 (Mk.nK f5).1 | exact d9 (Mk.mh f5).1 | exact d9 (Mk.nV f5).1 | exact d9 (Mk.nW f5).1 | exact d9 (Mk.nX f5).1) bS) ?_
 rintro _ ib ⟨dX,dY,dZ,rfl,cB,bn,bq⟩
 have bV:=dW _ _ cB
 have fI:=aA bn
 have fJ:=bV.rowC (i:=1) rfl
 replace bq:cz.bF.ls.length=V.bF.ls.length+1:=bq
 refine C4 (IL (res0 rfl) (C4 (IL (res0 rfl) ?_)))
 have ed:=bV.px [0,1,2,13] [9,10] [11,12]
 obtain⟨rfl,rfl⟩:=fD (hr.symm.trans (show _=(cz,aD.mk a.aa a.bT (E0 a.aC.ls) a.bM a.bD a.bA (dU.mk true M N (E0 Q)) a.bB a.dO a.dG a.dH a.dD a.dE) from et (ae X) (et (iN bE) (et (iN bZ) (et (ip dS) (ae bS))))))
 exact⟨dX,dY,dZ,j,l,f,t,u,m,y,z,n,T,U,bD,E,F,r,rfl,ed,bn,g,G,I,Y,K,i2⟩
 refine qt (v:=vP b 25) 12 rfl (fun _ _=>by(try unfold vJ); rw [show ((C6 s:Nat):Int)=4 from by omega]; exact yk) ?_
 have ek:=bi.pf [15]
 refine qe 13 rfl (Do.store (vs:= [.bool true,vU M,vI N, .slice T Q.length U]) (o:=25) ek rfl rfl Q0 rfl rfl rfl rfl ?_)
 intro gz eu
 have aJ:=eu.pb [0,14,15]
 refine⟨.inr ⟨_,aJ⟩, ?_⟩
 refine qn (Iq (Il (Mz rfl (Mz rfl (Mz rfl (Mz rfl (Mz rfl ?_)))))))
 refine WL.do rfl (IP P7 rfl ?_ (fun _ _ k=>k))
 refine cb P8 ?_
 refine Il (Mz rfl (Mz rfl (fw (vI (10+s)) (Ir (e:=C3.wrap (10+s)) yk g1) (Mz rfl (Mz rfl (Kz (vP W 0) (Kz (vP W 0) (Lz (vP b 0) aJ 0 P6 (Kz (vP b 0) (Kz (vP b 0) (Kz (vP b 1) (Lz (vU a.aa.ax) aJ 13 D2 (Mz rfl (Mz rfl (Kz (.agg (iA 2 0 (10+s) 0 N 0 M a.aa.ax 0 0 0 0 0 0 0 false ([]) ([]) none 0 0 A4 h.length Z none 0 0).toArray) ?_)))))))))))))))
 obtain⟨bu,bv⟩:∃ q,dM V (bW.mk 2 0 (10+s) 0 N 0 M a.aa.ax 0 0 0 0 0 0 0 false (aL.mk ([]) ([])) (E0 ([])) (E0 h) (E0 ([])))=q:=⟨_,rfl⟩
 obtain⟨gB,cK,bA,cO,fK⟩:=Ja aJ
 refine cl P9 (gV _ _ W V R S L b (bW.mk 2 0 (10+s) 0 N 0 M a.aa.ax 0 0 0 0 0 0 0 false (aL.mk ([]) ([])) (E0 ([])) (E0 h) (E0 ([]))) none 0 0 A4 h.length Z d4 none 0 0 bu cK O rfl (fun _ _=>aY.nil _ _ _) f3 aK rfl (bA _ aN) (show h.length≤Z∧h.length≤9223372036854775807 from by omega) (fun x9 h9=>⟨bA _ (P x9 h9).1,(P x9 h9).2⟩) rfl (fun _ _=>aY.nil _ _ _) f3 e8 (by first | assumption | exact d9 f5 | exact fun x hx=>absurd hx v7 | exact d9 (Mk.nK f5).1 | exact d9 (Mk.mh f5).1 | exact d9 (Mk.nV f5).1 | exact d9 (Mk.nW f5).1 | exact d9 (Mk.nX f5).1) bv) ?_
 rintro _ gD ⟨eB,eD,eF,rfl,cZ,bB,bC⟩
 have bX:=cO _ _ cZ
 have fM:=aA bB
 have fO:=bX.rowC (i:=1) rfl
 replace bC:bu.bF.ls.length=V.bF.ls.length+1:=bC
 refine C4 (IL (res0 rfl) (C4 (IL (res0 rfl) ?_)))
 have eG:=bX.px [0,1,2,13] [11,12] []
 obtain⟨rfl,rfl⟩:=fD (hr.symm.trans (show _=(bu,aD.mk a.aa a.bT (E0 a.aC.ls) a.bM a.bD a.bA a.bC (dU.mk true M N (E0 Q)) a.dO a.dG a.dH a.dD a.dE) from et (ae X) (et (iN bE) (et (iN bZ) (et (iN dS) (ae bv))))))
 exact⟨eB,eD,eF,j,l,f,t,u,m,y,z,n,B,C,p,T,U,bD,rfl,eG,bB,g,G,I,J,Y,i2⟩
def gP (e:Nat) (f:Bool):List Int→List bW→(List bW)
  | [],a=>a
  | c::d,a=>bnd (dM (bU.mk (E0 a)) (bW.mk 5 0 c 0 0 0 0 0 e 0 0 0 0 0 0 f (aL.mk ([]) ([])) (E0 ([])) (E0 ([])) (E0 ([])))) fun b=>gP e f d b.bF.ls
def fV (a:bU) (b:Nat) (c:List Int) (d:Bool):bU:=
 bnd (gP b d c a.bF.ls) fun sLrL=>bU.mk (E0 sLrL)
set_option maxHeartbeats 1000000 in
theorem lm (w D J) (A:bU) (m n f g j M X Y c l) (V:bU) (H:Own w D w [blk J [.pointer (some ⟨g,0,none⟩), .slice m A.bF.ls.length n] 98,row m A.bF.ls.length n (q4 bz.cells f) 42 21,sepL (q4 bz.own f)]) (o:s5 bz.abs f=A.bF.ls) (K:Ro w D fun w'=>aY w' 1 M X (q4 (eI .i64) c)) (Z:X=c.length) (aG:c.length *8≤211106232532992) (aH:A.bF.ls.length+c.length≤1000000) (hr:fV A j c l=V):
    Calls v5 27 #[vP J 0,vU j, .slice M X Y, .bool l] w (dA fun v w'=> ∃ p r d,v= .tuple #[]∧Own w D w' [blk J [vP g 0, .slice p V.bF.ls.length r] 98,row p V.bF.ls.length r (q4 bz.cells d) 42 21,sepL (q4 bz.own d)]∧(s5 bz.abs d=V.bF.ls)):=by
 subst Z
 have W:=aA o
 have aa:=H.rowC (i:=1) rfl
 refine cb Tryz.func27 ?_
 refine sr (Mz rfl (Kz (vJ c.length) (Mn rfl (bo ?_))))
 have af:=H.pf []
 obtain⟨ag,s⟩:=ED fun (a:Nat) t (u:Nat) h b w'=>Own w D w' [blk J [vP g 0, .slice t b.length u] 98,row t b.length u (q4 bz.cells h) 42 21,sepL (q4 bz.own h)]∧s5 bz.abs h=b∧a≤c.length∧b.length=A.bF.ls.length+a∧b.length≤A.bF.ls.length+a∧gP j l c A.bF.ls=gP j l (List.drop a c) b
 refine Wp.loop (fun i:Nat × (Option Addr) × Nat × (List bz) × (List bW)=> [(12,vJ i.1),(11,vJ c.length),(10, .slice M c.length Y),(0,vP J 0),(1,vU j),(3, .bool l)]) ag (fun i=>c.length - i.1) (0,m,n,f,A.bF.ls) ⟨rfl,rfl,rfl,rfl,rfl,rfl,trivial⟩ (s.2 ⟨af,by exact o,e6,e6,e6,rfl⟩) ?_
 rintro ⟨a,t,u,h,b⟩ aI N
 obtain⟨y,z,av,ax,ay,C⟩:=s.1 N
 have az:=aA z
 refine sr (Kz (.bool (decide (((a:Nat):Int) < ((c.length:Nat):Int)))) (nt (Ik ?_)))
 by_cases O:((a:Nat):Int) < ((c.length:Nat):Int)
 obtain⟨B,E⟩:=dh (ls:=c) (i:=a) iL f2 (y.ro K) e9
 have P:=drop_at E
 refine jT (dT O) (sk (Ik (bo (sr (fw (.pointer (some ⟨ab M,ao M+a *1,none⟩)) (Iz (mq) rfl rfl ((y.ro K).addr (i:=a) e6) e6) (fw (vI B) (IB rfl (bJ.one Tryz.isAgg3 (((y.ro K).elem iL E f2).at_ (k:=0) rfl))) (An rfl (Il (Mz rfl (Mz rfl (Mz rfl (Mz rfl (Kz (.agg (iA 5 0 B 0 0 0 0 0 j 0 0 0 0 0 0 l ([]) ([]) none 0 0 none 0 0 none 0 0).toArray) ?_)))))))))))))
 obtain⟨L,F⟩:∃ q,dM (bU.mk (E0 b)) (bW.mk 5 0 B 0 0 0 0 0 j 0 0 0 0 0 0 l (aL.mk ([]) ([])) (E0 ([])) (E0 ([])) (E0 ([])))=q:=⟨_,rfl⟩
 obtain⟨aJ,Q,aB,R,aC⟩:=Ja y
 refine cl P9 (gV _ _ J (bU.mk (E0 b)) t u h g (bW.mk 5 0 B 0 0 0 0 0 j 0 0 0 0 0 0 l (aL.mk ([]) ([])) (E0 ([])) (E0 ([])) (E0 ([]))) none 0 0 none 0 0 [] none 0 0 L Q z rfl (fun _ _=>aY.nil _ _ _) f3 rfl rfl (fun _ _=>aY.nil _ _ _) f3 (fun _ h9=>absurd h9 v7) rfl (fun _ _=>aY.nil _ _ _) f3 e8 (by first | assumption | exact d9 f5 | exact fun x hx=>absurd hx v7 | exact d9 (Mk.nK f5).1 | exact d9 (Mk.mh f5).1 | exact d9 (Mk.nV f5).1 | exact d9 (Mk.nW f5).1 | exact d9 (Mk.nX f5).1) F) ?_
 rintro _ aM ⟨ah,ai,aj,rfl,S,G,I⟩
 have T:=R _ _ S
 have aD:=aA G
 have aF:=T.rowC (i:=1) rfl
 replace I:L.bF.ls.length=b.length+1:=I
 refine C4 (bN (Iq (Il (fw (vJ (a+1)) (Ir (e:=C3.wrap (((a:Nat):Int)+1)) yk f0) (Mz rfl (C4 ?_))))))
 have ak:=T.pf []
 exact II (a+1,ah,ai,aj,L.bF.ls) ⟨rfl,rfl,rfl,rfl,rfl,rfl,trivial⟩ (s.2 ⟨ak,by exact G,e6,e6,e6,et (C) (et (congrArg (fun q=>gP j l q b) P) (ae F))⟩) (by show c.length - (a+1) < c.length - a; omega)
 refine jF (dF O) (Wp.exit (IC ?_))
 have U:gP j l c A.bF.ls=b:=et (C) (et (congrArg (fun q=>gP j l q b) (dZ (ls:=c) (i:=a) e6)) rfl)
 refine IC (IK (IL (res0 rfl) ?_))
 have au:=y.pf []
 obtain rfl:_=bU.mk (E0 b):=hr.symm.trans (ae U)
 exact⟨t,u,h,rfl,au,z⟩
theorem Dr (a:Nat) (b:Bool):∀ (l:List Int) (o:List bW),s0 (gP a b l o)=o.length+l.length
  | [],o=>rfl
  | x::q,o=>by
    simp only [gP,bnd]
    rw [Dr a b q]
    simp only [dM,bnd,List.length_append,List.length_cons,List.length_nil]; omega
theorem Cw {a:bU} {c:Nat} {l:List Int} {b:Bool} {r:bU} (h:fV a c l b=r):r.bF.ls.length=a.bF.ls.length+l.length:=by
 rw [← h]; exact Dr c b l _
end Go.Proofs.YtbkagebjhbphaaaGreat
