/-
 coord: what it answers.
-/
import Derived.Test.YtbkagebjhbphaaaGreatCoM
import Derived.Test.YtbkagebjhbphaaaGreatRc
import Derived.Test.YtbkagebjhbphaaaGreatWc
import Derived.Test.YtbkagebjhbphaaaGreatOc
import Derived.Test.YtbkagebjhbphaaaGreatGc
namespace Go.Proofs.YtbkagebjhbphaaaGreat
open Int renaming toNat→D2
open IntKind renaming i64→C7,u64→D3
open List renaming flatMap→q6,getD→C2,length→s2,length_map→s6,map→s8,mem_of_getElem?→E0,not_mem_nil→B3
open Ll renaming mk→E4
open _root_.Go.Proofs.Tryz renaming call65→O5,call89→O3,func89→O4,isAgg24→O2,isAgg28→E1,prog→y4,sizeOf81→O6
open WL renaming nil→D0
set_option maxRecDepth 100000
open Go.RowKit
set_option linter.unusedVariables false
set_option linter.unusedSectionVars false
set_option linter.unusedSimpArgs false
def gP (a:aB):Nat:=
 D2 (D3.wrap (((D2 (D3.wrap (((fD a.aa.ay 32:Nat):Int)+((a.bP:Nat):Int))):Nat):Int)+1))
theorem qh (w D x) (a:aB) (b c d f g h i j k l n o p q r s t u z) (H:Own w D w [mK x a b a.aa.ag.ls.length c d f g h i j k l n o p q r s t u]) (hr:gP a=z):
    Calls y4 126 #[vP x 0] w (dR fun v w'=>v=vU z∧Own w D w' [mK x a b a.aa.ag.ls.length c d f g h i j k l n o p q r s t u]∧(z≤18446744073709551615)):=by
 refine cb Tryz.func126 ?_
 refine sr (An rfl (FW ?_))
 have y:=H.drew
 refine G8 [] (fun W=> ∃ L',Own w D W ([mK x a b a.aa.ag.ls.length c d f g h i j k l n o p q r s t u]++L')) e7 e7 (Gb Gj) ⟨_,y⟩ ?_
 revert y
 generalize World.drew w=C
 intro y
 refine qv 0 rfl rfl (qp x 0 1 rfl (qp x 0 2 rfl (qp x 1 3 rfl (ql 4 rfl 0 E1 rfl rfl rfl ?_))))
 have B:fD a.aa.ay 32≤18446744073709551615:=oQ _ _
 refine qt (v:=vU (fD a.aa.ay 32)) 5 rfl (fun _ _=>FX (Hz (m:=32) rfl rfl) (fC _)) (qv 6 rfl rfl (qp x 0 7 rfl (qp x 7 8 rfl (ql 9 rfl 0 E1 rfl rfl rfl (qt (v:= .int .u64 ((D2 (D3.wrap (((fD a.aa.ay 32:Nat):Int)+((a.bP:Nat):Int))):Nat):Int)) 10 rfl (fun _ _=>FX (e:=D3.wrap (((fD a.aa.ay 32:Nat):Int)+((a.bP:Nat):Int))) yk (fC _)) (qt (v:= .int .u64 ((D2 (D3.wrap (((D2 (D3.wrap (((fD a.aa.ay 32:Nat):Int)+((a.bP:Nat):Int))):Nat):Int)+1)):Nat):Int)) 11 rfl (fun _ _=>FX (e:=D3.wrap (((D2 (D3.wrap (((fD a.aa.ay 32:Nat):Int)+((a.bP:Nat):Int))):Nat):Int)+1)) yk (fC _)) (qa 12 rfl rfl (qn (FY (rt (rs ?_)))))))))))
 have A:=y.pf []
 obtain rfl:_=D2 (D3.wrap (((D2 (D3.wrap (((fD a.aa.ay 32:Nat):Int)+((a.bP:Nat):Int))):Nat):Int)+1)):=hr.symm.trans rfl
 exact⟨rfl,A,(by first | exact mh _ | omega)⟩
def gG (b:aB):Nat:=
 bnd (gP b) fun a=>bnd (if((b.au.ls.length:Nat):Int) > 0 then bnd (C2 b.au.ls 0 default) fun c=>min a c.aR else a) fun sJrbJ=>if((b.aa.ak.ls.length:Nat):Int) > 0 then bnd (C2 b.aa.ak.ls 0 default) fun d=>min sJrbJ d.aU else sJrbJ
set_option maxHeartbeats 4000000 in
theorem om (w D p) (d:aB) (y z a f B C E b g F G I J K L M N O P Q r0) (H:Own w D w [mK p d y d.aa.ag.ls.length z a f C E b g G I J K L M N O P Q]) (R:s8 aA.abs B=d.aa.ak.ls) (r:Ro w D fun w'=>bA w' 5 a d.aa.ak.ls.length (q6 aA.cells B)) (aF:d.aa.ak.ls.length≤f∧d.aa.ak.ls.length≤9223372036854775807) (af:∀ x ∈ B,Ro w D (fun w'=>bA w' 1 x.av.A x.av.ls.length (q6 (eI .i64) x.av.ls))∧(x.av.ls.length≤x.av.c∧x.av.ls.length≤9223372036854775807)) (S:s8 bz.abs F=d.au.ls) (s:Ro w D fun w'=>bA w' 9 b d.au.ls.length (q6 bz.cells F)) (aG:d.au.ls.length≤g∧d.au.ls.length≤9223372036854775807) (m:∀ x ∈ F,Ro w D (fun w'=>bA w' 6 x.bO.A x.bO.ls.length (q6 bv.cells x.bO.ls))∧(x.bO.ls.length≤x.bO.c∧x.bO.ls.length≤9223372036854775807)∧Ro w D (fun w'=>bA w' 3 x.aD.A x.aD.ls.length (q6 bD.cells x.aD.ls))∧(x.aD.ls.length≤x.aD.c∧x.aD.ls.length≤9223372036854775807)∧(∀ j ∈ x.aD.ls,Ro w D (fun w'=>bA w' 6 j.aF.A j.aF.ls.length (q6 bv.cells j.aF.ls))∧(j.aF.ls.length≤j.aF.c∧j.aF.ls.length≤9223372036854775807)∧Ro w D (fun w'=>bA w' 1 j.aH.A j.aH.ls.length (q6 (eI .i64) j.aH.ls))∧(j.aH.ls.length≤j.aH.c∧j.aH.ls.length≤9223372036854775807))∧Ro w D (fun w'=>bA w' 1 x.bB.A x.bB.ls.length (q6 eL x.bB.ls))∧(x.bB.ls.length≤x.bB.c∧x.bB.ls.length≤9223372036854775807)∧Ro w D (fun w'=>bA w' 1 x.af.A x.af.ls.length (q6 (GD (β:=ae)) x.af.ls))∧(x.af.ls.length≤x.af.c∧x.af.ls.length≤9223372036854775807)∧(∀ j ∈ x.af.ls,Ro w D (fun w'=>bA w' 3 j.A j.ls.length (q6 ae.cells j.ls))∧(j.ls.length≤j.c∧j.ls.length≤9223372036854775807)∧(∀ y2 ∈ j.ls,Ro w D (fun w'=>bA w' 2 y2.aj.A y2.aj.ls.length (q6 aI.cells y2.aj.ls))∧(y2.aj.ls.length≤y2.aj.c∧y2.aj.ls.length≤9223372036854775807)))) (aY:d.aa.ag.ls.length≤1000∧d.aa.ak.ls.length≤1000∧d.aa.aJ.ls.length≤1000∧d.au.ls.length≤1000) (hr:gG d=r0):
    Calls y4 108 #[vP p 0] w (dR fun v w'=>v=vU r0∧Own w D w' [mK p d y d.aa.ag.ls.length z a f C E b g G I J K L M N O P Q]):=by
 have aC:=az R
 have aD:=az S
 refine cb Tryz.func108 ?_
 refine sr (Ar rfl (Mz rfl ?_))
 obtain⟨h,T⟩:∃ q,gP d=q:=⟨_,rfl⟩
 obtain⟨aZ,ah,aO,aj,aP⟩:=Gq H
 refine cl Tryz.call126 (qh _ _ p d y z a f C E b g G I J K L M N O P Q h ah T) ?_
 rintro _ bf ⟨rfl,ak,Z⟩
 have t:=aj _ _ ak
 replace Z:h≤18446744073709551615:=Z
 refine An rfl (FW (sr (Mz rfl (Kz (vP p 0) (Kz (vP p 8) (Lz (.slice b d.au.ls.length g) t 0 Tryz.isAgg79 (Kz (vJ d.au.ls.length) (Kz (.bool (decide (((d.au.ls.length:Nat):Int) > 0))) (nt ?_)))))))))
 obtain⟨aH,U⟩:=mZ fun (n:Nat) w'=>Own w D w' [mK p d y d.aa.ag.ls.length z a f C E b g G I J K L M N O P Q]∧n≤h∧(if((d.au.ls.length:Nat):Int) > 0 then bnd (C2 d.au.ls 0 default) fun au=>min h au.aR else h)=n
 refine GG (fun i:Nat=> [(3,vU i),(2, .int .u64 0),(0,vP p 0)]) aH ?_ ?_
 by_cases X:((d.au.ls.length:Nat):Int) > 0
 refine jT (dT X) (FV (Mz rfl (Mz rfl (Kz (vP p 0) (Kz (vP p 8) (Lz (.slice b d.au.ls.length g) t 0 Tryz.isAgg79 ?_))))))
 obtain⟨o,l⟩:=dK (ls:=F) (i:=0) bz.len f3 (t.ro s) e9
 have av:=fo S l
 have aQ:=(m _ (E0 l)).2.1
 have aR:=(m _ (E0 l)).2.2.2.1
 have aS:s2 (s8 bD.abs o.aD.ls)=o.aD.ls.length:=s6 ..
 have aT:=(m _ (E0 l)).2.2.2.2.2.2.1
 have aU:=(m _ (E0 l)).2.2.2.2.2.2.2.2.1
 have aV:s2 (s8 bK.abs o.af.ls)=o.af.ls.length:=s6 ..
 refine fw (.pointer (some ⟨ab b,ao b+0 *9,none⟩)) (F4 (pu) rfl rfl ((t.ro s).addr (i:=0) e6) e6) (Kz (.pointer (some ⟨ab b,ao b+0 *9,none⟩)) (fw (vU o.aR) (F7 rfl (bX.one E1 (((t.ro s).elem bz.len l f3).at_ (k:=0) rfl))) (fw (vU (min h o.aR)) (FX (e:=if((o.aR:Nat):Int) < ((h:Nat):Int) then((o.aR:Nat):Int) else((h:Nat):Int)) yk e6) (Az rfl (D0 ?_)))))
 have aJ:=t.pf []
 exact Gv (min h o.aR) ⟨rfl,rfl,rfl,trivial⟩ (U.2 ⟨aJ,e6,et (ip X) (ai (bF av))⟩)
 refine jF (dF X) (Gn ?_)
 have aK:=t.pf []
 exact Gv h ⟨rfl,rfl,rfl,trivial⟩ (U.2 ⟨aK,e6,iN X⟩)
 rintro n bg ax
 obtain⟨u,aW,aa⟩:=U.1 ax
 refine FW (sr (Mz rfl (Kz (vP p 0) (Kz (vP p 0) (Kz (vP p 5) (Lz (.slice a d.aa.ak.ls.length f) u 0 Tryz.isAgg30 (Kz (vJ d.aa.ak.ls.length) (Kz (.bool (decide (((d.aa.ak.ls.length:Nat):Int) > 0))) (nt ?_)))))))))
 by_cases Y:((d.aa.ak.ls.length:Nat):Int) > 0
 refine jT (dT Y) (FV (Mz rfl (Mz rfl (Kz (vP p 0) (Kz (vP p 0) (Kz (vP p 5) (Lz (.slice a d.aa.ak.ls.length f) u 0 Tryz.isAgg30 ?_)))))))
 obtain⟨V,W⟩:=dK (ls:=B) (i:=0) aA.len f3 (u.ro r) e9
 have ay:=fo R W
 have aX:=(af _ (E0 W)).2
 refine fw (.pointer (some ⟨ab a,ao a+0 *5,none⟩)) (F4 (kG) rfl rfl ((u.ro r).addr (i:=0) e6) e6) (Kz (.pointer (some ⟨ab a,ao a+0 *5,none⟩)) (fw (vU V.aU) (F7 rfl (bX.one E1 (((u.ro r).elem aA.len W f3).at_ (k:=0) rfl))) (fw (vU (min n V.aU)) (FX (e:=if((V.aU:Nat):Int) < ((n:Nat):Int) then((V.aU:Nat):Int) else((n:Nat):Int)) yk e6) (Ar rfl (Mz rfl (An rfl (rt (rs ?_))))))))
 have aL:=u.pf []
 obtain rfl:_=min n V.aU:=hr.symm.trans (et (ai T) (et (ai aa) (et (ip Y) (ai (bF ay)))))
 exact⟨rfl,aL⟩
 refine jF (dF Y) (sk (sr (Mz rfl (An rfl (rt (rs ?_))))))
 have aM:=u.pf []
 obtain rfl:_=n:=hr.symm.trans (et (ai T) (et (ai aa) (iN Y)))
 exact⟨rfl,aM⟩
def fu (g:bE) (e:Int) (d:bM) (a:aB):List fE→Unit ⊕ bE
  | []=>Sum.inl ()
  | b::c=>if b.aN=e then if((b.ay:Nat):Int)=((d.ay:Nat):Int) then if((b.aO:Nat):Int)=((d.aO:Nat):Int) then bnd (df g (bM.mk 2 0 (C7.wrap (10+e)) 0 1 0 d.aO a.aa.ay 0 0 0 0 0 0 0 false (bI.mk ([]) ([])) (E4 ([])) (E4 b.ah.ls) (E4 ([])))) fun f=>Sum.inr (f) else fu g e d a c else fu g e d a c else fu g e d a c
def lF (c:bE) (d:Int) (e:bM) (a:aB):bE:=
 lp (fu c d e a a.aa.aJ.ls) fun _=>bnd (df c (bM.mk 2 0 (C7.wrap (10+d)) 0 2 0 e.aO a.aa.ay 0 0 0 0 0 0 0 false (bI.mk ([]) ([])) (E4 ([])) (E4 ([])) (E4 ([])))) fun b=>b
set_option maxHeartbeats 4000000 in
theorem tX (w D g0) (K:bE) (L M G J) (f:bM) (av aR ax ay aS aA aG aC aU aD d) (a:aB) (O P Q R h j p S T r s U t u V y z W B C X E F Y) (r0:bE) (H:Own w D w [blk g0 [.pointer (some ⟨d,0,none⟩), .slice L K.bq.ls.length M] 98,row L K.bq.ls.length M (q6 bC.cells G) 42 21,sepL (q6 bC.own G),mK d a O a.aa.ag.ls.length P Q R h j S T r s t u y z B C E F]) (ah:s8 bC.abs G=K.bq.ls) (bq:aR=f.aF.ls.length) (dQ:Ro w D fun w'=>bA w' 6 av f.aF.ls.length (q6 bv.cells f.aF.ls)) (dS:f.aF.ls.length≤ax∧f.aF.ls.length≤9223372036854775807) (bu:s8 ae.abs aG=f.ah.ls) (bz:aS=f.ah.ls.length) (dU:Ro w D fun w'=>bA w' 3 ay f.ah.ls.length (q6 ae.cells aG)) (dV:f.ah.ls.length≤aA∧f.ah.ls.length≤9223372036854775807) (dW:∀ x ∈ aG,Ro w D (fun w'=>bA w' 2 x.aj.A x.aj.ls.length (q6 aI.cells x.aj.ls))∧(x.aj.ls.length≤x.aj.c∧x.aj.ls.length≤9223372036854775807)) (bB:aU=f.ag.ls.length) (dX:Ro w D fun w'=>bA w' 2 aC f.ag.ls.length (q6 aW.cells f.ag.ls)) (dY:f.ag.ls.length≤aD∧f.ag.ls.length≤9223372036854775807) (Z:s8 aT.abs p=a.aa.aJ.ls) (I:Ro w D fun w'=>bA w' 4 h a.aa.aJ.ls.length (q6 aT.cells p)) (bT:a.aa.aJ.ls.length≤j∧a.aa.aJ.ls.length≤9223372036854775807) (n:∀ x ∈ p,Ro w D (fun w'=>bA w' 3 x.ah.A x.ah.ls.length (q6 ae.cells x.ah.ls))∧(x.ah.ls.length≤x.ah.c∧x.ah.ls.length≤9223372036854775807)∧(∀ y1 ∈ x.ah.ls,Ro w D (fun w'=>bA w' 2 y1.aj.A y1.aj.ls.length (q6 aI.cells y1.aj.ls))∧(y1.aj.ls.length≤y1.aj.c∧y1.aj.ls.length≤9223372036854775807))) (aH:s8 ae.abs U=a.bH.af.ls) (bU:Ro w D fun w'=>bA w' 3 r a.bH.af.ls.length (q6 ae.cells U)) (bV:a.bH.af.ls.length≤s∧a.bH.af.ls.length≤9223372036854775807) (bW:∀ x ∈ U,Ro w D (fun w'=>bA w' 2 x.aj.A x.aj.ls.length (q6 aI.cells x.aj.ls))∧(x.aj.ls.length≤x.aj.c∧x.aj.ls.length≤9223372036854775807)) (aJ:s8 ae.abs V=a.bf.af.ls) (bX:Ro w D fun w'=>bA w' 3 t a.bf.af.ls.length (q6 ae.cells V)) (bY:a.bf.af.ls.length≤u∧a.bf.af.ls.length≤9223372036854775807) (bZ:∀ x ∈ V,Ro w D (fun w'=>bA w' 2 x.aj.A x.aj.ls.length (q6 aI.cells x.aj.ls))∧(x.aj.ls.length≤x.aj.c∧x.aj.ls.length≤9223372036854775807)) (aK:s8 ae.abs W=a.bi.af.ls) (cu:Ro w D fun w'=>bA w' 3 y a.bi.af.ls.length (q6 ae.cells W)) (cz:a.bi.af.ls.length≤z∧a.bi.af.ls.length≤9223372036854775807) (cB:∀ x ∈ W,Ro w D (fun w'=>bA w' 2 x.aj.A x.aj.ls.length (q6 aI.cells x.aj.ls))∧(x.aj.ls.length≤x.aj.c∧x.aj.ls.length≤9223372036854775807)) (aL:s8 ae.abs X=a.bn.af.ls) (cK:Ro w D fun w'=>bA w' 3 B a.bn.af.ls.length (q6 ae.cells X)) (cO:a.bn.af.ls.length≤C∧a.bn.af.ls.length≤9223372036854775807) (cZ:∀ x ∈ X,Ro w D (fun w'=>bA w' 2 x.aj.A x.aj.ls.length (q6 aI.cells x.aj.ls))∧(x.aj.ls.length≤x.aj.c∧x.aj.ls.length≤9223372036854775807)) (aM:s8 ae.abs Y=a.aZ.af.ls) (dh:Ro w D fun w'=>bA w' 3 E a.aZ.af.ls.length (q6 ae.cells Y)) (di:a.aZ.af.ls.length≤F∧a.aZ.af.ls.length≤9223372036854775807) (dm:∀ x ∈ Y,Ro w D (fun w'=>bA w' 2 x.aj.A x.aj.ls.length (q6 aI.cells x.aj.ls))∧(x.aj.ls.length≤x.aj.c∧x.aj.ls.length≤9223372036854775807)) (fO:a.aa.ag.ls.length≤1000∧a.aa.ak.ls.length≤1000∧a.aa.aJ.ls.length≤1000∧a.au.ls.length≤1000∧K.bq.ls.length≤100000) (fP:Mk a) (hr:lF K J f a=r0):
    Calls y4 86 #[vP g0 0,vI J, .agg (gD f.aG f.aH f.eP f.aN f.cZ f.eu f.aO f.ay f.aU f.dW f.aX f.aL f.dH f.bZ f.xN f.d9 f.bT.bG f.bT.bU av aR ax ay aS aA aC aU aD).toArray] w (dR fun v w'=> ∃ aN aO aj,v= .tuple #[]∧Own w D w' [blk g0 [vP d 0, .slice aN r0.bq.ls.length aO] 98,row aN r0.bq.ls.length aO (q6 bC.cells aj) 42 21,sepL (q6 bC.own aj),mK d a O a.aa.ag.ls.length P Q R h j S T r s t u y z B C E F]∧(s8 bC.abs aj=r0.bq.ls)):=by
 subst bq bz bB
 have dO:=az ah
 have dP:=az bu
 have bJ:=az Z
 have bK:=az aH
 have bL:=az aJ
 have bO:=az aK
 have bP:=az aL
 have bQ:=az aM
 have dZ:=H.rowC (i:=1) rfl
 refine cb Tryz.func86 ?_
 refine sr ?_
 refine dM (gT f av ax ay aA aC aD) 42 H ?_
 intro ak fQ bD
 refine nt (FW (sr (Mz rfl (Kz (vP g0 0) (Kz (vP g0 0) (Lz (vP d 0) bD 1 O2 (Kz (vP d 0) (Kz (vP d 0) (Kz (vP d 6) (Lz (.slice h a.aa.aJ.ls.length j) bD 4 Tryz.isAgg31 (Kz (vJ a.aa.aJ.ls.length) (Mn rfl (bo ?_)))))))))))))
 have d9:=bD.pf []
 obtain⟨ed,aa⟩:=mZ fun (g:Nat) w'=>Own w D w' [blk ak (gT f av ax ay aA aC aD) 42,blk g0 [vP d 0, .slice L K.bq.ls.length M] 98,row L K.bq.ls.length M (q6 bC.cells G) 42 21,sepL (q6 bC.own G),mK d a O a.aa.ag.ls.length P Q R h j S T r s t u y z B C E F]∧g≤a.aa.aJ.ls.length∧fu K J f a a.aa.aJ.ls=fu K J f a (List.drop g a.aa.aJ.ls)
 refine Wp.loop (fun i:Nat=> [(17,vJ i),(16,vJ a.aa.aJ.ls.length),(15, .slice h a.aa.aJ.ls.length j),(5,vP ak 0),(0,vP g0 0),(1,vI J)]) ed (fun i=>a.aa.aJ.ls.length - i) 0 ⟨rfl,rfl,rfl,rfl,rfl,rfl,trivial⟩ (aa.2 ⟨d9,e6,rfl⟩) ?_
 rintro g fT dn
 obtain⟨af,fe,ag⟩:=aa.1 dn
 refine sr (Kz (.bool (decide (((g:Nat):Int) < ((a.aa.aJ.ls.length:Nat):Int)))) (nt (FW ?_)))
 by_cases dw:((g:Nat):Int) < ((a.aa.aJ.ls.length:Nat):Int)
 obtain⟨b,N⟩:=dK (ls:=p) (i:=g) aT.len f3 (af.ro I) e9
 have aV:=fo Z N
 have fq:=(n _ (E0 N)).2.1
 have fA:s2 (s8 ae.abs b.ah.ls)=b.ah.ls.length:=s6 ..
 have dx:mU (s8 ae.abs b.ah.ls):=D5 f4 aV
 have fB:b.ah.ls.length≤1000:=by have q9:=dx.1; rw [s6] at q9; exact q9
 have aF:=drop_at aV
 refine jT (dT dw) (sk (FW (bo (sr (fw (.pointer (some ⟨ab h,ao h+g *4,none⟩)) (F4 (lN) rfl rfl ((af.ro I).addr (i:=g) e6) e6) (fw (.agg (aT.cells b).toArray) (F7 rfl (Gf (cs:=(aT.cells b)) Tryz.isAgg56 Tryz.sizeOf56 ((af.ro I).elem aT.len N f3))) ?_))))))
 refine dM [vI 0, .int .u64 0, .int .u64 0, .slice none 0 0] 56 af ?_
 intro aP fU ek
 refine dN (aT.cells b) 0 ek Tryz.sizeOf56 ?_
 intro fV o
 refine ns (Kz (vP aP 0) (Lz (vI b.aN) o 0 Tryz.isAgg3 (Mz rfl (Kz (.bool (decide (b.aN=J))) (Mz rfl ?_)))))
 by_cases l:b.aN=J
 refine Gz (vP aP 1) (dT l) (Gl (vU b.ay) (dT l) o 0 E1 (Gz (vP ak 7) (dT l) (Gl (vU f.ay) (dT l) o 1 E1 (Gz (.bool (decide (((b.ay:Nat):Int)=((f.ay:Nat):Int)))) (dT l) (fw (.bool (decide (((b.ay:Nat):Int)=((f.ay:Nat):Int)))) (Gd rfl (dT l) rfl) (Mz rfl ?_))))))
 by_cases m:((b.ay:Nat):Int)=((f.ay:Nat):Int)
 refine Gz (vP aP 2) (dT m) (Gl (vU b.aO) (dT m) o 0 E1 (Gz (vP ak 6) (dT m) (Gl (vU f.aO) (dT m) o 1 E1 (Gz (.bool (decide (((b.aO:Nat):Int)=((f.aO:Nat):Int)))) (dT m) (fw (.bool (decide (((b.aO:Nat):Int)=((f.aO:Nat):Int)))) (Gd rfl (dT m) rfl) (nt ?_))))))
 by_cases aQ:((b.aO:Nat):Int)=((f.aO:Nat):Int)
 refine jT (dT aQ) (sr (Mz rfl (Mz rfl (Kz (vP ak 6) (Lz (vU f.aO) o 1 E1 (Kz (vP aP 3) (Lz (.slice b.ah.A b.ah.ls.length b.ah.c) o 0 Tryz.isAgg40 ?_)))))))
 refine WL.do rfl (Gg O3 rfl ?_ (fun _ _ k=>k))
 refine cb O4 ?_
 refine FV (Mz rfl (Mz rfl (Kz (vI (C7.wrap (10+J))) (Mz rfl (Mz rfl (Kz (vP g0 0) (Kz (vP g0 0) (Lz (vP d 0) o 2 O2 (Kz (vP d 0) (Kz (vP d 0) (Kz (vP d 1) (Lz (vU a.aa.ay) o 5 E1 (Mz rfl (Mz rfl (Kz (.agg (gD 2 0 (C7.wrap (10+J)) 0 1 0 f.aO a.aa.ay 0 0 0 0 0 0 0 false ([]) ([]) none 0 0 b.ah.A b.ah.ls.length b.ah.c none 0 0).toArray) ?_)))))))))))))))
 have eu:=o.pb [0,1,5]
 obtain⟨bF,aX⟩:∃ q,df K (bM.mk 2 0 (C7.wrap (10+J)) 0 1 0 f.aO a.aa.ay 0 0 0 0 0 0 0 false (bI.mk ([]) ([])) (E4 ([])) (E4 (s8 ae.abs b.ah.ls)) (E4 ([])))=q:=⟨_,rfl⟩
 obtain⟨fZ,dz,aY,dA,fD⟩:=Gx eu
 refine cl O5 (fI _ _ g0 K L M G d (bM.mk 2 0 (C7.wrap (10+J)) 0 1 0 f.aO a.aa.ay 0 0 0 0 0 0 0 false (bI.mk ([]) ([])) (E4 ([])) (E4 (s8 ae.abs b.ah.ls)) (E4 ([]))) none 0 0 b.ah.A b.ah.ls.length b.ah.c b.ah.ls none 0 0 bF dz ah rfl (fun _ _=>bA.nil _ _ _) f2 (rfl:s8 ae.abs b.ah.ls=s8 ae.abs b.ah.ls) f0 (fun w9 h9=>pg (az (rfl:s8 ae.abs b.ah.ls=s8 ae.abs b.ah.ls)) ((aY _ (n _ (E0 N)).1) w9 h9)) (show s2 (s8 ae.abs b.ah.ls)≤b.ah.c∧s2 (s8 ae.abs b.ah.ls)≤9223372036854775807 from by omega) (fun x9 h9=>⟨aY _ ((n _ (E0 N)).2.2 x9 h9).1,((n _ (E0 N)).2.2 x9 h9).2⟩) rfl (fun _ _=>bA.nil _ _ _) f2 e8 (by first | assumption | exact dE f4 | exact fun x hx=>absurd hx B3 | exact dE (Mk.l8 f4).1 | exact dE (Mk.lq f4).1 | exact dE (Mk.mo f4).1 | exact dE (Mk.mr f4).1 | exact dE (Mk.mq f4).1) aX) ?_
 rintro _ gp ⟨eB,eD,eF,rfl,dB,aZ,bf⟩
 have dC:=dA _ _ dB
 have fF:=az aZ
 have fG:=dC.rowC (i:=1) rfl
 replace bf:bF.bq.ls.length=K.bq.ls.length+1:=bf
 refine D0 (Gh (res0 rfl) (nt (rt (bR (tR (tR (bR (tR (Fin.res (res0 rfl) ?_)))))))))
 have eG:=dC.pk [0,1,2,5]
 obtain rfl:_=bF:=hr.symm.trans (jq (et (ag) (et (congrArg (fun q=>fu K J f a q) aF) (et (ip l) (et (ip m) (et (ip aQ) (ai aX)))))))
 exact⟨eB,eD,eF,rfl,eG,aZ⟩
 refine jF (dF aQ) (Gn (bN (FY (FV (fw (vJ (g+1)) (FX (e:=C7.wrap (((g:Nat):Int)+1)) yk f1) (Mz rfl (D0 ?_)))))))
 have eH:=o.px [] [0] []
 exact Gc (g+1) ⟨rfl,rfl,rfl,rfl,rfl,rfl,trivial⟩ (aa.2 ⟨eH,e6,et (ag) (et (congrArg (fun q=>fu K J f a q) aF) (et (ip l) (et (ip m) (iN aQ))))⟩) (by show a.aa.aJ.ls.length - (g+1) < a.aa.aJ.ls.length - g; omega)
 refine Sz (dF m) (Sz (dF m) (Sz (dF m) (Sz (dF m) (Sz (dF m) (fw (.bool false) (FZ rfl (dF m) rfl) (nt (jf (Gn (bN (FY (FV (fw (vJ (g+1)) (FX (e:=C7.wrap (((g:Nat):Int)+1)) yk f1) (Mz rfl (D0 ?_))))))))))))))
 have eO:=o.px [] [0] []
 exact Gc (g+1) ⟨rfl,rfl,rfl,rfl,rfl,rfl,trivial⟩ (aa.2 ⟨eO,e6,et (ag) (et (congrArg (fun q=>fu K J f a q) aF) (et (ip l) (iN m)))⟩) (by show a.aa.aJ.ls.length - (g+1) < a.aa.aJ.ls.length - g; omega)
 refine Sz (dF l) (Sz (dF l) (Sz (dF l) (Sz (dF l) (Sz (dF l) (fw (.bool false) (FZ rfl (dF l) rfl) (Mz rfl (Sz rfl (Sz rfl (Sz rfl (Sz rfl (Sz rfl (fw (.bool false) (FZ rfl rfl rfl) (nt (jf (Gn (bN (FY (FV (fw (vJ (g+1)) (FX (e:=C7.wrap (((g:Nat):Int)+1)) yk f1) (Mz rfl (D0 ?_)))))))))))))))))))))
 have eP:=o.px [] [0] []
 exact Gc (g+1) ⟨rfl,rfl,rfl,rfl,rfl,rfl,trivial⟩ (aa.2 ⟨eP,e6,et (ag) (et (congrArg (fun q=>fu K J f a q) aF) (iN l))⟩) (by show a.aa.aJ.ls.length - (g+1) < a.aa.aJ.ls.length - g; omega)
 refine jF (dF dw) (Wp.exit (F6 ?_))
 have dD:fu K J f a a.aa.aJ.ls=Sum.inl ():=et (ag) (et (congrArg (fun q=>fu K J f a q) (eZ (ls:=a.aa.aJ.ls) (i:=g) e6)) rfl)
 refine F6 (Gi (FY (FV (Mz rfl (Mz rfl (Kz (vP ak 6) (Lz (vU f.aO) af 0 E1 ?_)))))))
 refine WL.do rfl (Gg O3 rfl ?_ (fun _ _ k=>k))
 refine cb O4 ?_
 refine FV (Mz rfl (Mz rfl (Kz (vI (C7.wrap (10+J))) (Mz rfl (Mz rfl (Kz (vP g0 0) (Kz (vP g0 0) (Lz (vP d 0) af 1 O2 (Kz (vP d 0) (Kz (vP d 0) (Kz (vP d 1) (Lz (vU a.aa.ay) af 4 E1 (Mz rfl (Mz rfl (Kz (.agg (gD 2 0 (C7.wrap (10+J)) 0 2 0 f.aO a.aa.ay 0 0 0 0 0 0 0 false ([]) ([]) none 0 0 none 0 0 none 0 0).toArray) ?_)))))))))))))))
 have eQ:=af.pb [0,4]
 obtain⟨bG,bg⟩:∃ q,df K (bM.mk 2 0 (C7.wrap (10+J)) 0 2 0 f.aO a.aa.ay 0 0 0 0 0 0 0 false (bI.mk ([]) ([])) (E4 ([])) (E4 ([])) (E4 ([])))=q:=⟨_,rfl⟩
 obtain⟨gq,dG,fH,dH,fJ⟩:=Gx eQ
 refine cl O5 (fI _ _ g0 K L M G d (bM.mk 2 0 (C7.wrap (10+J)) 0 2 0 f.aO a.aa.ay 0 0 0 0 0 0 0 false (bI.mk ([]) ([])) (E4 ([])) (E4 ([])) (E4 ([]))) none 0 0 none 0 0 [] none 0 0 bG dG ah rfl (fun _ _=>bA.nil _ _ _) f2 rfl rfl (fun _ _=>bA.nil _ _ _) f2 (fun _ h9=>absurd h9 B3) rfl (fun _ _=>bA.nil _ _ _) f2 e8 (by first | assumption | exact dE f4 | exact fun x hx=>absurd hx B3 | exact dE (Mk.l8 f4).1 | exact dE (Mk.lq f4).1 | exact dE (Mk.mo f4).1 | exact dE (Mk.mr f4).1 | exact dE (Mk.mq f4).1) bg) ?_
 rintro _ gu ⟨eT,eU,eX,rfl,dI,bi,bn⟩
 have dJ:=dH _ _ dI
 have fK:=az bi
 have fM:=dJ.rowC (i:=1) rfl
 replace bn:bG.bq.ls.length=K.bq.ls.length+1:=bn
 refine D0 (Gh (res0 rfl) (D0 (Gh (res0 rfl) ?_)))
 have eY:=dJ.px [] [3] []
 obtain rfl:_=bG:=hr.symm.trans (et (nU dD) (ai bg))
 exact⟨eT,eU,eX,rfl,eY,bi⟩
def dh (k:bE) (e:Int) (c:Nat) (d:Int) (g:List aS) (a:aB):bE × aB:=
 bnd (iO g) fun b=>if((D2 e:Nat):Int)=1 then bnd (df k (bM.mk 2 0 (10+e) 0 d 0 c a.aa.ay 0 0 0 0 0 0 0 false (bI.mk ([]) ([])) (E4 ([])) (E4 g) (E4 ([])))) fun h=>(h,aB.mk a.aa a.bP (E4 a.au.ls) a.bH (dX.mk true c d (E4 b)) a.bi a.bn a.aZ a.dI a.dz a.dB a.dA a.dC) else if((D2 e:Nat):Int)=2 then bnd (df k (bM.mk 2 0 (10+e) 0 d 0 c a.aa.ay 0 0 0 0 0 0 0 false (bI.mk ([]) ([])) (E4 ([])) (E4 g) (E4 ([])))) fun i=>(i,aB.mk a.aa a.bP (E4 a.au.ls) a.bH a.bf (dX.mk true c d (E4 b)) a.bn a.aZ a.dI a.dz a.dB a.dA a.dC) else if((D2 e:Nat):Int)=3 then bnd (df k (bM.mk 2 0 (10+e) 0 d 0 c a.aa.ay 0 0 0 0 0 0 0 false (bI.mk ([]) ([])) (E4 ([])) (E4 g) (E4 ([])))) fun j=>(j,aB.mk a.aa a.bP (E4 a.au.ls) a.bH a.bf a.bi (dX.mk true c d (E4 b)) a.aZ a.dI a.dz a.dB a.dA a.dC) else bnd (df k (bM.mk 2 0 (10+e) 0 d 0 c a.aa.ay 0 0 0 0 0 0 0 false (bI.mk ([]) ([])) (E4 ([])) (E4 g) (E4 ([])))) fun f=>(f,aB.mk a.aa a.bP (E4 a.au.ls) a.bH a.bf a.bi a.bn (dX.mk true c d (E4 b)) a.dI a.dz a.dB a.dA a.dC)
set_option maxHeartbeats 4000000 in
theorem jP (w D W) (V:bE) (R S L s M N A4 n4 Z d4 h b) (a:aB) (au av ax ay aA aC aD aF j l f t u m y z n B C p E F r) (r0:bE) (d:aB) (H:Own w D w [blk W [.pointer (some ⟨b,0,none⟩), .slice R V.bq.ls.length S] 98,row R V.bq.ls.length S (q6 bC.cells L) 42 21,sepL (q6 bC.own L),mK b a au a.aa.ag.ls.length av ax ay aA aC aD aF j l t u y z B C E F,row j a.bH.af.ls.length l (q6 ae.cells f) 149 3,sepL (q6 ae.own f),row t a.bf.af.ls.length u (q6 ae.cells m) 149 3,sepL (q6 ae.own m),row y a.bi.af.ls.length z (q6 ae.cells n) 149 3,sepL (q6 ae.own n),row B a.bn.af.ls.length C (q6 ae.cells p) 149 3,sepL (q6 ae.own p),row E a.aZ.af.ls.length F (q6 ae.cells r) 149 3,sepL (q6 ae.own r)]) (O:s8 bC.abs L=V.bq.ls) (aK:s8 ae.abs d4=h) (aM:Ro w D fun w'=>bA w' 3 A4 n4 (q6 ae.cells d4)) (P:∀ x ∈ d4,Ro w D (fun w'=>bA w' 2 x.aj.A x.aj.ls.length (q6 aI.cells x.aj.ls))∧(x.aj.ls.length≤x.aj.c∧x.aj.ls.length≤9223372036854775807)) (eP:n4=h.length) (gH:h.length *48≤211106232532992) (gI:h.length≤Z) (g:s8 ae.abs f=a.bH.af.ls) (G:s8 ae.abs m=a.bf.af.ls) (I:s8 ae.abs n=a.bi.af.ls) (J:s8 ae.abs p=a.bn.af.ls) (K:s8 ae.abs r=a.aZ.af.ls) (gJ:V.bq.ls.length≤100000) (gK:1≤s∧s≤4) (gL:h.length≤1000) (gM:mU h) (hr:dh V s M N h a=(r0,d)):
    Calls y4 106 #[vP W 0,vI s,vU M,vI N, .slice A4 n4 Z] w (dR fun v w'=> ∃ aN aO aa aP aQ af aR aT ag aU aV ah aW aX aj aY aZ ak,v= .tuple #[]∧Own w D w' [blk W [vP b 0, .slice aN r0.bq.ls.length aO] 98,row aN r0.bq.ls.length aO (q6 bC.cells aa) 42 21,sepL (q6 bC.own aa),blk b [vI d.aa.av,vU d.aa.ay,vU d.aa.aX,vU d.aa.aL, .slice au a.aa.ag.ls.length av, .slice ax a.aa.ak.ls.length ay, .slice aA a.aa.aJ.ls.length aC,vU d.bP, .slice aD a.au.ls.length aF, .bool d.bH.cB,vU d.bH.aM,vI d.bH.dw, .slice aP d.bH.af.ls.length aQ, .bool d.bf.cB,vU d.bf.aM,vI d.bf.dw, .slice aR d.bf.af.ls.length aT, .bool d.bi.cB,vU d.bi.aM,vI d.bi.dw, .slice aU d.bi.af.ls.length aV, .bool d.bn.cB,vU d.bn.aM,vI d.bn.dw, .slice aW d.bn.af.ls.length aX, .bool d.aZ.cB,vU d.aZ.aM,vI d.aZ.dw, .slice aY d.aZ.af.ls.length aZ,vU d.dI,vU d.dz,vU d.dB,vU d.dA,vU d.dC, .pointer none] 86,row aP d.bH.af.ls.length aQ (q6 ae.cells af) 149 3,sepL (q6 ae.own af),row aR d.bf.af.ls.length aT (q6 ae.cells ag) 149 3,sepL (q6 ae.own ag),row aU d.bi.af.ls.length aV (q6 ae.cells ah) 149 3,sepL (q6 ae.own ah),row aW d.bn.af.ls.length aX (q6 ae.cells aj) 149 3,sepL (q6 ae.own aj),row aY d.aZ.af.ls.length aZ (q6 ae.cells ak) 149 3,sepL (q6 ae.own ak)]∧(s8 bC.abs aa=r0.bq.ls)∧(s8 ae.abs af=d.bH.af.ls)∧(s8 ae.abs ag=d.bf.af.ls)∧(s8 ae.abs ah=d.bi.af.ls)∧(s8 ae.abs aj=d.bn.af.ls)∧(s8 ae.abs ak=d.aZ.af.ls)∧(r0.bq.ls.length=V.bq.ls.length+1)):=by
 subst eP
 have fP:=az aK
 have eH:=az O
 have di:=az g
 have dm:=az G
 have dn:=az I
 have dw:=az J
 have dx:=az K
 have eQ:=H.rowC (i:=1) rfl
 have dA:=H.rowC (i:=4) rfl
 have dB:=H.rowC (i:=6) rfl
 have dC:=H.rowC (i:=8) rfl
 have dD:=H.rowC (i:=10) rfl
 have dF:=H.rowC (i:=12) rfl
 refine cb Tryz.func106 ?_
 refine FW ?_
 have eT:=H.pb [3]
 refine oL 13 [] (Gb Gj) eT ?_
 intro gN eU
 refine qv 0 rfl rfl (qp W 0 1 rfl (qp W 0 2 rfl (ql 3 rfl 0 O2 rfl rfl rfl (qt (v:=vJ (D2 s)) 4 rfl (fun _ _=>FX (e:=s) (F9 rfl) e6) (qv 5 rfl rfl (qv 6 rfl rfl (qv 7 rfl rfl (qp b 0 10 rfl (qp b 9 11 rfl ?_)))))))))
 obtain⟨Q,X⟩:∃ q,iO h=q:=⟨_,rfl⟩
 obtain⟨gP,dG,bK,dH,fQ⟩:=F3 eU
 refine qd 8 rfl (Gg Tryz.call48 rfl (lV _ _ A4 h.length Z d4 h Q dG aK (bK _ aM) (fun x9 h9=>⟨bK _ (P x9 h9).1,(P x9 h9).2⟩) rfl e6 (by first | assumption | exact dE f4 | (intro x hx; exact absurd hx B3)) X) ?_)
 rintro _ gQ ⟨T,U,bB,rfl,dI,Y⟩
 have dJ:=dH _ _ dI
 have fT:=az Y
 have fU:=dJ.rowC (i:=0) rfl
 have bf:=dJ.pb [0,1,15]
 refine⟨.inr ⟨_,bf⟩, ?_⟩
 refine qk (.agg #[.bool true,vU M,vI N, .slice T Q.length U]) 9 rfl ?_
 by_cases bD:((D2 s:Nat):Int)=1
 refine qt (v:=vP b 13) 12 rfl (fun _ _=>by(try unfold vJ); rw [show ((D2 s:Nat):Int)=1 from by omega]; exact yk) ?_
 have eX:=bf.pf [15]
 refine qe 13 rfl (Do.store (vs:= [.bool true,vU M,vI N, .slice T Q.length U]) (o:=13) eX rfl rfl O6 rfl rfl rfl rfl ?_)
 intro gT eY
 have bF:=eY.pb [0,14,15]
 refine⟨.inr ⟨_,bF⟩, ?_⟩
 refine qn (FY (FV (Mz rfl (Mz rfl (Mz rfl (Mz rfl (Mz rfl ?_)))))))
 refine WL.do rfl (Gg O3 rfl ?_ (fun _ _ k=>k))
 refine cb O4 ?_
 refine FV (Mz rfl (Mz rfl (fw (vI (10+s)) (FX (e:=C7.wrap (10+s)) yk g2) (Mz rfl (Mz rfl (Kz (vP W 0) (Kz (vP W 0) (Lz (vP b 0) bF 0 O2 (Kz (vP b 0) (Kz (vP b 0) (Kz (vP b 1) (Lz (vU a.aa.ay) bF 13 E1 (Mz rfl (Mz rfl (Kz (.agg (gD 2 0 (10+s) 0 N 0 M a.aa.ay 0 0 0 0 0 0 0 false ([]) ([]) none 0 0 A4 h.length Z none 0 0).toArray) ?_)))))))))))))))
 obtain⟨bY,bL⟩:∃ q,df V (bM.mk 2 0 (10+s) 0 N 0 M a.aa.ay 0 0 0 0 0 0 0 false (bI.mk ([]) ([])) (E4 ([])) (E4 h) (E4 ([])))=q:=⟨_,rfl⟩
 obtain⟨gU,dK,bN,dL,fV⟩:=Gx bF
 refine cl O5 (fI _ _ W V R S L b (bM.mk 2 0 (10+s) 0 N 0 M a.aa.ay 0 0 0 0 0 0 0 false (bI.mk ([]) ([])) (E4 ([])) (E4 h) (E4 ([]))) none 0 0 A4 h.length Z d4 none 0 0 bY dK O rfl (fun _ _=>bA.nil _ _ _) f2 aK rfl (bN _ aM) (show h.length≤Z∧h.length≤9223372036854775807 from by omega) (fun x9 h9=>⟨bN _ (P x9 h9).1,(P x9 h9).2⟩) rfl (fun _ _=>bA.nil _ _ _) f2 e8 (by first | assumption | exact dE f4 | exact fun x hx=>absurd hx B3 | exact dE (Mk.l8 f4).1 | exact dE (Mk.lq f4).1 | exact dE (Mk.mo f4).1 | exact dE (Mk.mr f4).1 | exact dE (Mk.mq f4).1) bL) ?_
 rintro _ gV ⟨eZ,fe,fo,rfl,dM,bO,bP⟩
 have dN:=dL _ _ dM
 have fZ:=az bO
 have gp:=dN.rowC (i:=1) rfl
 replace bP:bY.bq.ls.length=V.bq.ls.length+1:=bP
 refine D0 (Gh (res0 rfl) (D0 (Gh (res0 rfl) ?_)))
 have fq:=dN.px [0,1,2,13,3,4,14,15] [5,6] []
 obtain⟨rfl,rfl⟩:=gm (hr.symm.trans (show _=(bY,aB.mk a.aa a.bP (E4 a.au.ls) a.bH (dX.mk true M N (E4 Q)) a.bi a.bn a.aZ a.dI a.dz a.dB a.dA a.dC) from et (ai X) (et (ip bD) (ai bL))))
 exact⟨eZ,fe,fo,j,l,f,T,U,bB,y,z,n,B,C,p,E,F,r,rfl,fq,bO,g,Y,I,J,K,i1⟩
 by_cases bZ:((D2 s:Nat):Int)=2
 refine qt (v:=vP b 17) 12 rfl (fun _ _=>by(try unfold vJ); rw [show ((D2 s:Nat):Int)=2 from by omega]; exact yk) ?_
 have fu:=bf.pf [15]
 refine qe 13 rfl (Do.store (vs:= [.bool true,vU M,vI N, .slice T Q.length U]) (o:=17) fu rfl rfl O6 rfl rfl rfl rfl ?_)
 intro gW fA
 have bG:=fA.pb [0,14,15]
 refine⟨.inr ⟨_,bG⟩, ?_⟩
 refine qn (FY (FV (Mz rfl (Mz rfl (Mz rfl (Mz rfl (Mz rfl ?_)))))))
 refine WL.do rfl (Gg O3 rfl ?_ (fun _ _ k=>k))
 refine cb O4 ?_
 refine FV (Mz rfl (Mz rfl (fw (vI (10+s)) (FX (e:=C7.wrap (10+s)) yk g2) (Mz rfl (Mz rfl (Kz (vP W 0) (Kz (vP W 0) (Lz (vP b 0) bG 0 O2 (Kz (vP b 0) (Kz (vP b 0) (Kz (vP b 1) (Lz (vU a.aa.ay) bG 13 E1 (Mz rfl (Mz rfl (Kz (.agg (gD 2 0 (10+s) 0 N 0 M a.aa.ay 0 0 0 0 0 0 0 false ([]) ([]) none 0 0 A4 h.length Z none 0 0).toArray) ?_)))))))))))))))
 obtain⟨cu,bQ⟩:∃ q,df V (bM.mk 2 0 (10+s) 0 N 0 M a.aa.ay 0 0 0 0 0 0 0 false (bI.mk ([]) ([])) (E4 ([])) (E4 h) (E4 ([])))=q:=⟨_,rfl⟩
 obtain⟨gX,dO,bR,dP,gq⟩:=Gx bG
 refine cl O5 (fI _ _ W V R S L b (bM.mk 2 0 (10+s) 0 N 0 M a.aa.ay 0 0 0 0 0 0 0 false (bI.mk ([]) ([])) (E4 ([])) (E4 h) (E4 ([]))) none 0 0 A4 h.length Z d4 none 0 0 cu dO O rfl (fun _ _=>bA.nil _ _ _) f2 aK rfl (bR _ aM) (show h.length≤Z∧h.length≤9223372036854775807 from by omega) (fun x9 h9=>⟨bR _ (P x9 h9).1,(P x9 h9).2⟩) rfl (fun _ _=>bA.nil _ _ _) f2 e8 (by first | assumption | exact dE f4 | exact fun x hx=>absurd hx B3 | exact dE (Mk.l8 f4).1 | exact dE (Mk.lq f4).1 | exact dE (Mk.mo f4).1 | exact dE (Mk.mr f4).1 | exact dE (Mk.mq f4).1) bQ) ?_
 rintro _ gY ⟨fB,fC,fD,rfl,dQ,bS,bT⟩
 have dS:=dP _ _ dQ
 have gu:=az bS
 have gy:=dS.rowC (i:=1) rfl
 replace bT:cu.bq.ls.length=V.bq.ls.length+1:=bT
 refine D0 (Gh (res0 rfl) (D0 (Gh (res0 rfl) ?_)))
 have fE:=dS.px [0,1,2,13] [7,8] [9,10,11,12]
 obtain⟨rfl,rfl⟩:=gm (hr.symm.trans (show _=(cu,aB.mk a.aa a.bP (E4 a.au.ls) a.bH a.bf (dX.mk true M N (E4 Q)) a.bn a.aZ a.dI a.dz a.dB a.dA a.dC) from et (ai X) (et (iN bD) (et (ip bZ) (ai bQ)))))
 exact⟨fB,fC,fD,j,l,f,t,u,m,T,U,bB,B,C,p,E,F,r,rfl,fE,bS,g,G,Y,J,K,i1⟩
 by_cases dU:((D2 s:Nat):Int)=3
 refine qt (v:=vP b 21) 12 rfl (fun _ _=>by(try unfold vJ); rw [show ((D2 s:Nat):Int)=3 from by omega]; exact yk) ?_
 have fF:=bf.pf [15]
 refine qe 13 rfl (Do.store (vs:= [.bool true,vU M,vI N, .slice T Q.length U]) (o:=21) fF rfl rfl O6 rfl rfl rfl rfl ?_)
 intro gZ fG
 have bH:=fG.pb [0,14,15]
 refine⟨.inr ⟨_,bH⟩, ?_⟩
 refine qn (FY (FV (Mz rfl (Mz rfl (Mz rfl (Mz rfl (Mz rfl ?_)))))))
 refine WL.do rfl (Gg O3 rfl ?_ (fun _ _ k=>k))
 refine cb O4 ?_
 refine FV (Mz rfl (Mz rfl (fw (vI (10+s)) (FX (e:=C7.wrap (10+s)) yk g2) (Mz rfl (Mz rfl (Kz (vP W 0) (Kz (vP W 0) (Lz (vP b 0) bH 0 O2 (Kz (vP b 0) (Kz (vP b 0) (Kz (vP b 1) (Lz (vU a.aa.ay) bH 13 E1 (Mz rfl (Mz rfl (Kz (.agg (gD 2 0 (10+s) 0 N 0 M a.aa.ay 0 0 0 0 0 0 0 false ([]) ([]) none 0 0 A4 h.length Z none 0 0).toArray) ?_)))))))))))))))
 obtain⟨cz,bU⟩:∃ q,df V (bM.mk 2 0 (10+s) 0 N 0 M a.aa.ay 0 0 0 0 0 0 0 false (bI.mk ([]) ([])) (E4 ([])) (E4 h) (E4 ([])))=q:=⟨_,rfl⟩
 obtain⟨ib,dV,bV,dW,gz⟩:=Gx bH
 refine cl O5 (fI _ _ W V R S L b (bM.mk 2 0 (10+s) 0 N 0 M a.aa.ay 0 0 0 0 0 0 0 false (bI.mk ([]) ([])) (E4 ([])) (E4 h) (E4 ([]))) none 0 0 A4 h.length Z d4 none 0 0 cz dV O rfl (fun _ _=>bA.nil _ _ _) f2 aK rfl (bV _ aM) (show h.length≤Z∧h.length≤9223372036854775807 from by omega) (fun x9 h9=>⟨bV _ (P x9 h9).1,(P x9 h9).2⟩) rfl (fun _ _=>bA.nil _ _ _) f2 e8 (by first | assumption | exact dE f4 | exact fun x hx=>absurd hx B3 | exact dE (Mk.l8 f4).1 | exact dE (Mk.lq f4).1 | exact dE (Mk.mo f4).1 | exact dE (Mk.mr f4).1 | exact dE (Mk.mq f4).1) bU) ?_
 rintro _ ic ⟨dY,dZ,d9,rfl,cB,bg,bi⟩
 have bW:=dW _ _ cB
 have fH:=az bg
 have fJ:=bW.rowC (i:=1) rfl
 replace bi:cz.bq.ls.length=V.bq.ls.length+1:=bi
 refine D0 (Gh (res0 rfl) (D0 (Gh (res0 rfl) ?_)))
 have ed:=bW.px [0,1,2,13] [9,10] [11,12]
 obtain⟨rfl,rfl⟩:=gm (hr.symm.trans (show _=(cz,aB.mk a.aa a.bP (E4 a.au.ls) a.bH a.bf a.bi (dX.mk true M N (E4 Q)) a.aZ a.dI a.dz a.dB a.dA a.dC) from et (ai X) (et (iN bD) (et (iN bZ) (et (ip dU) (ai bU))))))
 exact⟨dY,dZ,d9,j,l,f,t,u,m,y,z,n,T,U,bB,E,F,r,rfl,ed,bg,g,G,I,Y,K,i1⟩
 refine qt (v:=vP b 25) 12 rfl (fun _ _=>by(try unfold vJ); rw [show ((D2 s:Nat):Int)=4 from by omega]; exact yk) ?_
 have ek:=bf.pf [15]
 refine qe 13 rfl (Do.store (vs:= [.bool true,vU M,vI N, .slice T Q.length U]) (o:=25) ek rfl rfl O6 rfl rfl rfl rfl ?_)
 intro gB eu
 have aJ:=eu.pb [0,14,15]
 refine⟨.inr ⟨_,aJ⟩, ?_⟩
 refine qn (FY (FV (Mz rfl (Mz rfl (Mz rfl (Mz rfl (Mz rfl ?_)))))))
 refine WL.do rfl (Gg O3 rfl ?_ (fun _ _ k=>k))
 refine cb O4 ?_
 refine FV (Mz rfl (Mz rfl (fw (vI (10+s)) (FX (e:=C7.wrap (10+s)) yk g2) (Mz rfl (Mz rfl (Kz (vP W 0) (Kz (vP W 0) (Lz (vP b 0) aJ 0 O2 (Kz (vP b 0) (Kz (vP b 0) (Kz (vP b 1) (Lz (vU a.aa.ay) aJ 13 E1 (Mz rfl (Mz rfl (Kz (.agg (gD 2 0 (10+s) 0 N 0 M a.aa.ay 0 0 0 0 0 0 0 false ([]) ([]) none 0 0 A4 h.length Z none 0 0).toArray) ?_)))))))))))))))
 obtain⟨bn,bq⟩:∃ q,df V (bM.mk 2 0 (10+s) 0 N 0 M a.aa.ay 0 0 0 0 0 0 0 false (bI.mk ([]) ([])) (E4 ([])) (E4 h) (E4 ([])))=q:=⟨_,rfl⟩
 obtain⟨gF,cK,bu,cO,fK⟩:=Gx aJ
 refine cl O5 (fI _ _ W V R S L b (bM.mk 2 0 (10+s) 0 N 0 M a.aa.ay 0 0 0 0 0 0 0 false (bI.mk ([]) ([])) (E4 ([])) (E4 h) (E4 ([]))) none 0 0 A4 h.length Z d4 none 0 0 bn cK O rfl (fun _ _=>bA.nil _ _ _) f2 aK rfl (bu _ aM) (show h.length≤Z∧h.length≤9223372036854775807 from by omega) (fun x9 h9=>⟨bu _ (P x9 h9).1,(P x9 h9).2⟩) rfl (fun _ _=>bA.nil _ _ _) f2 e8 (by first | assumption | exact dE f4 | exact fun x hx=>absurd hx B3 | exact dE (Mk.l8 f4).1 | exact dE (Mk.lq f4).1 | exact dE (Mk.mo f4).1 | exact dE (Mk.mr f4).1 | exact dE (Mk.mq f4).1) bq) ?_
 rintro _ gG ⟨eB,eD,eF,rfl,cZ,bv,bz⟩
 have bX:=cO _ _ cZ
 have fM:=az bv
 have fO:=bX.rowC (i:=1) rfl
 replace bz:bn.bq.ls.length=V.bq.ls.length+1:=bz
 refine D0 (Gh (res0 rfl) (D0 (Gh (res0 rfl) ?_)))
 have eG:=bX.px [0,1,2,13] [11,12] []
 obtain⟨rfl,rfl⟩:=gm (hr.symm.trans (show _=(bn,aB.mk a.aa a.bP (E4 a.au.ls) a.bH a.bf a.bi a.bn (dX.mk true M N (E4 Q)) a.dI a.dz a.dB a.dA a.dC) from et (ai X) (et (iN bD) (et (iN bZ) (et (iN dU) (ai bq))))))
 exact⟨eB,eD,eF,j,l,f,t,u,m,y,z,n,B,C,p,T,U,bB,rfl,eG,bv,g,G,I,J,Y,i1⟩
def gV (e:Nat) (f:Bool):List Int→List bM→(List bM)
  | [],a=>a
  | c::d,a=>bnd (df (bE.mk (E4 a)) (bM.mk 5 0 c 0 0 0 0 0 e 0 0 0 0 0 0 f (bI.mk ([]) ([])) (E4 ([])) (E4 ([])) (E4 ([])))) fun b=>gV e f d b.bq.ls
def eG (a:bE) (b:Nat) (c:List Int) (d:Bool):bE:=
 bnd (gV b d c a.bq.ls) fun sLrL=>bE.mk (E4 sLrL)
set_option maxHeartbeats 1000000 in
theorem kF (w D J) (A:bE) (m n f g j M X Y c l) (V:bE) (H:Own w D w [blk J [.pointer (some ⟨g,0,none⟩), .slice m A.bq.ls.length n] 98,row m A.bq.ls.length n (q6 bC.cells f) 42 21,sepL (q6 bC.own f)]) (o:s8 bC.abs f=A.bq.ls) (K:Ro w D fun w'=>bA w' 1 M X (q6 (eI .i64) c)) (Z:X=c.length) (aG:c.length *8≤211106232532992) (aH:A.bq.ls.length+c.length≤1000000) (hr:eG A j c l=V):
    Calls y4 27 #[vP J 0,vU j, .slice M X Y, .bool l] w (dR fun v w'=> ∃ p r d,v= .tuple #[]∧Own w D w' [blk J [vP g 0, .slice p V.bq.ls.length r] 98,row p V.bq.ls.length r (q6 bC.cells d) 42 21,sepL (q6 bC.own d)]∧(s8 bC.abs d=V.bq.ls)):=by
 subst Z
 have W:=az o
 have aa:=H.rowC (i:=1) rfl
 refine cb Tryz.func27 ?_
 refine sr (Mz rfl (Kz (vJ c.length) (Mn rfl (bo ?_))))
 have ae:=H.pf []
 obtain⟨af,s⟩:=AU fun (a:Nat) t (u:Nat) h b w'=>Own w D w' [blk J [vP g 0, .slice t b.length u] 98,row t b.length u (q6 bC.cells h) 42 21,sepL (q6 bC.own h)]∧s8 bC.abs h=b∧a≤c.length∧b.length=A.bq.ls.length+a∧b.length≤A.bq.ls.length+a∧gV j l c A.bq.ls=gV j l (List.drop a c) b
 refine Wp.loop (fun i:Nat × (Option Addr) × Nat × (List bC) × (List bM)=> [(12,vJ i.1),(11,vJ c.length),(10, .slice M c.length Y),(0,vP J 0),(1,vU j),(3, .bool l)]) af (fun i=>c.length - i.1) (0,m,n,f,A.bq.ls) ⟨rfl,rfl,rfl,rfl,rfl,rfl,trivial⟩ (s.2 ⟨ae,by exact o,e6,e6,e6,rfl⟩) ?_
 rintro ⟨a,t,u,h,b⟩ aI N
 obtain⟨y,z,av,ax,ay,C⟩:=s.1 N
 have aA:=az z
 refine sr (Kz (.bool (decide (((a:Nat):Int) < ((c.length:Nat):Int)))) (nt (FW ?_)))
 by_cases O:((a:Nat):Int) < ((c.length:Nat):Int)
 obtain⟨B,E⟩:=dK (ls:=c) (i:=a) iI f3 (y.ro K) e9
 have P:=drop_at E
 refine jT (dT O) (sk (FW (bo (sr (fw (.pointer (some ⟨ab M,ao M+a *1,none⟩)) (F4 (nk) rfl rfl ((y.ro K).addr (i:=a) e6) e6) (fw (vI B) (F7 rfl (bX.one Tryz.isAgg3 (((y.ro K).elem iI E f3).at_ (k:=0) rfl))) (An rfl (FV (Mz rfl (Mz rfl (Mz rfl (Mz rfl (Kz (.agg (gD 5 0 B 0 0 0 0 0 j 0 0 0 0 0 0 l ([]) ([]) none 0 0 none 0 0 none 0 0).toArray) ?_)))))))))))))
 obtain⟨L,F⟩:∃ q,df (bE.mk (E4 b)) (bM.mk 5 0 B 0 0 0 0 0 j 0 0 0 0 0 0 l (bI.mk ([]) ([])) (E4 ([])) (E4 ([])) (E4 ([])))=q:=⟨_,rfl⟩
 obtain⟨aJ,Q,aB,R,aC⟩:=Gx y
 refine cl O5 (fI _ _ J (bE.mk (E4 b)) t u h g (bM.mk 5 0 B 0 0 0 0 0 j 0 0 0 0 0 0 l (bI.mk ([]) ([])) (E4 ([])) (E4 ([])) (E4 ([]))) none 0 0 none 0 0 [] none 0 0 L Q z rfl (fun _ _=>bA.nil _ _ _) f2 rfl rfl (fun _ _=>bA.nil _ _ _) f2 (fun _ h9=>absurd h9 B3) rfl (fun _ _=>bA.nil _ _ _) f2 e8 (by first | assumption | exact dE f4 | exact fun x hx=>absurd hx B3 | exact dE (Mk.l8 f4).1 | exact dE (Mk.lq f4).1 | exact dE (Mk.mo f4).1 | exact dE (Mk.mr f4).1 | exact dE (Mk.mq f4).1) F) ?_
 rintro _ aL ⟨ag,ah,aj,rfl,S,G,I⟩
 have T:=R _ _ S
 have aD:=az G
 have aF:=T.rowC (i:=1) rfl
 replace I:L.bq.ls.length=b.length+1:=I
 refine D0 (bN (FY (FV (fw (vJ (a+1)) (FX (e:=C7.wrap (((a:Nat):Int)+1)) yk f1) (Mz rfl (D0 ?_))))))
 have ak:=T.pf []
 exact Gc (a+1,ag,ah,aj,L.bq.ls) ⟨rfl,rfl,rfl,rfl,rfl,rfl,trivial⟩ (s.2 ⟨ak,by exact G,e6,e6,e6,et (C) (et (congrArg (fun q=>gV j l q b) P) (ai F))⟩) (by show c.length - (a+1) < c.length - a; omega)
 refine jF (dF O) (Wp.exit (F6 ?_))
 have U:gV j l c A.bq.ls=b:=et (C) (et (congrArg (fun q=>gV j l q b) (eZ (ls:=c) (i:=a) e6)) rfl)
 refine F6 (Gi (Gh (res0 rfl) ?_))
 have au:=y.pf []
 obtain rfl:_=bE.mk (E4 b):=hr.symm.trans (ai U)
 exact⟨t,u,h,rfl,au,z⟩
theorem Ct (a:Nat) (b:Bool):∀ (l:List Int) (o:List bM),s2 (gV a b l o)=o.length+l.length
  | [],o=>rfl
  | x::q,o=>by
    simp only [gV,bnd]
    rw [Ct a b q]
    simp only [df,bnd,List.length_append,List.length_cons,List.length_nil]; omega
theorem xR {a:bE} {c:Nat} {l:List Int} {b:Bool} {r:bE} (h:eG a c l b=r):r.bq.ls.length=a.bq.ls.length+l.length:=by
 rw [← h]; exact Ct c b l _
end Go.Proofs.YtbkagebjhbphaaaGreat
