/- The layers told, part 3. Conditions: none beyond each law's own. -/
import Derived.Lib.Hide
import Derived.Shelf.Small.Bits
import Derived.Ground.NamesProg
import Derived.Shelf.SlGeneric
import Derived.Sort.LotA
import Derived.Sort.LotB
import Derived.Sort.LotC
import Derived.Sort.LotD3
import Derived.Sort.LotD5
import Derived.Sort.WalkA14
import Derived.Test.YtndamapfnpihpaaGreatJb
namespace Go.Proofs.YtndamapfnpihpaaGreat
set_option maxRecDepth 100000
set_option linter.unusedVariables false
set_option linter.unusedSimpArgs false
set_option linter.unusedSectionVars false
open Int renaming toNat->E0
open IntKind renaming i64->v7
open List renaming drop->r7,flatMap->q0,flatMap_append->t2,getD->v1,length->q5,length_append->m8,length_cons->q6,length_nil->H2,take->t1,toArray->u3
open _root_.Go.Proofs.Tryz renaming call101->G4,call109->H0,call67->B7,isAgg147->G3,isAgg37->B5,isAgg4->F0,isAgg68->B3,isAgg9->v3,prog->u2,sizeOf149->y4,sizeOf37->B4,sizeOf68->y6,underlying9->u5,underlying97->H1
open WL renaming nil->v8
open Wp renaming exit->v9
section
open Go.RowKit
def ol (d:List UInt8):Nat->Int->Int
  | 0,a=>default
  | c+1,a=>if a >= 0 then bnd (v1 d (E0 a) default) λ b=>if(b.toNat:Int)=255 then ol d c (a - 1) else a else a
def uQ (a:List UInt8):aj × Int:=
 bnd (dV a) λ b=>if b=0 then if(a.length:Int) < 12 then(aj.mk a (a++([0])),0) else bnd (bnd (ol a ((E0 (((a.length - 1:Nat):Int)+1))+1) ((a.length - 1:Nat):Int)) λ sLrbtfJjL=>sLrbtfJjL) λ sJrbtfJ=>if sJrbtfJ < 0 then(aj.mk a [],0) else bnd (v1 a (E0 sJrbtfJ) default) λ c=>(aj.mk a ((t1 (E0 sJrbtfJ) a)++([(c+(1:UInt8))])),0) else(aj.mk [] [],b)
theorem zz (w D a) (r0:aj) (r1) (H:Own w D w []) (hr:uQ a=(r0,r1)):
    Calls u2 159 #[.string ⟨u3 a⟩] w (dG λ v w'=>v= .tuple #[.agg (aj.cells r0).toArray,vI r1]/\Own w D w' []):=by
 unfold uQ at hr
 refine cb Tryz.func159 ?_
 refine sr ?_
 refine bW [.string ⟨u3 []⟩, .string ⟨u3 []⟩] 37 H ?_
 intro j aM Y
 refine An rfl (Gp (sr (Mz rfl ?_)))
 obtain⟨g,h⟩:∃ q,dV a=q:=⟨_,rfl⟩
 obtain⟨aN,O,aF,P,aG⟩:=Gr Y
 refine cl Tryz.call62 (jB _ _ a g O h) ?_
 rintro _ aO ⟨rfl,Q,F,G⟩
 have K:=P _ _ Q
 replace F: ¬ (g=0)\/(1<=a.length/\a.length<=12):=F
 replace G:a.length < 1\/a.length > 12\/g=0:=G
 refine Ar rfl (Mz rfl (fw (.bool (decide (¬ (g=0)))) (GN (e:= !(decide (g=0))) yk decide_not.symm) (nt ?_)))
 by_cases n:g=0
 refine jF (dF (Ko n)) (sk (Gp (sr (Mz rfl (Kz (vJ a.length) (Kz (.bool (decide ((a.length:Int) < 12))) (nt ?_)))))))
 by_cases p:(a.length:Int) < 12
 refine jT (decide_eq_true p) (sr (Mz rfl (Mz rfl (fw (.string ⟨u3 (a++([0]))⟩) (IB rfl rfl g5) (Kz (.agg #[.string ⟨u3 a⟩, .string ⟨u3 (a++([0]))⟩]) ?_)))))
 refine bY [.string ⟨u3 a⟩, .string ⟨u3 (a++([0]))⟩] 0 K B4 ?_
 intro aP R
 refine An rfl (rt (tR (GM (fK (vs:= [.agg #[.string ⟨u3 a⟩, .string ⟨u3 (a++([0]))⟩],vI 0]) rfl (bT.cell rfl (GJ (cs:= [.string ⟨u3 a⟩, .string ⟨u3 (a++([0]))⟩]) B5 B4 ((R.cls (i:=0) rfl).lit (k:=0) (m:=2) rfl)) (bT.tmp rfl bT.nil)) (Kk rfl)) ?_)))
 have Z:=R.pk []
 obtain⟨rfl,rfl⟩:=fC (zj hr zq3)
 exact⟨rfl,Z⟩
 refine jF (dF p) (sk (sr (Mz rfl (Kz (vJ a.length) (fw (vJ (a.length - 1)) (Gw (e:=v7.wrap ((a.length:Int) - 1)) yk f1) (An rfl (Gp ?_)))))))
 obtain⟨aa,r⟩:=mP λ (b:Int) w'=>Own w D w' [blk j [.string ⟨u3 []⟩, .string ⟨u3 []⟩] 37]/\(-9223372036854775808<=b/\b<=9223372036854775807)/\b < a.length/\(bnd (ol a ((E0 (((a.length - 1:Nat):Int)+1))+1) ((a.length - 1:Nat):Int)) λ sLrbtfJjL=>sLrbtfJjL)=b
 refine Iq (λ i:Int=> [(5,vI i),(3,vI 0),(2,vP j 0),(0, .string ⟨u3 a⟩)]) aa ?_ ?_
 refine bo ?_
 have af:=K.pf []
 obtain⟨ag,s⟩:=ER λ (c:Int) (u:Nat) w'=>Own w D w' [blk j [.string ⟨u3 []⟩, .string ⟨u3 []⟩] 37]/\ -1<=c/\c < a.length/\E0 (c+1) < u/\ol a ((E0 (((a.length - 1:Nat):Int)+1))+1) ((a.length - 1:Nat):Int)=ol a u c
 refine Wp.loop (λ i:Int × Nat=> [(5,vI i.1),(3,vI 0),(2,vP j 0),(0, .string ⟨u3 a⟩)]) ag (λ i=>i.2) (((a.length - 1:Nat):Int),(E0 (((a.length - 1:Nat):Int)+1))+1) ⟨rfl,rfl,rfl,rfl,trivial⟩ (s.2 ⟨af,e8,e8,e8,rfl⟩) ?_
 rintro ⟨c,u⟩ aQ S
 show Wp _ _ _ [(5,vI c),(3,vI 0),(2,vP j 0),(0, .string ⟨u3 a⟩)] _ _
 obtain⟨L,aH,aI,aJ,x⟩:=s.1 S
 obtain⟨M,T⟩:∃ q,u=q+1:=⟨u - 1,e8⟩
 subst T
 refine Gp (sr (Mz rfl (Kz (.bool (decide (c >= 0))) (Mz rfl ?_))))
 by_cases f:c >= 0
 refine gw (.string ⟨u3 a⟩) (dT f) (Gv rfl) (gw (vJ (E0 c)) (dT f) (Gw (e:=c) (Gv rfl) e8) ?_)
 obtain⟨B,z⟩:=mK (ls:=a) (i:=E0 c) e8
 refine gw (.int .u8 (B.toNat:Int)) (dT f) (Iu u5 rfl rfl z) (Gz (.bool (decide ((B.toNat:Int)=255))) (dT f) (fw (.bool (decide ((B.toNat:Int)=255))) (Gu rfl (dT f) rfl) (nt ?_)))
 by_cases C:(B.toNat:Int)=255
 refine jT (dT C) (sk (bo (Gq (Mz rfl (fw (vI (c - 1)) (Gw (e:=v7.wrap (c - 1)) yk i4) (Az rfl (v8 (bN ?_))))))))
 have ah:=L.pf []
 exact GL (c - 1,M) ⟨rfl,rfl,rfl,rfl,trivial⟩ (s.2 ⟨ah,e8,e8,e8,et (x) (et (ip f) (et (ae (bz z)) (ip C)))⟩) (by show M < M+1; omega)
 refine jF (dF C) (v9 (GK (GK (GR ?_))))
 have ai:=L.pf []
 exact Ia c ⟨rfl,rfl,rfl,rfl,trivial⟩ (r.2 ⟨ai,e8,e8,ae (et (x) (et (ip f) (et (ae (bz z)) (iN C))))⟩)
 refine Sz (dF f) (Sz (dF f) (Sz (dF f) (Sz (dF f) (fw (.bool false) (Gm rfl (dF f) rfl) (nt (jf (v9 (GK (GK (GR ?_))))))))))
 have ak:=L.pf []
 exact Ia c ⟨rfl,rfl,rfl,rfl,trivial⟩ (r.2 ⟨ak,e8,e8,ae (et (x) (iN f))⟩)
 rintro b aR U
 show Wp _ _ _ [(5,vI b),(3,vI 0),(2,vP j 0),(0, .string ⟨u3 a⟩)] _ _
 obtain⟨V,aK,aL,I⟩:=r.1 U
 refine Gp (sr (Mz rfl (Kz (.bool (decide (b < 0))) (nt ?_))))
 by_cases E:b < 0
 refine jT (dT E) (sr (Mz rfl (Kz (.agg #[.string ⟨u3 a⟩, .string ⟨u3 []⟩]) ?_)))
 refine bY [.string ⟨u3 a⟩, .string ⟨u3 []⟩] 0 V B4 ?_
 intro aS W
 refine An rfl (rt (tR (GM (fK (vs:= [.agg #[.string ⟨u3 a⟩, .string ⟨u3 []⟩],vI 0]) rfl (bT.cell rfl (GJ (cs:= [.string ⟨u3 a⟩, .string ⟨u3 []⟩]) B5 B4 ((W.cls (i:=0) rfl).lit (k:=0) (m:=2) rfl)) (bT.tmp rfl bT.nil)) (Kk rfl)) ?_)))
 have au:=W.pk []
 obtain⟨rfl,rfl⟩:=fC (zj hr zq5)
 exact⟨rfl,au⟩
 refine jF (dF E) (sk (Gp ?_))
 refine Bq [] (GD GQ) V ?_
 intro aT av
 refine qv 0 rfl rfl (qv 1 rfl rfl (qt (v:=vJ (E0 b)) 2 rfl (λ _ _=>Gw (e:=b) (Gv rfl) e8) (qt (v:= .string ⟨u3 (t1 (E0 b) a)⟩) 3 rfl (λ _ _=>Jh u5 rfl rfl g5) (qv 4 rfl rfl (qt (v:=vJ (E0 b)) 5 rfl (λ _ _=>Gw (e:=b) (Gv rfl) e8) ?_)))))
 obtain⟨d,J⟩:=mK (ls:=a) (i:=E0 b) e8
 refine qt (v:= .int .u8 (d.toNat:Int)) 6 rfl (λ _ _=>Iu u5 rfl rfl J) (qt (v:= .int .u8 (((d+(1:UInt8)).toNat:Nat):Int)) 7 rfl (λ _ _=>Gw (e:=IntKind.u8.wrap ((d.toNat:Int)+1)) yk (Cr d (1:UInt8))) ?_)
 refine qd 8 rfl (Hw (cs:= [.int .u8 (((d+(1:UInt8)).toNat:Nat):Int)]) (t:=5) (sz:=1) (m:=1) av rfl rfl (λ _=>by kernel_rfl) rfl f5 ?_)
 intro ax aU A
 replace A:=Ha (y:=row ax 1 1 (q0 eB ([(d+(1:UInt8))])) 5 1) rfl A
 refine⟨.inr ⟨_,A⟩, ?_⟩
 refine FN A (qt (v:= .string ⟨u3 ([(d+(1:UInt8))])⟩) 9 rfl (λ _ ⟨_,H9⟩=>IR (l:= [(d+(1:UInt8))]) Tryz.underlying186 Tryz.underlying5 u5 (H9.rds (i:=0) rfl) rfl) (qt (v:= .string ⟨u3 ((t1 (E0 b) a)++([(d+(1:UInt8))]))⟩) 10 rfl (λ _ _=>IB rfl rfl g5) (qk (.agg #[.string ⟨u3 a⟩, .string ⟨u3 ((t1 (E0 b) a)++([(d+(1:UInt8))]))⟩]) 11 rfl ?_)))
 have ay:=A.pb [0]
 refine qe 12 rfl (Do.store (vs:= [.string ⟨u3 a⟩, .string ⟨u3 ((t1 (E0 b) a)++([(d+(1:UInt8))]))⟩]) (o:=0) ay rfl rfl B4 rfl rfl rfl rfl ?_)
 intro aW az
 have N:=az.pb [0]
 refine⟨.inr ⟨_,N⟩, ?_⟩
 refine qa 13 rfl rfl (qn (Gs (rt (GM (fK (vs:= [.agg #[.string ⟨u3 a⟩, .string ⟨u3 ((t1 (E0 b) a)++([(d+(1:UInt8))]))⟩],vI 0]) rfl (bT.cell rfl (GJ (cs:= [.string ⟨u3 a⟩, .string ⟨u3 ((t1 (E0 b) a)++([(d+(1:UInt8))]))⟩]) B5 B4 ((N.cls (i:=1) rfl).lit (k:=0) (m:=2) rfl)) (bT.tmp rfl bT.nil)) (Kk rfl)) ?_))))
 have aA:=N.pk []
 obtain⟨rfl,rfl⟩:=fC (zj hr zq6)
 exact⟨rfl,aA⟩
 refine jT (dT n) (sr (Kz (.agg #[.string ⟨u3 []⟩, .string ⟨u3 []⟩]) (Mz rfl ?_)))
 refine bY [.string ⟨u3 []⟩, .string ⟨u3 []⟩] 0 K B4 ?_
 intro aX X
 refine An rfl (rt (tR (GM (fK (vs:= [.agg #[.string ⟨u3 []⟩, .string ⟨u3 []⟩],vI g]) rfl (bT.cell rfl (GJ (cs:= [.string ⟨u3 []⟩, .string ⟨u3 []⟩]) B5 B4 ((X.cls (i:=0) rfl).lit (k:=0) (m:=2) rfl)) (bT.tmp rfl bT.nil)) (Kk rfl)) ?_)))
 have aB:=X.pk []
 obtain⟨rfl,rfl⟩:=fC (zj hr zq2)
 exact⟨rfl,aB⟩
def kr (b:aY):aj:=
 bnd (uQ b.aX) λ a=>a.1
theorem mU (w D) (c:aY) (x:aj) (H:Own w D w []) (hr:kr c=x):
    Calls u2 101 #[.agg (aY.cells c).toArray] w (dG λ v w'=>v= .agg (aj.cells x).toArray/\Own w D w' []):=by
 unfold kr at hr
 refine cb Tryz.func101 ?_
 refine sr ?_
 refine bW (aY.cells c) 68 H ?_
 intro n A o
 refine bW [.string ⟨u3 []⟩, .string ⟨u3 []⟩] 37 o ?_
 intro B C d
 refine ns (Kz (vP n 1) (Lz (.string ⟨u3 c.aX⟩) d 1 v3 ?_))
 obtain⟨⟨a,e⟩,b⟩:∃ q:aj × Int,uQ c.aX=q:=⟨_,rfl⟩
 obtain⟨E,f,y,g,z⟩:=Gr d
 refine cl Tryz.call159 (zz _ _ c.aX a e f b) ?_
 rintro _ F ⟨rfl,h⟩
 have p:=g _ _ h
 refine Mz rfl (Kz (.agg (aj.cells a).toArray) (Kz (vI e) ?_))
 refine bW [.string ⟨u3 []⟩, .string ⟨u3 []⟩] 37 p ?_
 intro G I r
 refine bY (aj.cells a) 0 r B4 ?_
 intro J s
 refine An rfl (Gp ?_)
 have j:=s.pk [0,1]
 refine Gq (La (aj.cells a) j 0 B5 B4 ?_)
 have t:=j.pb [0]
 refine bY (aj.cells a) 0 t B4 ?_
 intro K l
 refine nt (rt (GM (oK rfl rfl (GJ (cs:=(aj.cells a)) B5 B4 ((l.cls (i:=0) rfl).lit (k:=0) (m:=2) rfl))) ?_))
 have u:=l.pk []
 obtain rfl:=zj hr zq1
 exact⟨rfl,u⟩
def uB (a:aY):aj × Int:=
 bnd (eQ a) λ b=>if b=0 then if a.az=1 then bnd (kr a) λ f=>(f,0) else if a.az=2 then bnd (kr a) λ g=>(g,0) else if a.az=3 then bnd (kr a) λ c=>(c,0) else if a.az=4 then bnd (fD a) λ d=>(d,0) else bnd (fD a) λ e=>(e,0) else(aj.mk [] [],b)
theorem yg (w D) (a:aY) (r0:aj) (r1) (H:Own w D w []) (hr:uB a=(r0,r1)):
    Calls u2 155 #[.agg (aY.cells a).toArray] w (dG λ v w'=>v= .tuple #[.agg (aj.cells r0).toArray,vI r1]/\Own w D w' []):=by
 unfold uB at hr
 refine cb Tryz.func155 ?_
 refine sr ?_
 refine bW (aY.cells a) 68 H ?_
 intro bz dY bA
 refine bW [.string ⟨u3 []⟩, .string ⟨u3 []⟩] 37 bA ?_
 intro dZ d9 ai
 refine An rfl (Gp (sr (La (aY.cells a) ai 1 B3 y6 ?_)))
 obtain⟨h,b⟩:∃ q,eQ a=q:=⟨_,rfl⟩
 obtain⟨ed,ak,cO,au,cZ⟩:=Gr ai
 refine cl Tryz.call63 (mR _ _ a h ak b) ?_
 rintro _ ek ⟨rfl,av,B⟩
 have j:=au _ _ av
 replace B: ¬ (h=0)\/(1<=a.az/\a.az<=5):=B
 refine Ar rfl (Mz rfl (fw (.bool (decide (¬ (h=0)))) (GN (e:= !(decide (h=0))) yk decide_not.symm) (nt ?_)))
 by_cases c:h=0
 refine jF (dF (Ko c)) (sk (sr (Kz (vP bz 0) (Lz (vI a.az) j 1 Tryz.isAgg3 ?_))))
 by_cases l:a.az=1
 obtain⟨eu,ax,df,ay,dh⟩:=Gr j
 refine cl B7 (nE _ _ a.az ax (of_decide_eq_true (dT l))) ?_
 rintro _ eB ⟨rfl,az⟩
 have bB:=ay _ _ az
 refine Mz rfl (Kz (.agg #[.bool false, .func (.func 99) #[] #[], .func (.func 100) #[] #[], .func (.func 101) #[] #[], .func (.func 102) #[] #[]]) (Kz (.bool true) ?_))
 refine bW [.bool false, .nilFunc, .nilFunc, .nilFunc, .nilFunc] 149 bB ?_
 intro bC eD bD
 refine bY [.bool false, .func (.func 99) #[] #[], .func (.func 100) #[] #[], .func (.func 101) #[] #[], .func (.func 102) #[] #[]] 0 bD y4 ?_
 intro eF K
 refine Ar rfl (Kz (vP bC 3) (Lz (.func (.func 101) #[] #[]) K 0 G3 (La (aY.cells a) K 2 B3 y6 ?_)))
 obtain⟨n,C⟩:∃ q,kr a=q:=⟨_,rfl⟩
 obtain⟨eG,aA,di,aB,dm⟩:=Gr K
 refine WL.do rfl (Hg G4 rfl rfl (mU _ _ a n aA C) ?_)
 rintro _ eH ⟨rfl,aC⟩
 have bE:=aB _ _ aC
 have bF:=bE.pf [1]
 refine bY (aj.cells n) 0 bF B4 ?_
 intro eO aD
 refine An rfl (rt (GM (fK (vs:= [.agg (aj.cells n).toArray,vI 0]) rfl (bT.cell rfl (GJ (cs:=(aj.cells n)) B5 B4 ((aD.cls (i:=0) rfl).lit (k:=0) (m:=2) rfl)) (bT.tmp rfl bT.nil)) (Kk rfl)) ?_))
 have bG:=aD.pk []
 obtain⟨rfl,rfl⟩:=fC (zj hr zq4)
 exact⟨rfl,bG⟩
 by_cases o:a.az=2
 obtain⟨eP,aF,dn,aG,dw⟩:=Gr j
 refine cl B7 (nG _ _ a.az aF (of_decide_eq_true (dT o))) ?_
 rintro _ eT ⟨rfl,aH⟩
 have bH:=aG _ _ aH
 refine Mz rfl (Kz (.agg #[.bool true, .func (.func 103) #[] #[], .func (.func 104) #[] #[], .func (.func 101) #[] #[], .func (.func 105) #[] #[]]) (Kz (.bool true) ?_))
 refine bW [.bool false, .nilFunc, .nilFunc, .nilFunc, .nilFunc] 149 bH ?_
 intro bI eU bJ
 refine bY [.bool true, .func (.func 103) #[] #[], .func (.func 104) #[] #[], .func (.func 101) #[] #[], .func (.func 105) #[] #[]] 0 bJ y4 ?_
 intro eX L
 refine Ar rfl (Kz (vP bI 3) (Lz (.func (.func 101) #[] #[]) L 0 G3 (La (aY.cells a) L 2 B3 y6 ?_)))
 obtain⟨p,E⟩:∃ q,kr a=q:=⟨_,rfl⟩
 obtain⟨eY,aI,dx,aJ,dz⟩:=Gr L
 refine WL.do rfl (Hg G4 rfl rfl (mU _ _ a p aI E) ?_)
 rintro _ eZ ⟨rfl,aK⟩
 have bK:=aJ _ _ aK
 have bL:=bK.pf [1]
 refine bY (aj.cells p) 0 bL B4 ?_
 intro fe aL
 refine An rfl (rt (GM (fK (vs:= [.agg (aj.cells p).toArray,vI 0]) rfl (bT.cell rfl (GJ (cs:=(aj.cells p)) B5 B4 ((aL.cls (i:=0) rfl).lit (k:=0) (m:=2) rfl)) (bT.tmp rfl bT.nil)) (Kk rfl)) ?_))
 have bM:=aL.pk []
 obtain⟨rfl,rfl⟩:=fC (zj hr zq5)
 exact⟨rfl,bM⟩
 by_cases A:a.az=3
 obtain⟨fo,aM,bN,M,bO⟩:=Gr j
 refine cl B7 (nH _ _ a.az aM (of_decide_eq_true (dT A))) ?_
 rintro _ dA ⟨rfl,N⟩
 have aN:=M _ _ N
 refine Mz rfl (Kz (.agg #[.bool true, .func (.func 99) #[] #[], .func (.func 100) #[] #[], .func (.func 101) #[] #[], .func (.func 106) #[] #[]]) (Kz (.bool true) ?_))
 refine bW [.bool false, .nilFunc, .nilFunc, .nilFunc, .nilFunc] 149 aN ?_
 intro aO dB aP
 refine bY [.bool true, .func (.func 99) #[] #[], .func (.func 100) #[] #[], .func (.func 101) #[] #[], .func (.func 106) #[] #[]] 0 aP y4 ?_
 intro dC r
 refine Ar rfl (Kz (vP aO 3) (Lz (.func (.func 101) #[] #[]) r 0 G3 (La (aY.cells a) r 2 B3 y6 ?_)))
 obtain⟨d,s⟩:∃ q,kr a=q:=⟨_,rfl⟩
 obtain⟨dD,O,bP,P,bQ⟩:=Gr r
 refine WL.do rfl (Hg G4 rfl rfl (mU _ _ a d O s) ?_)
 rintro _ dE ⟨rfl,Q⟩
 have aQ:=P _ _ Q
 have aR:=aQ.pf [1]
 refine bY (aj.cells d) 0 aR B4 ?_
 intro dH F
 refine An rfl (rt (GM (fK (vs:= [.agg (aj.cells d).toArray,vI 0]) rfl (bT.cell rfl (GJ (cs:=(aj.cells d)) B5 B4 ((F.cls (i:=0) rfl).lit (k:=0) (m:=2) rfl)) (bT.tmp rfl bT.nil)) (Kk rfl)) ?_))
 have aS:=F.pk []
 obtain⟨rfl,rfl⟩:=fC (zj hr zq6)
 exact⟨rfl,aS⟩
 by_cases t:a.az=4
 obtain⟨dI,R,bR,S,bS⟩:=Gr j
 refine cl B7 (nI _ _ a.az R (of_decide_eq_true (dT t))) ?_
 rintro _ dJ ⟨rfl,T⟩
 have aT:=S _ _ T
 refine Mz rfl (Kz (.agg #[.bool false, .func (.func 107) #[] #[], .func (.func 108) #[] #[], .func (.func 109) #[] #[], .func (.func 110) #[] #[]]) (Kz (.bool true) ?_))
 refine bW [.bool false, .nilFunc, .nilFunc, .nilFunc, .nilFunc] 149 aT ?_
 intro aU dK aV
 refine bY [.bool false, .func (.func 107) #[] #[], .func (.func 108) #[] #[], .func (.func 109) #[] #[], .func (.func 110) #[] #[]] 0 aV y4 ?_
 intro dL u
 refine Ar rfl (Kz (vP aU 3) (Lz (.func (.func 109) #[] #[]) u 0 G3 (La (aY.cells a) u 2 B3 y6 ?_)))
 obtain⟨f,x⟩:∃ q,fD a=q:=⟨_,rfl⟩
 obtain⟨dM,U,bU,V,bV⟩:=Gr u
 refine WL.do rfl (Hg H0 rfl rfl (ll _ _ a f U x) ?_)
 rintro _ dN ⟨rfl,W⟩
 have aW:=V _ _ W
 have aX:=aW.pf [1]
 refine bY (aj.cells f) 0 aX B4 ?_
 intro dO G
 refine An rfl (rt (GM (fK (vs:= [.agg (aj.cells f).toArray,vI 0]) rfl (bT.cell rfl (GJ (cs:=(aj.cells f)) B5 B4 ((G.cls (i:=0) rfl).lit (k:=0) (m:=2) rfl)) (bT.tmp rfl bT.nil)) (Kk rfl)) ?_))
 have aZ:=G.pk []
 obtain⟨rfl,rfl⟩:=fC (zj hr zq7)
 exact⟨rfl,aZ⟩
 have X:(decide (a.az=5))=true:=(dT e8)
 obtain⟨dP,Y,bX,Z,bZ⟩:=Gr j
 refine cl B7 (nJ _ _ a.az Y (of_decide_eq_true X)) ?_
 rintro _ dQ ⟨rfl,aa⟩
 have bf:=Z _ _ aa
 refine Mz rfl (Kz (.agg #[.bool true, .func (.func 111) #[] #[], .func (.func 112) #[] #[], .func (.func 109) #[] #[], .func (.func 113) #[] #[]]) (Kz (.bool true) ?_))
 refine bW [.bool false, .nilFunc, .nilFunc, .nilFunc, .nilFunc] 149 bf ?_
 intro bg dR bi
 refine bY [.bool true, .func (.func 111) #[] #[], .func (.func 112) #[] #[], .func (.func 109) #[] #[], .func (.func 113) #[] #[]] 0 bi y4 ?_
 intro dS y
 refine Ar rfl (Kz (vP bg 3) (Lz (.func (.func 109) #[] #[]) y 0 G3 (La (aY.cells a) y 2 B3 y6 ?_)))
 obtain⟨g,z⟩:∃ q,fD a=q:=⟨_,rfl⟩
 obtain⟨dU,af,cu,ag,cz⟩:=Gr y
 refine WL.do rfl (Hg H0 rfl rfl (ll _ _ a g af z) ?_)
 rintro _ dV ⟨rfl,ah⟩
 have bn:=ag _ _ ah
 have bq:=bn.pf [1]
 refine bY (aj.cells g) 0 bq B4 ?_
 intro dW I
 refine An rfl (rt (GM (fK (vs:= [.agg (aj.cells g).toArray,vI 0]) rfl (bT.cell rfl (GJ (cs:=(aj.cells g)) B5 B4 ((I.cls (i:=0) rfl).lit (k:=0) (m:=2) rfl)) (bT.tmp rfl bT.nil)) (Kk rfl)) ?_))
 have bu:=I.pk []
 obtain⟨rfl,rfl⟩:=fC (zj hr zq7)
 exact⟨rfl,bu⟩
 refine jT (dT c) (sr (Kz (.agg #[.string ⟨u3 []⟩, .string ⟨u3 []⟩]) (Mz rfl ?_)))
 refine bY [.string ⟨u3 []⟩, .string ⟨u3 []⟩] 0 j B4 ?_
 intro dX J
 refine An rfl (rt (tR (GM (fK (vs:= [.agg #[.string ⟨u3 []⟩, .string ⟨u3 []⟩],vI h]) rfl (bT.cell rfl (GJ (cs:= [.string ⟨u3 []⟩, .string ⟨u3 []⟩]) B5 B4 ((J.cls (i:=0) rfl).lit (k:=0) (m:=2) rfl)) (bT.tmp rfl bT.nil)) (Kk rfl)) ?_)))
 have bv:=J.pk []
 obtain⟨rfl,rfl⟩:=fC (zj hr zq2)
 exact⟨rfl,bv⟩
theorem zY {x:aY} (h:eQ x=0):1<=x.az/\x.az<=5:=by
 unfold eQ at h
 repeat' (split at h <;> first | omega | skip)
theorem wW {l:List aY} (h:jW l=0):∀ x ∈ l,eQ x=0:=by
 have key:∀ l:List aY,lp (jq l) (λ _=>0)=0->∀ x ∈ l,eQ x=0:=by
    intro l
    induction l with
    | nil=>intro _ x hx; cases hx
    | cons y q ih=>
      intro h x hx
      simp only [jq,bnd] at h
      by_cases e:eQ y=0
      . rw [ip e] at h
        rcases List.mem_cons.1 hx with rfl | hx
        . exact e
        . exact ih h x hx
      . rw [iN e] at h
        exact absurd h e
 exact key l h
theorem Bt {l:List aY} (h:jW l=0) {i:Nat} {x:aY} (hx:l[i]? =some x):1<=x.az/\x.az<=5:=
 zY (wW h x (List.mem_of_getElem? hx))
theorem uk:Elem u2 97 118 3 40:=mh (z:= .agg #[.string ⟨u3 []⟩, .string ⟨u3 []⟩, .bool false]) H1 e9 rfl f5
structure aD where
 aB:aj
 eH:Bool
def aD.cells (x:aD):List Value:= [.string ⟨u3 x.aB.aO⟩, .string ⟨u3 x.aB.aS⟩, .bool x.eH]
instance:Bk aD:=⟨λ x _=>bk x.aB+(bk x.eH+(0))⟩
theorem aD.len:∀ x,(aD.cells x).length=3:=λ _=>rfl
theorem aD.one:∀ x, ∀ u ∈ aD.cells x,u.oneCell'=true:=λ x u hu=>by
 simp only [aD.cells,List.mem_cons,List.not_mem_nil,or_false] at hu
 rcases hu with rfl | rfl | rfl <;> rfl
def IP (w:World) (x:aD):Prop:=(Iw w x.aB)/\(True)
instance:Inhabited aD:=⟨⟨default,default⟩⟩
def gK:List aY->List aD->(List aD)
  | [],b=>b
  | a::c,b=>if a.az=1 then bnd (kr a) λ h=>gK c (b++ [(aD.mk h false)]) else if a.az=2 then bnd (kr a) λ d=>gK c (b++ [(aD.mk d true)]) else if a.az=3 then bnd (kr a) λ e=>gK c (b++ [(aD.mk e true)]) else if a.az=4 then bnd (fD a) λ f=>gK c (b++ [(aD.mk f false)]) else bnd (fD a) λ g=>gK c (b++ [(aD.mk g true)])
def ry (b:List aY):(List aD) × Int:=
 bnd (jW b) λ a=>if a=0 then bnd (gK b []) λ sLrbtL=>(sLrbtL,0) else(([]:List aD),a)
theorem AU (w D A0 n0 c0 d r0 r1) (H:Own w D w []) (Q:Ro w D λ w'=>bM w' 6 A0 n0 (q0 aY.cells d)) (eG:n0=d.length) (iX:d.length *80<=211106232532992) (hr:ry d=(r0,r1)):
    Calls u2 37 #[.slice A0 n0 c0] w (dG λ v w'=> ∃ B0 b0,v= .tuple #[.slice B0 r0.length b0,vI r1]/\Own w D w' [row B0 r0.length b0 (q0 aD.cells r0) 118 3]):=by
 unfold ry at hr
 subst eG
 refine cb Tryz.func37 ?_
 refine sr (Az rfl (An rfl (Gp (sr (Mz rfl ?_)))))
 obtain⟨B,u⟩:∃ q,jW d=q:=⟨_,rfl⟩
 obtain⟨iY,bA,bB,bC,gG⟩:=Gr H
 refine cl Tryz.call66 (qD _ _ A0 d.length c0 d B bA (bB _ Q) rfl e8 u) ?_
 rintro _ bD ⟨rfl,bE⟩
 have bF:=bC _ _ bE
 refine Ar rfl (Mz rfl (fw (.bool (decide (¬ (B=0)))) (GN (e:= !(decide (B=0))) yk decide_not.symm) (nt ?_)))
 by_cases R:B=0
 refine jF (dF (Ko R)) (sk (sr (An rfl (Gp (sr (Mz rfl (Kz (vJ d.length) (Mn rfl (bo ?_)))))))))
 have eH:Own w D bD [row none 0 0 (q0 aD.cells []) 118 3]:=bF.free (bX 118 3)
 have eO:=eH.pf []
 obtain⟨eQ,n⟩:=vk λ S (T:Nat) a (b:Nat) w'=>Own w D w' [row S a.length T (q0 aD.cells a) 118 3]/\b<=d.length/\a.length=b/\a.length<=b/\gK d []=gK (r7 b d) a
 refine Wp.loop (λ i:(Option Addr) × Nat × (List aD) × Nat=> [(5, .slice i.1 i.2.2.1.length i.2.1),(17,vJ i.2.2.2),(16,vJ d.length),(15, .slice A0 d.length c0),(3,vI 0),(2, .slice none 0 0)]) eQ (λ i=>d.length - i.2.2.2) (none,0, [],0) ⟨rfl,rfl,rfl,rfl,rfl,rfl,trivial⟩ (n.2 ⟨eO,(show 0<=d.length/\0=0/\0<=0/\gK d []=gK (r7 0 d) [] from ⟨e8,e8,e8,rfl⟩)⟩) ?_
 rintro ⟨S,T,a,b⟩ iZ bG
 show Wp _ _ _ [(5, .slice S a.length T),(17,vJ b),(16,vJ d.length),(15, .slice A0 d.length c0),(3,vI 0),(2, .slice none 0 0)] _ _
 obtain⟨C,gH,gI,gJ,p⟩:=n.1 bG
 refine sr (Kz (.bool (decide ((b:Int) < (d.length:Int)))) (nt (Gp ?_)))
 by_cases bI:(b:Int) < (d.length:Int)
 obtain⟨c,E⟩:=dI (ls:=d) (i:=b) aY.len f5 (C.ro Q) f2
 have gL:=Bt (l:=d) (by rw [u]; omega) E
 have r:=drop_at E
 refine jT (dT bI) (sk (Gp (bo (sr (fw (.pointer (some ⟨ab A0,ao A0+b *6,none⟩)) (GI (nD) rfl rfl ((C.ro Q).addr (i:=b) e8) e8) (fw (.agg (aY.cells c).toArray) (GH rfl (GJ (cs:=(aY.cells c)) B3 y6 ((C.ro Q).elem aY.len E f5))) ?_))))))
 refine bW [vI 0, .string ⟨u3 []⟩, .string ⟨u3 []⟩, .string ⟨u3 []⟩, .string ⟨u3 []⟩,vI 0] 68 C ?_
 intro eU ja eX
 refine bY (aY.cells c) 0 eX y6 ?_
 intro jb z
 refine ns (Kz (vP eU 0) (Lz (vI c.az) z 0 Tryz.isAgg3 ?_))
 by_cases A:c.az=1
 obtain⟨jc,bJ,gM,bK,gN⟩:=Gr z
 refine cl B7 (nE _ _ c.az bJ (of_decide_eq_true (dT A))) ?_
 rintro _ jd ⟨rfl,bL⟩
 have eY:=bK _ _ bL
 refine Mz rfl (Kz (.agg #[.bool false, .func (.func 99) #[] #[], .func (.func 100) #[] #[], .func (.func 101) #[] #[], .func (.func 102) #[] #[]]) (Kz (.bool true) ?_))
 refine bW [.bool false, .nilFunc, .nilFunc, .nilFunc, .nilFunc] 149 eY ?_
 intro bO je eZ
 refine bY [.bool false, .func (.func 99) #[] #[], .func (.func 100) #[] #[], .func (.func 101) #[] #[], .func (.func 102) #[] #[]] 0 eZ y4 ?_
 intro jf fe
 refine An rfl ?_
 refine oD [] (bH.block (GD (GD (bH.block (GD GQ))))) fe ?_
 intro jg fo
 refine qv 0 rfl rfl (qp bO 3 1 rfl (ql 2 rfl 0 G3 rfl rfl rfl (qt (v:= .agg (aY.cells c).toArray) 3 rfl (λ _ ⟨_,U⟩=>GH rfl (GJ (cs:=(aY.cells c)) B3 y6 ((U.cls (i:=1) rfl).lit (k:=0) (m:=6) rfl))) (qp bO 0 5 rfl (ql 6 rfl 0 F0 rfl rfl rfl ?_)))))
 obtain⟨o,V⟩:∃ q,kr c=q:=⟨_,rfl⟩
 obtain⟨jh,bP,gP,bQ,gQ⟩:=Gr fo
 refine qd 4 rfl (Hg G4 rfl rfl (mU _ _ c o bP V) ?_)
 rintro _ ji ⟨rfl,bR⟩
 have bS:=bQ _ _ bR
 refine⟨.inr ⟨_,bS⟩, ?_⟩
 refine qk (.agg #[.string ⟨u3 o.aO⟩, .string ⟨u3 o.aS⟩, .bool false]) 7 rfl ?_
 refine qd 8 rfl (Hw (cs:= [.string ⟨u3 o.aO⟩, .string ⟨u3 o.aS⟩, .bool false]) (t:=118) (sz:=3) (m:=1) bS rfl rfl (λ _=>by kernel_rfl) rfl f5 ?_)
 intro fq jk aH
 replace aH:=Ha (y:=row fq 1 1 (q0 aD.cells ([(aD.mk o false)])) 118 3) rfl aH
 have bT:=aH.pb [0,3]
 refine⟨.inr ⟨_,bT⟩, ?_⟩
 have bU:=bT.pf [3]
 refine qd 9 rfl (GZ (k:=a.length) (m:=1) (uk) bU rfl rfl (eT H1 (bU.rds (i:=3) rfl) (cB aD.one ([(aD.mk o false)]))) rfl e8 (s:=q5 (a++ [(aD.mk o false)])) f4 (t2).symm ?_)
 intro fu fA jl fB
 have gT:q5 (a++ [(aD.mk o false)])=a.length+1:=by simp only [m8,q6,H2]
 have bV:=fB.pb [0,3]
 refine⟨.inr ⟨_,bV⟩, ?_⟩
 refine qa 10 rfl rfl (qn (bN (Gs (Gq (fw (vJ (b+1)) (Gw (e:=v7.wrap ((b:Int)+1)) yk f1) (Mz rfl (v8 ?_)))))))
 have fE:=bV.pk [2]
 exact GL (fu,fA,(a++ [(aD.mk o false)]),b+1) ⟨rfl,rfl,rfl,rfl,rfl,rfl,trivial⟩ (n.2 ⟨fE,e8,e8,e8,et (p) (et (congrArg (λ q=>gK q a) r) (et (ip A) (ae V)))⟩) (by show d.length - (b+1) < d.length - b; omega)
 by_cases F:c.az=2
 obtain⟨jm,bZ,fF,aI,fG⟩:=Gr z
 refine cl B7 (nG _ _ c.az bZ (of_decide_eq_true (dT F))) ?_
 rintro _ gU ⟨rfl,aJ⟩
 have cu:=aI _ _ aJ
 refine Mz rfl (Kz (.agg #[.bool true, .func (.func 103) #[] #[], .func (.func 104) #[] #[], .func (.func 101) #[] #[], .func (.func 105) #[] #[]]) (Kz (.bool true) ?_))
 refine bW [.bool false, .nilFunc, .nilFunc, .nilFunc, .nilFunc] 149 cu ?_
 intro W gV cz
 refine bY [.bool true, .func (.func 103) #[] #[], .func (.func 104) #[] #[], .func (.func 101) #[] #[], .func (.func 105) #[] #[]] 0 cz y4 ?_
 intro gW cK
 refine An rfl ?_
 refine oD [] (bH.block (GD (GD (bH.block (GD GQ))))) cK ?_
 intro gX cO
 refine qv 0 rfl rfl (qp W 3 1 rfl (ql 2 rfl 0 G3 rfl rfl rfl (qt (v:= .agg (aY.cells c).toArray) 3 rfl (λ _ ⟨_,U⟩=>GH rfl (GJ (cs:=(aY.cells c)) B3 y6 ((U.cls (i:=1) rfl).lit (k:=0) (m:=6) rfl))) (qp W 0 5 rfl (ql 6 rfl 0 F0 rfl rfl rfl ?_)))))
 obtain⟨f,G⟩:∃ q,kr c=q:=⟨_,rfl⟩
 obtain⟨gY,aK,fH,aL,fI⟩:=Gr cO
 refine qd 4 rfl (Hg G4 rfl rfl (mU _ _ c f aK G) ?_)
 rintro _ gZ ⟨rfl,aM⟩
 have X:=aL _ _ aM
 refine⟨.inr ⟨_,X⟩, ?_⟩
 refine qk (.agg #[.string ⟨u3 f.aO⟩, .string ⟨u3 f.aS⟩, .bool true]) 7 rfl ?_
 refine qd 8 rfl (Hw (cs:= [.string ⟨u3 f.aO⟩, .string ⟨u3 f.aS⟩, .bool true]) (t:=118) (sz:=3) (m:=1) X rfl rfl (λ _=>by kernel_rfl) rfl f5 ?_)
 intro cZ ib I
 replace I:=Ha (y:=row cZ 1 1 (q0 aD.cells ([(aD.mk f true)])) 118 3) rfl I
 have Y:=I.pb [0,3]
 refine⟨.inr ⟨_,Y⟩, ?_⟩
 have Z:=Y.pf [3]
 refine qd 9 rfl (GZ (k:=a.length) (m:=1) (uk) Z rfl rfl (eT H1 (Z.rds (i:=3) rfl) (cB aD.one ([(aD.mk f true)]))) rfl e8 (s:=q5 (a++ [(aD.mk f true)])) f4 (t2).symm ?_)
 intro df dh ic di
 have fJ:q5 (a++ [(aD.mk f true)])=a.length+1:=by simp only [m8,q6,H2]
 have aa:=di.pb [0,3]
 refine⟨.inr ⟨_,aa⟩, ?_⟩
 refine qa 10 rfl rfl (qn (bN (Gs (Gq (fw (vJ (b+1)) (Gw (e:=v7.wrap ((b:Int)+1)) yk f1) (Mz rfl (v8 ?_)))))))
 have dm:=aa.pk [2]
 exact GL (df,dh,(a++ [(aD.mk f true)]),b+1) ⟨rfl,rfl,rfl,rfl,rfl,rfl,trivial⟩ (n.2 ⟨dm,e8,e8,e8,et (p) (et (congrArg (λ q=>gK q a) r) (et (iN A) (et (ip F) (ae G))))⟩) (by show d.length - (b+1) < d.length - b; omega)
 by_cases x:c.az=3
 obtain⟨ig,aN,fK,aO,fM⟩:=Gr z
 refine cl B7 (nH _ _ c.az aN (of_decide_eq_true (dT x))) ?_
 rintro _ ik ⟨rfl,aP⟩
 have dn:=aO _ _ aP
 refine Mz rfl (Kz (.agg #[.bool true, .func (.func 99) #[] #[], .func (.func 100) #[] #[], .func (.func 101) #[] #[], .func (.func 106) #[] #[]]) (Kz (.bool true) ?_))
 refine bW [.bool false, .nilFunc, .nilFunc, .nilFunc, .nilFunc] 149 dn ?_
 intro af il dw
 refine bY [.bool true, .func (.func 99) #[] #[], .func (.func 100) #[] #[], .func (.func 101) #[] #[], .func (.func 106) #[] #[]] 0 dw y4 ?_
 intro iq dx
 refine An rfl ?_
 refine oD [] (bH.block (GD (GD (bH.block (GD GQ))))) dx ?_
 intro iw dz
 refine qv 0 rfl rfl (qp af 3 1 rfl (ql 2 rfl 0 G3 rfl rfl rfl (qt (v:= .agg (aY.cells c).toArray) 3 rfl (λ _ ⟨_,U⟩=>GH rfl (GJ (cs:=(aY.cells c)) B3 y6 ((U.cls (i:=1) rfl).lit (k:=0) (m:=6) rfl))) (qp af 0 5 rfl (ql 6 rfl 0 F0 rfl rfl rfl ?_)))))
 obtain⟨g,J⟩:∃ q,kr c=q:=⟨_,rfl⟩
 obtain⟨iy,aQ,fO,aR,fP⟩:=Gr dz
 refine qd 4 rfl (Hg G4 rfl rfl (mU _ _ c g aQ J) ?_)
 rintro _ iA ⟨rfl,aS⟩
 have ag:=aR _ _ aS
 refine⟨.inr ⟨_,ag⟩, ?_⟩
 refine qk (.agg #[.string ⟨u3 g.aO⟩, .string ⟨u3 g.aS⟩, .bool true]) 7 rfl ?_
 refine qd 8 rfl (Hw (cs:= [.string ⟨u3 g.aO⟩, .string ⟨u3 g.aS⟩, .bool true]) (t:=118) (sz:=3) (m:=1) ag rfl rfl (λ _=>by kernel_rfl) rfl f5 ?_)
 intro dA iB K
 replace K:=Ha (y:=row dA 1 1 (q0 aD.cells ([(aD.mk g true)])) 118 3) rfl K
 have ah:=K.pb [0,3]
 refine⟨.inr ⟨_,ah⟩, ?_⟩
 have ai:=ah.pf [3]
 refine qd 9 rfl (GZ (k:=a.length) (m:=1) (uk) ai rfl rfl (eT H1 (ai.rds (i:=3) rfl) (cB aD.one ([(aD.mk g true)]))) rfl e8 (s:=q5 (a++ [(aD.mk g true)])) f4 (t2).symm ?_)
 intro dB dC iC dD
 have fQ:q5 (a++ [(aD.mk g true)])=a.length+1:=by simp only [m8,q6,H2]
 have aj:=dD.pb [0,3]
 refine⟨.inr ⟨_,aj⟩, ?_⟩
 refine qa 10 rfl rfl (qn (bN (Gs (Gq (fw (vJ (b+1)) (Gw (e:=v7.wrap ((b:Int)+1)) yk f1) (Mz rfl (v8 ?_)))))))
 have dE:=aj.pk [2]
 exact GL (dB,dC,(a++ [(aD.mk g true)]),b+1) ⟨rfl,rfl,rfl,rfl,rfl,rfl,trivial⟩ (n.2 ⟨dE,e8,e8,e8,et (p) (et (congrArg (λ q=>gK q a) r) (et (iN A) (et (iN F) (et (ip x) (ae J)))))⟩) (by show d.length - (b+1) < d.length - b; omega)
 by_cases L:c.az=4
 obtain⟨iD,aT,fT,aU,fU⟩:=Gr z
 refine cl B7 (nI _ _ c.az aT (of_decide_eq_true (dT L))) ?_
 rintro _ iE ⟨rfl,aV⟩
 have dH:=aU _ _ aV
 refine Mz rfl (Kz (.agg #[.bool false, .func (.func 107) #[] #[], .func (.func 108) #[] #[], .func (.func 109) #[] #[], .func (.func 110) #[] #[]]) (Kz (.bool true) ?_))
 refine bW [.bool false, .nilFunc, .nilFunc, .nilFunc, .nilFunc] 149 dH ?_
 intro ak iF dJ
 refine bY [.bool false, .func (.func 107) #[] #[], .func (.func 108) #[] #[], .func (.func 109) #[] #[], .func (.func 110) #[] #[]] 0 dJ y4 ?_
 intro iG dK
 refine An rfl ?_
 refine oD [] (bH.block (GD (GD (bH.block (GD GQ))))) dK ?_
 intro iH dL
 refine qv 0 rfl rfl (qp ak 3 1 rfl (ql 2 rfl 0 G3 rfl rfl rfl (qt (v:= .agg (aY.cells c).toArray) 3 rfl (λ _ ⟨_,U⟩=>GH rfl (GJ (cs:=(aY.cells c)) B3 y6 ((U.cls (i:=1) rfl).lit (k:=0) (m:=6) rfl))) (qp ak 0 5 rfl (ql 6 rfl 0 F0 rfl rfl rfl ?_)))))
 obtain⟨h,M⟩:∃ q,fD c=q:=⟨_,rfl⟩
 obtain⟨iI,aW,fV,aX,fZ⟩:=Gr dL
 refine qd 4 rfl (Hg H0 rfl rfl (ll _ _ c h aW M) ?_)
 rintro _ iJ ⟨rfl,aZ⟩
 have au:=aX _ _ aZ
 refine⟨.inr ⟨_,au⟩, ?_⟩
 refine qk (.agg #[.string ⟨u3 h.aO⟩, .string ⟨u3 h.aS⟩, .bool false]) 7 rfl ?_
 refine qd 8 rfl (Hw (cs:= [.string ⟨u3 h.aO⟩, .string ⟨u3 h.aS⟩, .bool false]) (t:=118) (sz:=3) (m:=1) au rfl rfl (λ _=>by kernel_rfl) rfl f5 ?_)
 intro dM iK N
 replace N:=Ha (y:=row dM 1 1 (q0 aD.cells ([(aD.mk h false)])) 118 3) rfl N
 have av:=N.pb [0,3]
 refine⟨.inr ⟨_,av⟩, ?_⟩
 have ax:=av.pf [3]
 refine qd 9 rfl (GZ (k:=a.length) (m:=1) (uk) ax rfl rfl (eT H1 (ax.rds (i:=3) rfl) (cB aD.one ([(aD.mk h false)]))) rfl e8 (s:=q5 (a++ [(aD.mk h false)])) f4 (t2).symm ?_)
 intro dN dO iL dP
 have gm:q5 (a++ [(aD.mk h false)])=a.length+1:=by simp only [m8,q6,H2]
 have ay:=dP.pb [0,3]
 refine⟨.inr ⟨_,ay⟩, ?_⟩
 refine qa 10 rfl rfl (qn (bN (Gs (Gq (fw (vJ (b+1)) (Gw (e:=v7.wrap ((b:Int)+1)) yk f1) (Mz rfl (v8 ?_)))))))
 have dQ:=ay.pk [2]
 exact GL (dN,dO,(a++ [(aD.mk h false)]),b+1) ⟨rfl,rfl,rfl,rfl,rfl,rfl,trivial⟩ (n.2 ⟨dQ,e8,e8,e8,et (p) (et (congrArg (λ q=>gK q a) r) (et (iN A) (et (iN F) (et (iN x) (et (ip L) (ae M))))))⟩) (by show d.length - (b+1) < d.length - b; omega)
 have bf:(decide (c.az=5))=true:=(dT e8)
 obtain⟨iM,bg,gp,bi,gq⟩:=Gr z
 refine cl B7 (nJ _ _ c.az bg (of_decide_eq_true bf)) ?_
 rintro _ iO ⟨rfl,bn⟩
 have dR:=bi _ _ bn
 refine Mz rfl (Kz (.agg #[.bool true, .func (.func 111) #[] #[], .func (.func 112) #[] #[], .func (.func 109) #[] #[], .func (.func 113) #[] #[]]) (Kz (.bool true) ?_))
 refine bW [.bool false, .nilFunc, .nilFunc, .nilFunc, .nilFunc] 149 dR ?_
 intro az iP dS
 refine bY [.bool true, .func (.func 111) #[] #[], .func (.func 112) #[] #[], .func (.func 109) #[] #[], .func (.func 113) #[] #[]] 0 dS y4 ?_
 intro iQ dU
 refine An rfl ?_
 refine oD [] (bH.block (GD (GD (bH.block (GD GQ))))) dU ?_
 intro iR dV
 refine qv 0 rfl rfl (qp az 3 1 rfl (ql 2 rfl 0 G3 rfl rfl rfl (qt (v:= .agg (aY.cells c).toArray) 3 rfl (λ _ ⟨_,U⟩=>GH rfl (GJ (cs:=(aY.cells c)) B3 y6 ((U.cls (i:=1) rfl).lit (k:=0) (m:=6) rfl))) (qp az 0 5 rfl (ql 6 rfl 0 F0 rfl rfl rfl ?_)))))
 obtain⟨j,O⟩:∃ q,fD c=q:=⟨_,rfl⟩
 obtain⟨iT,bq,gu,bu,gy⟩:=Gr dV
 refine qd 4 rfl (Hg H0 rfl rfl (ll _ _ c j bq O) ?_)
 rintro _ iU ⟨rfl,bv⟩
 have aA:=bu _ _ bv
 refine⟨.inr ⟨_,aA⟩, ?_⟩
 refine qk (.agg #[.string ⟨u3 j.aO⟩, .string ⟨u3 j.aS⟩, .bool true]) 7 rfl ?_
 refine qd 8 rfl (Hw (cs:= [.string ⟨u3 j.aO⟩, .string ⟨u3 j.aS⟩, .bool true]) (t:=118) (sz:=3) (m:=1) aA rfl rfl (λ _=>by kernel_rfl) rfl f5 ?_)
 intro dW iV P
 replace P:=Ha (y:=row dW 1 1 (q0 aD.cells ([(aD.mk j true)])) 118 3) rfl P
 have aB:=P.pb [0,3]
 refine⟨.inr ⟨_,aB⟩, ?_⟩
 have aC:=aB.pf [3]
 refine qd 9 rfl (GZ (k:=a.length) (m:=1) (uk) aC rfl rfl (eT H1 (aC.rds (i:=3) rfl) (cB aD.one ([(aD.mk j true)]))) rfl e8 (s:=q5 (a++ [(aD.mk j true)])) f4 (t2).symm ?_)
 intro dX dY iW dZ
 have gz:q5 (a++ [(aD.mk j true)])=a.length+1:=by simp only [m8,q6,H2]
 have aF:=dZ.pb [0,3]
 refine⟨.inr ⟨_,aF⟩, ?_⟩
 refine qa 10 rfl rfl (qn (bN (Gs (Gq (fw (vJ (b+1)) (Gw (e:=v7.wrap ((b:Int)+1)) yk f1) (Mz rfl (v8 ?_)))))))
 have d9:=aF.pk [2]
 exact GL (dX,dY,(a++ [(aD.mk j true)]),b+1) ⟨rfl,rfl,rfl,rfl,rfl,rfl,trivial⟩ (n.2 ⟨d9,e8,e8,e8,et (p) (et (congrArg (λ q=>gK q a) r) (et (iN A) (et (iN F) (et (iN x) (et (iN L) (ae O))))))⟩) (by show d.length - (b+1) < d.length - b; omega)
 refine jF (dF bI) (v9 (GK ?_))
 have bz:gK d []=a:=et (p) (et (congrArg (λ q=>gK q a) (eP (ls:=d) (i:=b) e8)) rfl)
 refine GK (GR (Gs (sr (Mz rfl (Az rfl (An rfl (rt (GM (j6 rfl rfl rfl) ?_))))))))
 have ed:=C.pf []
 obtain⟨rfl,rfl⟩:=fC (zj hr zq3)
 exact⟨S,T,rfl,ed⟩
 refine jT (dT R) (sr (Mz rfl (Az rfl (An rfl (rt (tR (GM (j6 rfl rfl rfl) ?_)))))))
 have ek:Own w D bD [row none 0 0 (q0 aD.cells []) 118 3]:=bF.free (bX 118 3)
 have eu:=ek.pf []
 obtain⟨rfl,rfl⟩:=fC (zj hr zq2)
 exact⟨none,0,rfl,eu⟩
def fJ (g:List aA):List aA->Nat->Unit ⊕ Int
  | [],a=>Sum.inl ()
  | d::e,a=>bnd (dV d.aX) λ b=>if b=0 then bnd (mQ d.aN) λ c=>if c=0 then if(a:Int) > 0 then bnd (v1 g (a - 1) default) λ f=>if d.aX<=f.aX then Sum.inr (1) else fJ g e (a+1) else fJ g e (a+1) else Sum.inr (c) else Sum.inr (b)
def gy (a:List aA):Int:=
 lp (fJ a a 0) λ _=>0
theorem yN (w D o U G d r0) (H:Own w D w []) (s:Ro w D λ w'=>bM w' 2 o U (q0 aA.cells d)) (V:U=d.length) (az:d.length *32<=211106232532992) (hr:gy d=r0):
    Calls u2 215 #[.slice o U G] w (dG λ v w'=>v=vI r0/\Own w D w' []):=by
 subst V
 refine cb Tryz.func215 ?_
 refine sr (An rfl (Gp (sr (Mz rfl (Kz (vJ d.length) (Mn rfl (bo ?_)))))))
 have W:=H.pk []
 obtain⟨X,n⟩:=mP λ (a:Nat) w'=>Own w D w' []/\a<=d.length/\fJ d d 0=fJ d (r7 a d) a
 refine Wp.loop (λ i:Nat=> [(2,vI 0),(9,vJ i),(8,vJ d.length),(7, .slice o d.length G),(0, .slice o d.length G)]) X (λ i=>d.length - i) 0 ⟨rfl,rfl,rfl,rfl,rfl,trivial⟩ (n.2 ⟨W,e8,rfl⟩) ?_
 rintro a aB I
 show Wp _ _ _ [(2,vI 0),(9,vJ a),(8,vJ d.length),(7, .slice o d.length G),(0, .slice o d.length G)] _ _
 obtain⟨t,ak,f⟩:=n.1 I
 refine sr (Kz (.bool (decide ((a:Int) < (d.length:Int)))) (nt (Gp ?_)))
 by_cases J:(a:Int) < (d.length:Int)
 obtain⟨c,z⟩:=dI (ls:=d) (i:=a) aA.len f5 (t.ro s) f2
 have h:=drop_at z
 refine jT (dT J) (sk (Gp (bo (sr (Mz rfl (fw (.pointer (some ⟨ab o,ao o+a *2,none⟩)) (GI (iK) rfl rfl ((t.ro s).addr (i:=a) e8) e8) (fw (.agg (aA.cells c).toArray) (GH rfl (GJ (cs:=(aA.cells c)) Tryz.isAgg101 Tryz.sizeOf101 ((t.ro s).elem aA.len z f5))) ?_)))))))
 refine bW [.string ⟨u3 []⟩, .string ⟨u3 []⟩] 101 t ?_
 intro C aC Y
 refine Az rfl ?_
 refine bY (aA.cells c) 0 Y Tryz.sizeOf101 ?_
 intro aD K
 refine nt (Gp (sr (Kz (vP C 0) (Lz (.string ⟨u3 c.aX⟩) K 0 v3 ?_))))
 obtain⟨l,g⟩:∃ q,dV c.aX=q:=⟨_,rfl⟩
 obtain⟨aF,L,au,M,av⟩:=Gr K
 refine cl Tryz.call62 (jB _ _ c.aX l L g) ?_
 rintro _ aG ⟨rfl,N,A,B⟩
 have E:=M _ _ N
 replace A: ¬ (l=0)\/(1<=c.aX.length/\c.aX.length<=12):=A
 replace B:c.aX.length < 1\/c.aX.length > 12\/l=0:=B
 refine Ar rfl (Mz rfl (fw (.bool (decide (¬ (l=0)))) (GN (e:= !(decide (l=0))) yk decide_not.symm) (nt ?_)))
 by_cases m:l=0
 refine jF (dF (Ko m)) (sk (Gp (sr (Kz (vP C 1) (Lz (.string ⟨u3 c.aN⟩) E 0 v3 ?_)))))
 obtain⟨u,j⟩:∃ q,mQ c.aN=q:=⟨_,rfl⟩
 obtain⟨aH,O,ax,P,ay⟩:=Gr E
 refine cl Tryz.call161 (sU _ _ c.aN u O j) ?_
 rintro _ aI ⟨rfl,Q⟩
 have R:=P _ _ Q
 refine Ar rfl (Mz rfl (fw (.bool (decide (¬ (u=0)))) (GN (e:= !(decide (u=0))) yk decide_not.symm) (nt ?_)))
 by_cases p:u=0
 refine jF (dF (Ko p)) (sk (Gp ?_))
 refine Br [] (GD (bH.block (GD (GD (bH.block (GD GQ)))))) R ?_
 intro aJ F
 refine qv 0 rfl rfl (qk (.bool (decide ((a:Int) > 0))) 1 rfl (qv 2 rfl rfl ?_))
 by_cases b:(a:Int) > 0
 refine GG (v:=vP C 0) (rs:= []) 3 rfl rfl rfl (dT b) e9 (λ _ _=>yk) (GG (v:= .string ⟨u3 c.aX⟩) (rs:= []) 4 rfl rfl rfl (dT b) e9 (λ _ ⟨_,S⟩=>GH rfl (bS.one v3 (Ho (S.cls (i:=0) rfl) rfl))) (GG (v:= .slice o d.length G) (rs:= []) 5 rfl rfl rfl (dT b) e9 (λ _ _=>Gv rfl) (GG (v:=vJ a) (rs:= []) 6 rfl rfl rfl (dT b) e9 (λ _ _=>Gv rfl) (GG (v:=vJ (a - 1)) (rs:= []) 7 rfl rfl rfl (dT b) e9 (λ _ _=>Gw (e:=v7.wrap ((a:Int) - 1)) yk f1) ?_))))
 obtain⟨r,x⟩:=mK (ls:=d) (i:=a - 1) f2
 refine GG (v:= .pointer (some ⟨ab o,ao o+(a - 1) *2,none⟩)) (rs:= []) 8 rfl rfl rfl (dT b) e9 (λ _ ⟨_,S⟩=>GI (iK) rfl rfl ((S.ro s).addr (i:=a - 1) e8) e8) (GG (v:= .pointer (some ⟨ab o,ao o+(a - 1) *2,none⟩)) (rs:= []) 9 rfl rfl rfl (dT b) e9 (λ _ _=>yk) (GG (v:= .string ⟨u3 r.aX⟩) (rs:= []) 10 rfl rfl rfl (dT b) e9 (λ _ ⟨_,S⟩=>GH rfl (bS.one v3 (((S.ro s).elem aA.len x f5).at_ (k:=0) rfl))) (GG (v:= .bool (decide (c.aX<=r.aX))) (rs:= []) 11 rfl rfl rfl (dT b) e9 (λ _ _=>GN (e:=Op.bytesLess c.aX r.aX || decide (c.aX=r.aX)) (IJ rfl rfl) (zB _ _)) (qt (v:= .bool (decide (c.aX<=r.aX))) 12 rfl (λ _ _=>Gu rfl (dT b) rfl) (qn (Gs ?_))))))
 by_cases y:c.aX<=r.aX
 refine jT (dT y) (sr (An rfl (rt (bR (tR (tR (bR (tR (rs ?_)))))))))
 have Z:=F.pk []
 obtain rfl:_=1:=zj hr (iG (et (f) (et (congrArg (λ q=>fJ d q a) h) (et (ae g) (et (ip m) (et (ae j) (et (ip p) (et (ip b) (et (ae (bz x)) (ip y))))))))))
 exact⟨rfl,Z⟩
 refine jF (dF y) (G7 (bN (Gs (Gq (fw (vJ (a+1)) (Gw (e:=v7.wrap ((a:Int)+1)) yk f1) (Mz rfl (v8 ?_)))))))
 have aa:=F.pk []
 exact GL (a+1) ⟨rfl,rfl,rfl,rfl,rfl,trivial⟩ (n.2 ⟨aa,e8,et (f) (et (congrArg (λ q=>fJ d q a) h) (et (ae g) (et (ip m) (et (ae j) (et (ip p) (et (ip b) (et (ae (bz x)) (iN y))))))))⟩) (by show d.length - (a+1) < d.length - a; omega)
 refine Gy (rs:= []) 3 rfl rfl rfl (dF b) e9 (Gy (rs:= []) 4 rfl rfl rfl (dF b) e9 (Gy (rs:= []) 5 rfl rfl rfl (dF b) e9 (Gy (rs:= []) 6 rfl rfl rfl (dF b) e9 (Gy (rs:= []) 7 rfl rfl rfl (dF b) e9 (Gy (rs:= []) 8 rfl rfl rfl (dF b) e9 (Gy (rs:= []) 9 rfl rfl rfl (dF b) e9 (Gy (rs:= []) 10 rfl rfl rfl (dF b) e9 (Gy (rs:= []) 11 rfl rfl rfl (dF b) e9 (qt (v:= .bool false) 12 rfl (λ _ _=>Gm rfl (dF b) rfl) (qn (Gs (jf (G7 (bN (Gs (Gq (fw (vJ (a+1)) (Gw (e:=v7.wrap ((a:Int)+1)) yk f1) (Mz rfl (v8 ?_)))))))))))))))))))
 have af:=F.pk []
 exact GL (a+1) ⟨rfl,rfl,rfl,rfl,rfl,trivial⟩ (n.2 ⟨af,e8,et (f) (et (congrArg (λ q=>fJ d q a) h) (et (ae g) (et (ip m) (et (ae j) (et (ip p) (iN b))))))⟩) (by show d.length - (a+1) < d.length - a; omega)
 refine jT (dT p) (sr (Mz rfl (An rfl (rt (tR (bR (tR (tR (bR (tR (rs ?_)))))))))))
 have ag:=R.pk []
 obtain rfl:_=u:=zj hr (iG (et (f) (et (congrArg (λ q=>fJ d q a) h) (et (ae g) (et (ip m) (et (ae j) (iN p)))))))
 exact⟨rfl,ag⟩
 refine jT (dT m) (sr (Mz rfl (An rfl (rt (tR (bR (tR (tR (bR (tR (rs ?_)))))))))))
 have ah:=E.pk []
 obtain rfl:_=l:=zj hr (iG (et (f) (et (congrArg (λ q=>fJ d q a) h) (et (ae g) (iN m)))))
 exact⟨rfl,ah⟩
 refine jF (dF J) (v9 (GK ?_))
 have T:fJ d d 0=Sum.inl ():=et (f) (et (congrArg (λ q=>fJ d q a) (eP (ls:=d) (i:=a) e8)) rfl)
 refine GK (GR (Gs (sr (An rfl (rt (rs ?_))))))
 have ai:=t.pk []
 obtain rfl:_=0:=zj hr (kZ T)
 exact⟨rfl,ai⟩
end
open List renaming length_drop->m7,length_set->J1,length_take->m6,mem_of_mem_take->I3,set->J0
open Ll renaming mk->D4
open _root_.Go.Proofs.Tryz renaming call160->H4,isAgg70->I2,sizeOf101->H3,sizeOf70->I0,underlying25->E3
section
open Go.RowKit
def lm (a:List UInt8) (b:List UInt8):Int:=
 Lib.compareBytes a b
theorem pV (w D a b d) (H:Own w D w []) (hr:lm a b=d):
    Calls u2 223 #[.string ⟨u3 a⟩, .string ⟨u3 b⟩] w (dG λ v w'=>v=vI d/\Own w D w' []):=by
 refine cb Tryz.func223 ?_
 refine sr (Ar rfl (Mz rfl (Mz rfl (fw (vI (Lib.compareBytes a b)) (Jw (run_callFunc_extern Tryz.func233 e9 e9 e9 (e:=Extern.BytealgCompare.compare) e9) rfl) (An rfl (rt (rs ?_)))))))
 have c:=H.pk []
 obtain rfl:_=Lib.compareBytes a b:=zj hr rfl
 exact⟨rfl,c⟩
def strings_Compare (b:List UInt8) (c:List UInt8):Int:=
 bnd (lm b c) λ a=>a
theorem wh (w D f g j) (H:Own w D w []) (hr:strings_Compare f g=j):
    Calls u2 201 #[.string ⟨u3 f⟩, .string ⟨u3 g⟩] w (dG λ v w'=>v=vI j/\Own w D w' []):=by
 unfold strings_Compare at hr
 refine cb Tryz.func201 ?_
 refine sr (Ar rfl (Mz rfl (Mz rfl ?_)))
 obtain⟨b,a⟩:∃ q,lm f g=q:=⟨_,rfl⟩
 obtain⟨m,c,k,d,l⟩:=Gr H
 refine cl Tryz.call223 (pV _ _ f g b c a) ?_
 rintro _ n ⟨rfl,e⟩
 have h:=d _ _ e
 refine An rfl (rt (rs ?_))
 have i:=h.pk []
 obtain rfl:=zj hr zq1
 exact⟨rfl,i⟩
def nR (b:aA) (c:List UInt8):Int:=
 bnd (strings_Compare b.aX c) λ a=>a
theorem wm (w D) (b:aA) (h l) (H:Own w D w []) (hr:nR b h=l):
    Calls u2 200 #[.agg (aA.cells b).toArray, .string ⟨u3 h⟩] w (dG λ v w'=>v=vI l/\Own w D w' []):=by
 unfold nR at hr
 refine cb Tryz.func200 ?_
 refine sr ?_
 refine bW (aA.cells b) 101 H ?_
 intro i o c
 refine Ar rfl (Kz (vP i 0) (Lz (.string ⟨u3 b.aX⟩) c 0 v3 (Mz rfl ?_)))
 obtain⟨d,a⟩:∃ q,strings_Compare b.aX h=q:=⟨_,rfl⟩
 obtain⟨p,e,m,f,n⟩:=Gr c
 refine cl Tryz.call201 (wh _ _ b.aX h d e a) ?_
 rintro _ r ⟨rfl,g⟩
 have j:=f _ _ g
 refine An rfl (rt (rs ?_))
 have k:=j.pk []
 obtain rfl:=zj hr zq1
 exact⟨rfl,k⟩
def dR (f:List aA) (g:List UInt8):Nat->Nat->Nat->Nat
  | 0,a,b=>default
  | c+1,a,b=>if(a:Int) < (b:Int) then bnd (v1 f ((a+b) / 2) default) λ d=>bnd (nR d g) λ e=>if e < 0 then dR f g c (((a+b) / 2)+1) b else dR f g c a ((a+b) / 2) else a
def gL (a:List aA) (d:List UInt8):Int × Bool:=
 bnd (dR a d ((a.length - 0)+1) 0 a.length) λ sLrL=>if(sLrL:Int) < (a.length:Int) then bnd (v1 a sLrL default) λ b=>bnd (nR b d) λ c=>((sLrL:Int),decide (c=0)) else((sLrL:Int),false)
theorem l6 (w D r P O d k C Q) (H:Own w D w []) (h:Ro w D λ w'=>bM w' 2 r P (q0 aA.cells d)) (R:P=d.length) (ak:d.length *32<=211106232532992) (hr:gL d k=(C,Q)):
    Calls u2 199 #[.slice r P O, .string ⟨u3 k⟩, .func (.func 200) #[] #[]] w (dG λ v w'=>v= .tuple #[vI C, .bool Q]/\Own w D w' []/\(0<=C/\C<=((d.length:Nat):Int))/\(Bool.toNat Q=0\/C < ((d.length:Nat):Int))):=by
 unfold gL at hr
 subst R
 refine cb Tryz.func199 ?_
 refine sr (Az rfl (Ar rfl (Mz rfl (Kz (vJ d.length) (Ar rfl (Mz rfl (Az rfl (An rfl (Gp (bo ?_))))))))))
 have S:=H.pk []
 obtain⟨T,g⟩:=xW λ (a:Nat) (b:Nat) (l:Nat) w'=>Own w D w' []/\a<=b/\b<=d.length/\b - a < l/\dR d k ((d.length - 0)+1) 0 d.length=dR d k l a b
 refine Wp.loop (λ i:Nat × Nat × Nat=> [(9,vJ i.1),(10,vJ i.2.1),(8,vJ d.length),(7, .bool false),(6,vI 0),(0, .slice r d.length O),(1, .string ⟨u3 k⟩),(2, .func (.func 200) #[] #[])]) T (λ i=>i.2.2) (0,d.length,(d.length - 0)+1) ⟨rfl,rfl,rfl,rfl,rfl,rfl,rfl,rfl,trivial⟩ (g.2 ⟨S,e8,e8,e8,rfl⟩) ?_
 rintro ⟨a,b,l⟩ au E
 show Wp _ _ _ [(9,vJ a),(10,vJ b),(8,vJ d.length),(7, .bool false),(6,vI 0),(0, .slice r d.length O),(1, .string ⟨u3 k⟩),(2, .func (.func 200) #[] #[])] _ _
 obtain⟨f,Z,aa,af,m⟩:=g.1 E
 obtain⟨j,F⟩:∃ q,l=q+1:=⟨l - 1,e8⟩
 subst F
 refine Gp (sr (Mz rfl (Mz rfl (Kz (.bool (decide ((a:Int) < (b:Int)))) (nt ?_)))))
 by_cases n:(a:Int) < (b:Int)
 refine jT (dT n) (sk (bo (sr (Mz rfl (Mz rfl (fw (vJ (a+b)) (Gw (e:=v7.wrap ((a:Int)+(b:Int))) yk f1) (fw (vU (a+b)) (Gw (e:=IntKind.u64.wrap ((a+b:Nat):Int)) yk (IntWalk.u64_in _ e8)) (fw (vU ((a+b) / 2)) (Gw (e:=Int.fdiv ((a+b:Nat):Int) 2) yk (uw _ 1 _ f5)) (fw (vJ ((a+b) / 2)) (Gw (e:=v7.wrap (((a+b) / 2:Nat):Int)) yk (Kl _ e8)) (Ar rfl (Mz rfl (Mz rfl (Mz rfl ?_)))))))))))))
 obtain⟨s,o⟩:=dI (ls:=d) (i:=(a+b) / 2) aA.len f5 (f.ro h) f2
 refine fw (.pointer (some ⟨ab r,ao r+((a+b) / 2) *2,none⟩)) (GI (iK) rfl rfl ((f.ro h).addr (i:=(a+b) / 2) e8) e8) (fw (.agg (aA.cells s).toArray) (GH rfl (GJ (cs:=(aA.cells s)) Tryz.isAgg101 H3 ((f.ro h).elem aA.len o f5))) (Mz rfl ?_))
 obtain⟨B,p⟩:∃ q,nR s k=q:=⟨_,rfl⟩
 obtain⟨av,G,ag,I,ah⟩:=Gr f
 refine WL.do rfl (Hg Tryz.call200 rfl rfl (wm _ _ s k B G p) ?_)
 rintro _ ax ⟨rfl,J⟩
 have K:=I _ _ J
 refine Kz (.bool (decide (B < 0))) (nt ?_)
 by_cases t:B < 0
 refine jT (dT t) (Gq (Mz rfl (fw (vI ((((a+b) / 2)+1:Nat):Int)) (Gw (e:=v7.wrap ((((a+b) / 2:Nat):Int)+1)) yk f1) (Az rfl (WL.nil (bN ?_))))))
 have U:=K.pk []
 exact GL (((a+b) / 2)+1,b,j) ⟨rfl,rfl,rfl,rfl,rfl,rfl,rfl,rfl,trivial⟩ (g.2 ⟨U,e8,e8,e8,et (m) (et (ip n) (et (ae (bz o)) (et (ae p) (ip t))))⟩) (by show j < j+1; omega)
 refine jF (dF t) (Gq (Mz rfl (Az rfl (WL.nil (bN ?_)))))
 have V:=K.pk []
 exact GL (a,(a+b) / 2,j) ⟨rfl,rfl,rfl,rfl,rfl,rfl,rfl,rfl,trivial⟩ (g.2 ⟨V,e8,e8,e8,et (m) (et (ip n) (et (ae (bz o)) (et (ae p) (iN t))))⟩) (by show j < j+1; omega)
 refine jF (dF n) (Wp.exit (GK ?_))
 have y:dR d k ((d.length - 0)+1) 0 d.length=a:=et (m) (iN n)
 refine GK (GR (Gs (sr (Mz rfl (Mz rfl (Mz rfl (Kz (.bool (decide ((a:Int) < (d.length:Int)))) (Mz rfl ?_))))))))
 by_cases c:(a:Int) < (d.length:Int)
 refine gw (.func (.func 200) #[] #[]) (dT c) (Gv rfl) (gw (.slice r d.length O) (dT c) (Gv rfl) (gw (vJ a) (dT c) (Gv rfl) ?_))
 obtain⟨u,z⟩:=dI (ls:=d) (i:=a) aA.len f5 (f.ro h) f2
 refine gw (.pointer (some ⟨ab r,ao r+a *2,none⟩)) (dT c) (GI (iK) rfl rfl ((f.ro h).addr (i:=a) e8) e8) (gw (.agg (aA.cells u).toArray) (dT c) (GH rfl (GJ (cs:=(aA.cells u)) Tryz.isAgg101 H3 ((f.ro h).elem aA.len z f5))) (gw (.string ⟨u3 k⟩) (dT c) (Gv rfl) ?_))
 obtain⟨x,A⟩:∃ q,nR u k=q:=⟨_,rfl⟩
 obtain⟨ay,L,ai,M,aj⟩:=Gr f
 refine H7 rfl rfl (dT c) rfl (Hg Tryz.call200 rfl rfl (wm _ _ u k x L A) ?_)
 rintro _ az ⟨rfl,N⟩
 have W:=M _ _ N
 refine Gz (.bool (decide (x=0))) (dT c) (fw (.bool (decide (x=0))) (Gu rfl (dT c) rfl) (Az rfl (An rfl (rt (GM (j6 rfl rfl rfl) ?_)))))
 have X:=W.pk []
 obtain⟨rfl,rfl⟩:=fC (zj hr zq4)
 exact⟨rfl,X,e8,i2⟩
 refine Sz (dF c) (Sz (dF c) (Sz (dF c) (Sz (dF c) (Sz (dF c) (Sz (dF c) (Sz (dF c) (Sz (dF c) (fw (.bool false) (Gm rfl (dF c) rfl) (Az rfl (An rfl (rt (GM (j6 rfl rfl rfl) ?_))))))))))))
 have Y:=f.pk []
 obtain⟨rfl,rfl⟩:=fC (zj hr zq2)
 exact⟨rfl,Y,e8,i2⟩
def gW (b:List aA) (c:List UInt8):Int × Bool:=
 bnd (gL b c) λ a=>(a.1,a.2)
theorem qG (w D m n u b l g o) (H:Own w D w []) (p:Ro w D λ w'=>bM w' 2 m n (q0 aA.cells b)) (r:n=b.length) (y:b.length *32<=211106232532992) (hr:gW b l=(g,o)):
    Calls u2 160 #[.slice m n u, .string ⟨u3 l⟩] w (dG λ v w'=>v= .tuple #[vI g, .bool o]/\Own w D w' []/\(0<=g/\g<=((b.length:Nat):Int))/\(Bool.toNat o=0\/g < ((b.length:Nat):Int))):=by
 unfold gW at hr
 subst r
 refine cb Tryz.func160 ?_
 refine sr (Az rfl (Ar rfl (Mz rfl (Mz rfl ?_))))
 obtain⟨⟨a,c⟩,d⟩:∃ q:Int × Bool,gL b l=q:=⟨_,rfl⟩
 obtain⟨z,h,i,j,x⟩:=Gr H
 refine cl Tryz.call199 (l6 _ _ m b.length u b l a c h (i _ p) rfl e8 d) ?_
 rintro _ A ⟨rfl,k,e,f⟩
 have s:=j _ _ k
 replace e:0<=a/\a<=(b.length:Int):=e
 replace f:Bool.toNat c=0\/a < (b.length:Int):=f
 refine Kz (vI a) (Kz (.bool c) (Az rfl (An rfl (rt (GM (j6 rfl rfl rfl) ?_)))))
 have t:=s.pk []
 obtain⟨rfl,rfl⟩:=fC (zj hr zq1)
 exact⟨rfl,t,e8,i2⟩
def tq (c:List aA) (d:aY):(List aA) × cZ:=
 bnd (gW c d.aX) λ a=>if a.2=true then bnd (v1 c (E0 a.1) default) λ b=>(c,cZ.mk true b.aN (D4 [])) else(c,cZ.mk false [] (D4 []))
theorem CG (w D g J j b) (u:aY) (y) (x:cZ) (H:Own w D w [row g J j (q0 aA.cells b) 101 2]) (K:J=b.length) (ag:b.length *32<=211106232532992) (ah:(b.length+1) *32<=211106232532992) (hr:tq b u=(y,x)):
    Calls u2 102 #[.slice g J j, .agg (aY.cells u).toArray] w (dG λ v w'=> ∃ Z b0 l n,v= .tuple #[.slice Z y.length b0, .agg #[.bool x.dO, .string ⟨u3 x.aN⟩, .slice l x.bq.ls.length n]]/\Own w D w' [row Z y.length b0 (q0 aA.cells y) 101 2,row l x.bq.ls.length n (q0 aA.cells x.bq.ls) 101 2]/\(y.length<=b.length+1)):=by
 unfold tq at hr
 subst K
 have ai:=H.rowC (i:=0) rfl
 refine cb Tryz.func102 ?_
 refine sr ?_
 refine bW (aY.cells u) 68 H ?_
 intro L aj M
 refine Az rfl ?_
 refine bW [.bool false, .string ⟨u3 []⟩, .slice none 0 0] 70 M ?_
 intro z ak A
 refine ns (Mz rfl (Kz (vP L 1) (Lz (.string ⟨u3 u.aX⟩) A 1 v3 ?_)))
 obtain⟨⟨a,c⟩,h⟩:∃ q:Int × Bool,gW b u.aX=q:=⟨_,rfl⟩
 obtain⟨au,B,af,C,E⟩:=Gr A
 refine cl H4 (qG _ _ g b.length j b u.aX a c B (E _ 2 _ rfl bQ) rfl e8 h) ?_
 rintro _ av ⟨rfl,F,p,r⟩
 have N:=C _ _ F
 replace p:0<=a/\a<=(b.length:Int):=p
 replace r:Bool.toNat c=0\/a < (b.length:Int):=r
 refine Mz rfl (Kz (vI a) (Kz (.bool c) (Az rfl (An rfl (Gp (Gp ?_))))))
 have G:=N.pk [0,2]
 refine Gq (Mz rfl (Kz (.bool (!c)) (nt ?_)))
 rcases Kq (c) with d | d
 have h41t:Bool.toNat c=1:=by rw [d]; rfl
 refine jF (cn d) (sk (Gp ?_))
 have O:=G.pb [0]
 refine Br [] (GD GQ) O ?_
 intro ax P
 refine qv 0 rfl rfl (qv 1 rfl rfl (qt (v:=vJ (E0 a)) 2 rfl (λ _ _=>Gw (e:=a) (Gv rfl) e8) ?_))
 obtain⟨f,s⟩:=mK (ls:=b) (i:=E0 a) f2
 refine qt (v:= .pointer (some ⟨ab g,ao g+(E0 a) *2,none⟩)) 3 rfl (λ _ ⟨_,Q⟩=>GI (iK) rfl rfl ((Q.rds (i:=0) rfl).addr (i:=E0 a) e8) e8) (qk (.pointer (some ⟨ab g,ao g+(E0 a) *2+1,none⟩)) 4 rfl (qt (v:= .string ⟨u3 f.aN⟩) 5 rfl (λ _ ⟨_,Q⟩=>GH rfl (bS.one v3 (((Q.rds (i:=0) rfl).elem aA.len s f5).at_ (k:=1) rfl))) (qk (.agg #[.bool true, .string ⟨u3 f.aN⟩, .slice none 0 0]) 6 rfl (qa 7 rfl rfl ?_))))
 have R:=P.pb [0]
 refine qe 8 rfl (Do.store (vs:= [.bool true, .string ⟨u3 f.aN⟩, .slice none 0 0]) (o:=0) R rfl rfl I0 rfl rfl rfl rfl ?_)
 intro S T
 have t:=T.pb [0]
 refine⟨.inr ⟨_,t⟩, ?_⟩
 refine qn (Gs (rt (GM (fK (vs:= [.slice g b.length j, .agg #[.bool true, .string ⟨u3 f.aN⟩, .slice none 0 0]]) rfl (bT.tmp rfl (bT.cell rfl (GJ (cs:= [.bool true, .string ⟨u3 f.aN⟩, .slice none 0 0]) I2 I0 ((t.cls (i:=1) rfl).lit (k:=0) (m:=3) rfl)) bT.nil)) (Kk rfl)) ?_)))
 have U:Own w D S [row none 0 0 (q0 aA.cells []) 101 2,row g b.length j (q0 aA.cells b) 101 2,blk z [.bool true, .string ⟨u3 f.aN⟩, .slice none 0 0] 70]:=t.free (bX 101 2)
 have V:=U.pk [1,0]
 obtain⟨rfl,rfl⟩:=fC (zj hr zq3)
 exact⟨g,j,none,0,rfl,V,e8⟩
 have h41t:Bool.toNat c=0:=by rw [d]; rfl
 refine jT (cn d) (sr (Mz rfl (Kz (.agg #[.bool false, .string ⟨u3 []⟩, .slice none 0 0]) (Az rfl ?_))))
 refine bY [.bool false, .string ⟨u3 []⟩, .slice none 0 0] 0 G I0 ?_
 intro W I
 refine nt (rt (tR (GM (fK (vs:= [.slice g b.length j, .agg #[.bool false, .string ⟨u3 []⟩, .slice none 0 0]]) rfl (bT.tmp rfl (bT.cell rfl (GJ (cs:= [.bool false, .string ⟨u3 []⟩, .slice none 0 0]) I2 I0 ((I.cls (i:=0) rfl).lit (k:=0) (m:=3) rfl)) bT.nil)) (Kk rfl)) ?_)))
 have X:Own w D W [row none 0 0 (q0 aA.cells []) 101 2,blk z [.bool false, .string ⟨u3 []⟩, .slice none 0 0] 70,row g b.length j (q0 aA.cells b) 101 2]:=I.free (bX 101 2)
 have Y:=X.pk [2,0]
 obtain⟨rfl,rfl⟩:=fC (zj hr zq2)
 exact⟨g,j,none,0,rfl,Y,e8⟩
def gZ (a:List aA) (b:Int) (c:aA):(List aA):=
 if((E0 b:Nat):Int)=(a.length:Int) then(a++ [c]) else(t1 (E0 b) a++(c::r7 (E0 b) a))
theorem pz (w D f E d b a C) (c:aA) (y) (H:Own w D w [row f E d (q0 aA.cells b) 101 2,lG C 1 (q0 aA.cells ([c])) 101 2]) (F:E=b.length) (ag:b.length *32<=211106232532992) (ah:0<=a/\a<=((b.length:Nat):Int)/\(b.length+1) *32<=211106232532992) (hr:gZ b a c=y):
    Calls u2 162 #[.slice f E d,vI a, .slice C 1 1] w (dG λ v w'=> ∃ X Y,v= .slice X y.length Y/\Own w D w' [row X y.length Y (q0 aA.cells y) 101 2]/\(y.length=b.length+1)):=by
 unfold gZ at hr
 subst F
 have ai:=H.rowC (i:=0) rfl
 refine cb Tryz.func162 ?_
 refine sr (Ar rfl (Mz rfl (fw (vJ (E0 a)) (Gw (e:=a) (Gv rfl) e8) (fw (.slice (eu f (E0 a) 2 d) (b.length - (E0 a)) (d - (E0 a))) (G6 (iK) rfl rfl e8) (ns (Mz rfl (Kz (vI 1) (An rfl (Gp (sr (Mz rfl (Kz (.bool false) (nt (jf (sk (sr (Mz rfl (Kz (vJ b.length) (An rfl (Gp (sr (fw (vJ (E0 a)) (Gw (e:=a) (Gv rfl) e8) ?_))))))))))))))))))))))
 refine Mz rfl (Kz (.bool (decide (((E0 a:Nat):Int)=(b.length:Int)))) (nt ?_))
 by_cases h:((E0 a:Nat):Int)=(b.length:Int)
 refine jT (dT h) (sr (Mz rfl (Mz rfl ?_)))
 refine WL.do rfl (GZ (k:=b.length) (m:=1) (iK) H rfl rfl (eT E3 (dJ H (i:=1) rfl kS) (cB aA.one ([c]))) rfl e8 (s:=q5 (b++ [c])) f4 (List.flatMap_append).symm ?_)
 intro G I aj J
 have Z:q5 (b++ [c])=b.length+1:=by simp only [m8,q6,H2]
 refine An rfl (rt (tR (rs ?_)))
 have K:=J.pk [0]
 obtain rfl:=zj hr zq1
 exact⟨G,I,rfl,K,e8⟩
 refine jF (dF h) (sk (Gp (sr (Mz rfl (Mz rfl (fw (vJ (b.length+1)) (Gw (e:=v7.wrap ((b.length:Int)+1)) yk f1) (Mz rfl (Kz (vJ d) (Kz (.bool (decide (((b.length+1:Nat):Int) > (d:Int)))) (nt ?_))))))))))
 by_cases z:((b.length+1:Nat):Int) > (d:Int)
 refine jT (dT z) (sr (Mz rfl (fw (vJ (E0 a)) (Gw (e:=a) (Gv rfl) e8) (fw (.slice f (E0 a) d) (Hy (iK) rfl rfl e8) (Mz rfl (Mz rfl (fw (vJ (b.length+1)) (Gw (e:=v7.wrap ((b.length:Int)+1)) yk f1) (fw (vJ (E0 a)) (Gw (e:=a) (Gv rfl) e8) (fw (vJ ((b.length+1) - (E0 a))) (Gw (e:=v7.wrap (((b.length+1:Nat):Int) - ((E0 a:Nat):Int))) yk f1) ?_)))))))))
 have aa:q5 (t1 (E0 a) b++(c::r7 (E0 a) b))=b.length+1:=by simp only [m8,m6,q6,m7]; omega
 refine WL.do rfl (Ig (k:=E0 a) (m:=(b.length+1) - (E0 a)) (iK) Tryz.underlying3 H rfl rfl e8 e8 e8 rfl e8 (s:=q5 (t1 (E0 a) b++(c::r7 (E0 a) b))) e8 ?_)
 intro j g ae ak A n
 have L:=n.rowLe (i:=0) rfl
 refine Ar rfl (Mz rfl (fw (vJ (E0 a)) (Gw (e:=a) (Gv rfl) e8) (fw (.slice (eu j (E0 a) 2 g) ((q5 (t1 (E0 a) b++(c::r7 (E0 a) b))) - (E0 a)) (g - (E0 a))) (G6 (iK) rfl rfl e8) (Mz rfl ?_))))
 refine WL.do rfl (Hu (lo:=E0 a) (k:=1) (iK) n rfl (λ _=>fM ((n.rds (i:=0) rfl).isSome e8) e8) e8 rfl (dJ n (i:=2) rfl kS) e8 (λ u hu=>cB aA.one _ u (I3 hu)) rfl ?_)
 intro au M
 refine nt (Gp ?_)
 refine xX [8] (GD (GD GQ)) M ?_
 intro av o
 refine qv 0 rfl rfl (qt (v:=vJ (E0 a)) 1 rfl (λ _ _=>Gw (e:=a) (Gv rfl) e8) (qv 2 rfl rfl (qt (v:=vJ (E0 a+1)) 3 rfl (λ _ _=>Gw (e:=v7.wrap (((E0 a:Nat):Int)+1)) yk f1) (qt (v:= .slice (eu j (E0 a+1) 2 g) ((q5 (t1 (E0 a) b++(c::r7 (E0 a) b))) - (E0 a+1)) (g - (E0 a+1))) 4 rfl (λ _ _=>G6 (iK) rfl rfl e8) (qv 5 rfl rfl (qt (v:=vJ (E0 a)) 6 rfl (λ _ _=>Gw (e:=a) (Gv rfl) e8) (qt (v:= .slice (eu f (E0 a) 2 d) (b.length - (E0 a)) (d - (E0 a))) 7 rfl (λ _ _=>G6 (iK) rfl rfl e8) ?_)))))))
 refine qd 8 rfl (Hu (lo:=E0 a+1) (k:=b.length - E0 a) (iK) o rfl (λ _=>fM ((o.rds (i:=0) rfl).isSome e8) e8) e8 rfl (HY (lo:=E0 a) aA.len (o.rds (i:=1) rfl) e8 e8 f5) e8 (λ u hu=>cB aA.one _ u (I3 hu)) rfl ?_)
 intro N O
 refine⟨.inl e9, ?_⟩
 refine qn (Gs (sr (Mz rfl (An rfl (rt (tR (rs ?_)))))))
 have P:Own w D N [row j (q5 (t1 (E0 a) b++(c::r7 (E0 a) b))) g (q0 aA.cells (t1 (E0 a) b++(c::r7 (E0 a) b))) 101 2,row f b.length d (q0 aA.cells b) 101 2,lG C 1 (q0 aA.cells ([c])) 101 2]:=O.rowPart e8 (sN (l:=b) (k2:=b.length - E0 a) aA.len e8 A rfl rfl e8)
 have Q:=P.pk [0]
 obtain rfl:=zj hr zq1
 exact⟨j,g,rfl,Q,e8⟩
 refine jF (dF z) (sk (sr ?_))
 have B:q5 (t1 (E0 a) b++(c::r7 (E0 a) b))=b.length+1:=by simp only [m8,m6,q6,m7]; omega
 obtain⟨af,p,R⟩:=H.rowFull
 refine Mz rfl (Mz rfl (Mz rfl (fw (vJ (b.length+1)) (Gw (e:=v7.wrap ((b.length:Int)+1)) yk f1) (fw (.slice f (q5 (t1 (E0 a) b++(c::r7 (E0 a) b))) d) (Yl.to (Hy (iK) rfl rfl e8) (congrArg (λ q=>Value.slice f q d) B.symm)) (An rfl (Gp (sr (Mz rfl (Mz rfl (fw (vJ (E0 a)) (Gw (e:=a) (Gv rfl) e8) (Mz rfl (fw (vJ (E0 a+1)) (Gw (e:=v7.wrap (((E0 a:Nat):Int)+1)) yk f1) (fw (.slice (eu f (E0 a+1) 2 d) ((q5 (t1 (E0 a) b++(c::r7 (E0 a) b))) - (E0 a+1)) (d - (E0 a+1))) (G6 (iK) rfl rfl e8) ?_)))))))))))))
 have r:=R.pb [0]
 refine fw (.bool false) (Ii (lo:=E0 a+1) (run_callFunc_extern Tryz.func202 e9 e9 e9 (e:=Extern.SlicesOverlaps.overlaps #[25,25] #[4]) e9) E3 H3 r f5 e8 rfl (fM ((r.rds (i:=1) rfl).isSome e8) e8)) (Kz (.bool true) (nt (jt (Gp ?_))))
 refine oD [8] (GD (GD GQ)) r ?_
 intro ax S
 refine qv 0 rfl rfl (qt (v:=vJ (E0 a)) 1 rfl (λ _ _=>Gw (e:=a) (Gv rfl) e8) (qv 2 rfl rfl (qt (v:=vJ (E0 a+1)) 3 rfl (λ _ _=>Gw (e:=v7.wrap (((E0 a:Nat):Int)+1)) yk f1) (qt (v:= .slice (eu f (E0 a+1) 2 d) ((q5 (t1 (E0 a) b++(c::r7 (E0 a) b))) - (E0 a+1)) (d - (E0 a+1))) 4 rfl (λ _ _=>G6 (iK) rfl rfl e8) (qv 5 rfl rfl (qt (v:=vJ (E0 a)) 6 rfl (λ _ _=>Gw (e:=a) (Gv rfl) e8) (qt (v:= .slice (eu f (E0 a) 2 d) ((q5 (t1 (E0 a) b++(c::r7 (E0 a) b))) - (E0 a)) (d - (E0 a))) 7 rfl (λ _ _=>G6 (iK) rfl rfl e8) ?_)))))))
 have t:=S.pb [0]
 refine qd 8 rfl (Hu (lo:=E0 a+1) (k:=b.length - E0 a) (iK) t rfl (λ _=>fM ((t.rds (i:=0) rfl).isSome e8) e8) e8 rfl (bM.cut (lo:=E0 a) (hi:=q5 (t1 (E0 a) b++(c::r7 (E0 a) b))) (t.rds (i:=0) rfl) e8 e8 e8) e8 (λ u hu=>cB aA.one _ u (by rw [sO aA.len e8 rfl e8] at hu; exact hu)) rfl ?_)
 intro ay x
 refine⟨.inl e9, ?_⟩
 refine qn (Gs (sr (Mz rfl (fw (vJ (E0 a)) (Gw (e:=a) (Gv rfl) e8) (fw (.slice (eu f (E0 a) 2 d) ((q5 (t1 (E0 a) b++(c::r7 (E0 a) b))) - (E0 a)) (d - (E0 a))) (G6 (iK) rfl rfl e8) (Mz rfl ?_))))))
 refine WL.do rfl (Hu (lo:=E0 a) (k:=1) (iK) x rfl (λ _=>fM ((x.rds (i:=0) rfl).isSome e8) e8) e8 rfl (dJ x (i:=1) rfl kS) e8 (λ u hu=>cB aA.one _ u (I3 hu)) rfl ?_)
 intro T U
 refine ns (Mz rfl (An rfl (rt (tR (rs ?_)))))
 have V:Own w D T [row f (q5 (t1 (E0 a) b++(c::r7 (E0 a) b))) d (q0 aA.cells (t1 (E0 a) b++(c::r7 (E0 a) b))) 101 2,lG C 1 (q0 aA.cells ([c])) 101 2]:=U.rowPart e8 (sP (l:=b) (m:=(q5 (t1 (E0 a) b++(c::r7 (E0 a) b))) - E0 a) (k2:=b.length - E0 a) aA.len e8 (by rw [p]; exact Nat.le_mul_of_pos_left 2 e8) rfl rfl e8 e8)
 have W:=V.pk [0]
 obtain rfl:=zj hr zq1
 exact⟨f,d,rfl,W,e8⟩
def uC (d:List aA) (e:aY):(List aA) × cZ:=
 bnd (gW d e.aX) λ a=>bnd (if a.2=true then d else bnd (gZ d a.1 (aA.mk e.aX [])) λ b=>b) λ sJrbJ=>bnd (v1 sJrbJ (E0 a.1) default) λ c=>((J0 sJrbJ (E0 a.1) (aA.mk c.aX e.aN)),cZ.mk false [] (D4 []))
theorem CJ (w D M n0 N f) (d:aY) (O) (L:cZ) (H:Own w D w [row M n0 N (q0 aA.cells f) 101 2]) (aj:n0=f.length) (aT:f.length *32<=211106232532992) (aU:(f.length+1) *32<=211106232532992) (hr:uC f d=(O,L)):
    Calls u2 105 #[.slice M n0 N, .agg (aY.cells d).toArray] w (dG λ v w'=> ∃ B0 b0 z A,v= .tuple #[.slice B0 O.length b0, .agg #[.bool L.dO, .string ⟨u3 L.aN⟩, .slice z L.bq.ls.length A]]/\Own w D w' [row B0 O.length b0 (q0 aA.cells O) 101 2,row z L.bq.ls.length A (q0 aA.cells L.bq.ls) 101 2]/\(O.length<=f.length+1)):=by
 unfold uC at hr
 subst aj
 have aV:=H.rowC (i:=0) rfl
 refine cb Tryz.func105 ?_
 refine sr ?_
 refine bW (aY.cells d) 68 H ?_
 intro p aW ak
 refine Az rfl ?_
 refine bW [.bool false, .string ⟨u3 []⟩, .slice none 0 0] 70 ak ?_
 intro r aX P
 refine ns (Mz rfl (Kz (vP p 1) (Lz (.string ⟨u3 d.aX⟩) P 1 v3 ?_)))
 obtain⟨⟨a,g⟩,B⟩:∃ q:Int × Bool,gW f d.aX=q:=⟨_,rfl⟩
 obtain⟨aZ,Q,aM,R,S⟩:=Gr P
 refine cl H4 (qG _ _ M f.length N f d.aX a g Q (S _ 2 _ rfl bQ) rfl e8 B) ?_
 rintro _ bf ⟨rfl,T,C,E⟩
 have I:=R _ _ T
 replace C:0<=a/\a<=(f.length:Int):=C
 replace E:Bool.toNat g=0\/a < (f.length:Int):=E
 refine Mz rfl (Kz (vI a) (Kz (.bool g) (Az rfl (An rfl (Gp (sr (Mz rfl (Kz (.bool (!g)) (nt ?_)))))))))
 obtain⟨au,s⟩:=xW λ c (h:Nat) b w'=>Own w D w' [blk r [.bool false, .string ⟨u3 []⟩, .slice none 0 0] 70,blk p (aY.cells d) 68,row c b.length h (q0 aA.cells b) 101 2]/\b.length<=f.length+1/\f.length<=b.length/\a < (b.length:Int)/\(if g=true then f else bnd (gZ f a (aA.mk d.aX [])) λ U=>U)=b
 refine Iq (λ i:(Option Addr) × Nat × (List aA)=> [(0, .slice i.1 i.2.2.length i.2.1),(6,vI a),(5,vP r 0),(4, .slice none 0 0),(3,vP p 0)]) au ?_ ?_
 rcases Kq (g) with j | j
 have h45t:Bool.toNat g=1:=by rw [j]; rfl
 refine jF (cn j) (G7 ?_)
 have av:=I.pf []
 exact Ia (M,N,f) ⟨rfl,rfl,rfl,rfl,rfl,trivial⟩ (s.2 ⟨av,e8,e8,e8,ip j⟩)
 have h45t:Bool.toNat g=0:=by rw [j]; rfl
 refine jT (cn j) (Gq (Mz rfl (Mz rfl (Kz (vP p 1) (Lz (.string ⟨u3 d.aX⟩) I 1 v3 (Kz (.agg #[.string ⟨u3 d.aX⟩, .string ⟨u3 []⟩]) ?_))))))
 refine WL.do rfl (Il (cs:= [.string ⟨u3 d.aX⟩, .string ⟨u3 []⟩]) (t:=101) (sz:=2) (m:=1) I rfl rfl (λ _=>by kernel_rfl) rfl ?_)
 intro V bg J
 replace J:=Ha (y:=lG V 1 (q0 aA.cells ([(aA.mk d.aX [])])) 101 2) rfl J
 have ax:=J.pf [3]
 obtain⟨K,F⟩:∃ q,gZ f a (aA.mk d.aX [])=q:=⟨_,rfl⟩
 obtain⟨bi,W,aN,X,aO⟩:=Ht ax
 refine cl Tryz.call162 (pz _ _ M f.length N f a V (aA.mk d.aX []) K W rfl e8 e8 F) ?_
 rintro _ bn ⟨ay,az,rfl,Y,G⟩
 have Z:=X _ _ Y
 have aP:=Z.rowC (i:=0) rfl
 replace G:K.length=f.length+1:=G
 refine Az rfl (WL.nil ?_)
 have aB:=Z.pb [0]
 exact Ia (ay,az,K) ⟨rfl,rfl,rfl,rfl,rfl,trivial⟩ (s.2 ⟨aB,e8,e8,e8,et (dY j) (ae F)⟩)
 rintro ⟨c,h,b⟩ bq aa
 show Wp _ _ _ [(0, .slice c b.length h),(6,vI a),(5,vP r 0),(4, .slice none 0 0),(3,vP p 0)] _ _
 obtain⟨x,aQ,aR,aS,af⟩:=s.1 aa
 refine sr (Mz rfl (fw (vJ (E0 a)) (Gw (e:=a) (Gv rfl) e8) (Kz (vP p 2) (Lz (.string ⟨u3 d.aN⟩) x 1 v3 ?_))))
 obtain⟨l,u⟩:=dI (ls:=b) (i:=E0 a) aA.len f5 (x.rds (i:=2) rfl) f2
 refine fw (.pointer (some ⟨ab c,ao c+(E0 a) *2,none⟩)) (GI (iK) rfl rfl ((x.rds (i:=2) rfl).addr (i:=E0 a) e8) e8) (Kz (.pointer (some ⟨ab c,ao c+(E0 a) *2+1,none⟩)) ?_)
 have aC:=x.pf [2]
 refine Hz (Do.storeRow (vs:= [.string ⟨u3 d.aN⟩]) (o:=(E0 a) *2+1) (q:=ao c+(E0 a) *2+1) aC rfl e8 rfl Tryz.sizeOf9 rfl rfl (Kk rfl) (jg aA.len u (Kk rfl)) (jU (y:=(aA.mk l.aX d.aN)) aA.len rfl (Kk rfl) u) ?_)
 intro bu aD
 refine nt (Gp ?_)
 have aF:=aD.pk [0,1]
 refine Gq (Mz rfl (Kz (.agg #[.bool false, .string ⟨u3 []⟩, .slice none 0 0]) (Az rfl ?_)))
 have aG:=aF.pb [0]
 refine bY [.bool false, .string ⟨u3 []⟩, .slice none 0 0] 0 aG I0 ?_
 intro ag ah
 refine nt (rt (GM (fK (vs:= [.slice c b.length h, .agg #[.bool false, .string ⟨u3 []⟩, .slice none 0 0]]) rfl (bT.tmp rfl (bT.cell rfl (GJ (cs:= [.bool false, .string ⟨u3 []⟩, .slice none 0 0]) I2 I0 ((ah.cls (i:=0) rfl).lit (k:=0) (m:=3) rfl)) bT.nil)) (Kk rfl)) ?_))
 have n:b.length=q5 (J0 b (E0 a) (aA.mk l.aX d.aN)):=by first | omega | (simp only [J1]; done) | (simp only [J1,m8,q6,H2,m6,m7,List.length_replicate]; omega)
 have aH:Own w D ag [blk r [.bool false, .string ⟨u3 []⟩, .slice none 0 0] 70,row c (q5 (J0 b (E0 a) (aA.mk l.aX d.aN))) h (q0 aA.cells (J0 b (E0 a) (aA.mk l.aX d.aN))) 101 2]:=by rw [<- n]; exact ah
 have aI:Own w D ag [row none 0 0 (q0 aA.cells []) 101 2,blk r [.bool false, .string ⟨u3 []⟩, .slice none 0 0] 70,row c (q5 (J0 b (E0 a) (aA.mk l.aX d.aN))) h (q0 aA.cells (J0 b (E0 a) (aA.mk l.aX d.aN))) 101 2]:=aH.free (bX 101 2)
 have aJ:=aI.pk [2,0]
 obtain⟨rfl,rfl⟩:=fC (zj hr (show _=((J0 b (E0 a) (aA.mk l.aX d.aN)),cZ.mk false ([]) (D4 ([]))) from et (ae B) (et (ae af) (ae (bz u)))))
 exact⟨c,h,none,0,(by first | rfl | (rw [<- n]; done) | (rw [<- n]; rfl) | (rw [n]; first | done | rfl)),aJ,e8⟩
def gG (a:List aA) (b:Int) (c:Int):(List aA):=
 if b=c then a else(t1 (E0 b) a++r7 (E0 c) a)
theorem l7 (w D f o d a c b j) (H:Own w D w [row f o d (q0 aA.cells a) 101 2]) (p:o=a.length) (J:a.length *32<=211106232532992) (K:0<=c/\c<=b/\b<=((a.length:Nat):Int)) (hr:gG a c b=j):
    Calls u2 163 #[.slice f o d,vI c,vI b] w (dG λ v w'=> ∃ B C,v= .slice B j.length C/\Own w D w' [row B j.length C (q0 aA.cells j) 101 2]/\(j.length<=a.length)):=by
 unfold gG at hr
 subst p
 have L:=H.rowC (i:=0) rfl
 refine cb Tryz.func163 ?_
 refine sr (Ar rfl (Mz rfl (fw (vJ (E0 c)) (Gw (e:=c) (Gv rfl) e8) (fw (vJ (E0 b)) (Gw (e:=b) (Gv rfl) e8) (Mz rfl (Kz (vJ a.length) (fw (.slice (eu f (E0 c) 2 a.length) ((E0 b) - (E0 c)) (a.length - (E0 c))) (II (iK) rfl rfl rfl rfl e8 e8 e8) (nt (Gp (sr (Mz rfl (Mz rfl (Kz (.bool (decide (c=b))) (nt ?_))))))))))))))
 by_cases h:c=b
 refine jT (dT h) (sr (Mz rfl (An rfl (rt (tR (rs ?_))))))
 have q:=H.pf []
 obtain rfl:=zj hr zq1
 exact⟨f,d,rfl,q,e8⟩
 refine jF (dF h) (sk (sr (Mz rfl (Kz (vJ a.length) (An rfl (Gp ?_))))))
 have g:=H.drew
 refine Im [6] (λ W=> ∃ L',Own w D W ([row f a.length d (q0 aA.cells a) 101 2]++L')) e9 e9 (GD GQ) ⟨_,g⟩ ?_
 revert g
 generalize World.drew w=r
 intro g
 refine qv 0 rfl rfl (qt (v:=vJ (E0 c)) 1 rfl (λ _ _=>Gw (e:=c) (Gv rfl) e8) (qt (v:= .slice f (E0 c) d) 2 rfl (λ _ _=>Hy (iK) rfl rfl e8) (qv 3 rfl rfl (qt (v:=vJ (E0 b)) 4 rfl (λ _ _=>Gw (e:=b) (Gv rfl) e8) (qt (v:= .slice (eu f (E0 b) 2 d) (a.length - (E0 b)) (d - (E0 b))) 5 rfl (λ _ _=>G6 (iK) rfl rfl e8) ?_)))))
 have E:q5 (t1 (E0 c) a++r7 (E0 b) a)=E0 c+(a.length - E0 b):=by simp only [m8,m6,m7]; omega
 have l:Src u2 2 25 (.slice (eu f (E0 b) 2 d) (a.length - (E0 b)) (d - (E0 b))) (a.length - E0 b) (q0 aA.cells (r7 (E0 b) a)) r:=eT E3 (HY (lo:=E0 b) aA.len (g.rds (i:=0) rfl) e8 e8 f5) (cB aA.one (r7 (E0 b) a))
 obtain⟨F,t,u⟩:=g.rowFull
 refine qd 6 rfl (Ih (k:=E0 c) (m:=a.length - E0 b) (iK) u rfl rfl l e8 (s:=q5 (t1 (E0 c) a++r7 (E0 b) a)) e8 ?_)
 intro M n
 refine⟨.inl e9, ?_⟩
 refine Hf (v:= .slice f (q5 (t1 (E0 c) a++r7 (E0 b) a)) d) 7 rfl e9 (λ _=>H8 rfl) (qn (Gs (sr (Mz rfl (Mz rfl (Kz (vI ((q5 (t1 (E0 c) a++r7 (E0 b) a):Nat):Int)) (Mz rfl (fw (.slice (eu f (q5 (t1 (E0 c) a++r7 (E0 b) a)) 2 d) (a.length - (q5 (t1 (E0 c) a++r7 (E0 b) a))) (d - (q5 (t1 (E0 c) a++r7 (E0 b) a)))) (Yl.cut (iK) rfl rfl rfl e8 e8) ?_))))))))
 refine Hz (IA (z0:=(.agg #[.string ⟨u3 []⟩, .string ⟨u3 []⟩])) (lo:=q5 (t1 (E0 c) a++r7 (E0 b) a)) (nd:=(a.length - (q5 (t1 (E0 c) a++r7 (E0 b) a)))) e9 rfl (iK) n rfl (λ _=>fM ((n.rds (i:=0) rfl).isSome e8) e8) e8 ?_)
 intro x G I y
 refine ns (Mz rfl (An rfl (rt (rs ?_))))
 have z:Own w D x [row f (q5 (t1 (E0 c) a++r7 (E0 b) a)) d (q0 aA.cells (t1 (E0 c) a++r7 (E0 b) a)) 101 2]:=y.rowPart e8 (rG aA.len e8 e8 rfl)
 have A:=z.pf []
 obtain rfl:=zj hr zq1
 exact⟨f,d,rfl,A,e8⟩
def uD (c:List aA) (d:aY):(List aA) × cZ:=
 bnd (gW c d.aX) λ a=>if a.2=true then bnd (gG c a.1 (a.1+1)) λ b=>(b,cZ.mk false [] (D4 [])) else(c,cZ.mk false [] (D4 []))
theorem CK (w D r P s b) (x:aY) (z) (y:cZ) (H:Own w D w [row r P s (q0 aA.cells b) 101 2]) (Q:P=b.length) (av:b.length *32<=211106232532992) (ax:(b.length+1) *32<=211106232532992) (hr:uD b x=(z,y)):
    Calls u2 106 #[.slice r P s, .agg (aY.cells x).toArray] w (dG λ v w'=> ∃ B0 b0 h j,v= .tuple #[.slice B0 z.length b0, .agg #[.bool y.dO, .string ⟨u3 y.aN⟩, .slice h y.bq.ls.length j]]/\Own w D w' [row B0 z.length b0 (q0 aA.cells z) 101 2,row h y.bq.ls.length j (q0 aA.cells y.bq.ls) 101 2]/\(z.length<=b.length+1)):=by
 unfold uD at hr
 subst Q
 have ay:=H.rowC (i:=0) rfl
 refine cb Tryz.func106 ?_
 refine sr ?_
 refine bW (aY.cells x) 68 H ?_
 intro R az S
 refine Az rfl ?_
 refine bW [.bool false, .string ⟨u3 []⟩, .slice none 0 0] 70 S ?_
 intro A aB B
 refine nt (Gp (sr (Mz rfl (Kz (vP R 1) (Lz (.string ⟨u3 x.aX⟩) B 1 v3 ?_)))))
 obtain⟨⟨a,d⟩,g⟩:∃ q:Int × Bool,gW b x.aX=q:=⟨_,rfl⟩
 obtain⟨aC,C,ai,E,F⟩:=Gr B
 refine cl H4 (qG _ _ r b.length s b x.aX a d C (F _ 2 _ rfl bQ) rfl e8 g) ?_
 rintro _ aD ⟨rfl,G,l,n⟩
 have T:=E _ _ G
 replace l:0<=a/\a<=(b.length:Int):=l
 replace n:Bool.toNat d=0\/a < (b.length:Int):=n
 refine Mz rfl (Kz (vI a) (Kz (.bool d) (Az rfl (An rfl (Gp ?_)))))
 have I:=T.pk [0,2]
 refine Gq (Mn rfl ?_)
 rcases Kq (d) with c | c
 have h41t:Bool.toNat d=1:=by rw [c]; rfl
 refine jT c (Gq (Mz rfl (Mz rfl (Mz rfl (fw (vI (a+1)) (Gw (e:=v7.wrap (a+1)) yk i4) ?_)))))
 have U:=I.pb [0]
 obtain⟨f,o⟩:∃ q,gG b a (a+1)=q:=⟨_,rfl⟩
 obtain⟨aF,J,aj,K,ak⟩:=G9 U
 refine cl Tryz.call163 (l7 _ _ r b.length s b a (a+1) f J rfl e8 e8 o) ?_
 rintro _ aG ⟨t,u,rfl,L,p⟩
 have M:=K _ _ L
 have au:=M.rowC (i:=0) rfl
 replace p:f.length<=b.length:=p
 refine Ar rfl (Mz rfl (Kz (.agg #[.bool false, .string ⟨u3 []⟩, .slice none 0 0]) (Az rfl ?_)))
 have V:=M.pb [0]
 refine bY [.bool false, .string ⟨u3 []⟩, .slice none 0 0] 0 V I0 ?_
 intro W N
 refine nt (rt (GM (fK (vs:= [.slice t f.length u, .agg #[.bool false, .string ⟨u3 []⟩, .slice none 0 0]]) rfl (bT.tmp rfl (bT.cell rfl (GJ (cs:= [.bool false, .string ⟨u3 []⟩, .slice none 0 0]) I2 I0 ((N.cls (i:=0) rfl).lit (k:=0) (m:=3) rfl)) bT.nil)) (Kk rfl)) ?_))
 have X:Own w D W [row none 0 0 (q0 aA.cells []) 101 2,blk A [.bool false, .string ⟨u3 []⟩, .slice none 0 0] 70,row t f.length u (q0 aA.cells f) 101 2]:=N.free (bX 101 2)
 have Y:=X.pk [2,0]
 obtain⟨rfl,rfl⟩:=fC (zj hr zq3)
 exact⟨t,u,none,0,rfl,Y,e8⟩
 have h41t:Bool.toNat d=0:=by rw [c]; rfl
 refine jF c (sk (sr (Mz rfl (Kz (.agg #[.bool false, .string ⟨u3 []⟩, .slice none 0 0]) (Az rfl ?_)))))
 refine bY [.bool false, .string ⟨u3 []⟩, .slice none 0 0] 0 I I0 ?_
 intro Z O
 refine nt (rt (GM (fK (vs:= [.slice r b.length s, .agg #[.bool false, .string ⟨u3 []⟩, .slice none 0 0]]) rfl (bT.tmp rfl (bT.cell rfl (GJ (cs:= [.bool false, .string ⟨u3 []⟩, .slice none 0 0]) I2 I0 ((O.cls (i:=0) rfl).lit (k:=0) (m:=3) rfl)) bT.nil)) (Kk rfl)) ?_))
 have aa:Own w D Z [row none 0 0 (q0 aA.cells []) 101 2,blk A [.bool false, .string ⟨u3 []⟩, .slice none 0 0] 70,row r b.length s (q0 aA.cells b) 101 2]:=O.free (bX 101 2)
 have af:=aa.pk [2,0]
 obtain⟨rfl,rfl⟩:=fC (zj hr zq2)
 exact⟨r,s,none,0,rfl,af,e8⟩
def jJ (c:List aA) (d:aj):Int × Int:=
 bnd (gW c d.aO) λ a=>if d.aS=[] then(a.1,(c.length:Int)) else bnd (gW c d.aS) λ b=>(a.1,b.1)
theorem wo (w D C G I a) (d:aj) (E F) (H:Own w D w []) (p:Ro w D λ w'=>bM w' 2 C G (q0 aA.cells a)) (J:G=a.length) (P:a.length *32<=211106232532992) (hr:jJ a d=(E,F)):
    Calls u2 164 #[.slice C G I, .agg (aj.cells d).toArray] w (dG λ v w'=>v= .tuple #[vI E,vI F]/\Own w D w' []/\(0<=E/\E<=((a.length:Nat):Int)/\0<=F/\F<=((a.length:Nat):Int))):=by
 unfold jJ at hr
 subst J
 refine cb Tryz.func164 ?_
 refine sr ?_
 refine bW (aj.cells d) 37 H ?_
 intro m Q r
 refine Az rfl (Ar rfl (Mz rfl (Kz (vP m 0) (Lz (.string ⟨u3 d.aO⟩) r 0 v3 ?_))))
 obtain⟨⟨b,n⟩,e⟩:∃ q:Int × Bool,gW a d.aO=q:=⟨_,rfl⟩
 obtain⟨R,s,t,u,N⟩:=Gr r
 refine cl H4 (qG _ _ C a.length I a d.aO b n s (t _ p) rfl e8 e) ?_
 rintro _ S ⟨rfl,x,h,i⟩
 have f:=u _ _ x
 replace h:0<=b/\b<=(a.length:Int):=h
 replace i:Bool.toNat n=0\/b < (a.length:Int):=i
 refine Mz rfl (Kz (vI b) (Kz (.bool n) (Az rfl (An rfl (Gp (sr (Kz (vP m 1) (Lz (.string ⟨u3 d.aS⟩) f 0 v3 (fw (.bool (decide (d.aS=[]))) (Ir rfl rfl) (nt ?_))))))))))
 by_cases g:d.aS=[]
 refine jT (dT g) (sr (Mz rfl (Mz rfl (Kz (vJ a.length) (Az rfl (An rfl (rt (tR (GM (j6 rfl rfl rfl) ?_)))))))))
 have K:=f.pk []
 obtain⟨rfl,rfl⟩:=fC (zj hr zq2)
 exact⟨rfl,K,e8⟩
 refine jF (dF g) (sk (sr (Mz rfl (Kz (vP m 1) (Lz (.string ⟨u3 d.aS⟩) f 0 v3 ?_)))))
 obtain⟨⟨c,o⟩,j⟩:∃ q:Int × Bool,gW a d.aS=q:=⟨_,rfl⟩
 obtain⟨T,y,z,A,O⟩:=Gr f
 refine cl H4 (qG _ _ C a.length I a d.aS c o y (z _ p) rfl e8 j) ?_
 rintro _ U ⟨rfl,B,k,l⟩
 have L:=A _ _ B
 replace k:0<=c/\c<=(a.length:Int):=k
 replace l:Bool.toNat o=0\/c < (a.length:Int):=l
 refine Mz rfl (Kz (vI c) (Kz (.bool o) (Az rfl (Ar rfl (Mz rfl (Mz rfl (Az rfl (An rfl (rt (GM (j6 rfl rfl rfl) ?_))))))))))
 have M:=L.pk []
 obtain⟨rfl,rfl⟩:=fC (zj hr zq3)
 exact⟨rfl,M,e8⟩
def qH (a:List aA):(List aA):=
 a
theorem mf (w D e g x a f) (H:Own w D w []) (d:Ro w D λ w'=>bM w' 2 e g (q0 aA.cells a)) (h:g=a.length) (y:a.length *32<=211106232532992) (hr:qH a=f):
    Calls u2 165 #[.slice e g x] w (dG λ v w'=> ∃ t u,v= .slice t f.length u/\Own w D w' [row t f.length u (q0 aA.cells f) 101 2]):=by
 subst h
 refine cb Tryz.func165 ?_
 refine sr (An rfl (Gp (sr (Mz rfl (fw (.bool (Option.isNone e)) (Ij E3 rfl rfl) (nt ?_))))))
 rcases Kq (Option.isNone e) with b | b
 obtain rfl:a= []:=qY (enc:=aA.cells) (H.ro d) b
 refine jT b (sr (An rfl (rt (tR (rs ?_)))))
 have i:Own w D w [row none 0 0 (q0 aA.cells []) 101 2]:=H.free (bX 101 2)
 have j:=i.pf []
 obtain rfl:_=[]:=zj hr rfl
 exact⟨none,0,rfl,j⟩
 refine jF b (sk (sr ?_))
 refine jE [] 101 2 0 H ?_
 intro l n c
 replace c:Own w D n [row l 0 0 (q0 aA.cells []) 101 2]:=c
 refine Mz rfl ?_
 refine WL.do rfl (GZ (k:=0) (m:=a.length) (iK) c rfl rfl (eT E3 (c.ro d) (cB aA.one a)) rfl e8 (s:=a.length) e8 rfl ?_)
 intro o p z q
 refine An rfl (rt (rs ?_))
 have r:=q.pf []
 obtain rfl:_=a:=zj hr rfl
 exact⟨o,p,rfl,r⟩
def sH (c:List aA) (d:aY):(List aA) × cZ:=
 bnd (fD d) λ b=>bnd (jJ c b) λ a=>(c,cZ.mk false [] (D4 (t1 ((E0 (min a.2 (a.1+d.bO))) - (E0 a.1)) (r7 (E0 a.1) c))))
theorem BU (w D r O l d) (c:aY) (u) (t:cZ) (H:Own w D w [row r O l (q0 aA.cells d) 101 2]) (P:O=d.length) (ak:d.length *32<=211106232532992) (au:(d.length+1) *32<=211106232532992) (Q:(jJ d (fD c)).1<=(jJ d (fD c)).2) (av:1<=c.bO/\c.bO<=4) (hr:sH d c=(u,t)):
    Calls u2 110 #[.slice r O l, .agg (aY.cells c).toArray] w (dG λ v w'=> ∃ X Y n o,v= .tuple #[.slice X u.length Y, .agg #[.bool t.dO, .string ⟨u3 t.aN⟩, .slice n t.bq.ls.length o]]/\Own w D w' [row X u.length Y (q0 aA.cells u) 101 2,row n t.bq.ls.length o (q0 aA.cells t.bq.ls) 101 2]/\(u.length<=d.length+1)):=by
 unfold sH at hr
 subst P
 have ax:=H.rowC (i:=0) rfl
 refine cb Tryz.func110 ?_
 refine sr ?_
 refine bW (aY.cells c) 68 H ?_
 intro R ay S
 refine Az rfl ?_
 refine bW [.bool false, .string ⟨u3 []⟩, .slice none 0 0] 70 S ?_
 intro az aB x
 refine ns (Mz rfl (La (aY.cells c) x 1 Tryz.isAgg68 Tryz.sizeOf68 ?_))
 obtain⟨s,f⟩:∃ q,fD c=q:=⟨_,rfl⟩
 obtain⟨aC,y,Z,z,aa⟩:=Gr x
 refine cl Tryz.call109 (ll _ _ c s y f) ?_
 rintro _ aD ⟨rfl,A⟩
 have T:=z _ _ A
 obtain⟨⟨a,b⟩,g⟩:∃ q:Int × Int,jJ d s=q:=⟨_,rfl⟩
 obtain⟨aF,B,af,C,E⟩:=Gr T
 refine cl Tryz.call164 (wo _ _ r d.length l d s a b B (E _ 2 _ rfl bQ) rfl e8 g) ?_
 rintro _ aG ⟨rfl,F,p⟩
 have G:=C _ _ F
 replace p:0<=a/\a<=(d.length:Int)/\0<=b/\b<=(d.length:Int):=p
 have ag:a<=b:=by
    have q:=Q
    rw [f,g] at q
    exact q
 refine Mz rfl (Kz (vI a) (Kz (vI b) (Az rfl (Ar rfl (Mz rfl (Mz rfl (Kz (vP R 5) (Lz (vI c.bO) G 1 Tryz.isAgg3 (fw (vI (a+c.bO)) (Gw (e:=v7.wrap (a+c.bO)) yk i4) (fw (vI (min b (a+c.bO))) (Gw (e:=if a+c.bO < b then a+c.bO else b) yk e8) (An rfl (Gp ?_))))))))))))
 have U:=G.pk [0,2]
 refine Gq (Mz rfl (Mz rfl (fw (vJ (E0 a)) (Gw (e:=a) (Gv rfl) e8) (fw (vI ((E0 (min b (a+c.bO)):Nat):Int)) (Gw (e:=min b (a+c.bO)) (Gv rfl) e8) (fw (.slice (eu r (E0 a) 2 l) ((E0 (min b (a+c.bO))) - (E0 a)) (l - (E0 a))) (Yl.cut (iK) rfl rfl rfl e8 e8) ?_)))))
 have ah:(E0 (min b (a+c.bO))) - (E0 a)=q5 (t1 ((E0 (min b (a+c.bO))) - (E0 a)) (r7 (E0 a) d)):=g6
 obtain⟨aH,I,ai,J,K⟩:=Gr U
 refine cl Tryz.call165 (mf _ _ (eu r (E0 a) 2 l) ((E0 (min b (a+c.bO))) - (E0 a)) (l - (E0 a)) (t1 ((E0 (min b (a+c.bO))) - (E0 a)) (r7 (E0 a) d)) (t1 ((E0 (min b (a+c.bO))) - (E0 a)) (r7 (E0 a) d)) I (λ w9 h9=>bM.cutE (lo:=E0 a) (hi:=E0 (min b (a+c.bO))) aA.len ((K _ 1 _ rfl bQ) w9 h9) e8 e8 e8) g6 i6 rfl) ?_
 rintro _ aK ⟨h,j,rfl,L⟩
 have M:=J _ _ L
 have aj:=M.rowC (i:=0) rfl
 refine Kz (.agg #[.bool false, .string ⟨u3 []⟩, .slice h (q5 (t1 ((E0 (min b (a+c.bO))) - (E0 a)) (r7 (E0 a) d))) j]) (Az rfl ?_)
 have V:=M.pf [1]
 refine bY [.bool false, .string ⟨u3 []⟩, .slice h (q5 (t1 ((E0 (min b (a+c.bO))) - (E0 a)) (r7 (E0 a) d))) j] 0 V I0 ?_
 intro aL N
 refine nt (rt (GM (fK (vs:= [.slice r d.length l, .agg #[.bool false, .string ⟨u3 []⟩, .slice h (q5 (t1 ((E0 (min b (a+c.bO))) - (E0 a)) (r7 (E0 a) d))) j]]) rfl (bT.tmp rfl (bT.cell rfl (GJ (cs:= [.bool false, .string ⟨u3 []⟩, .slice h (q5 (t1 ((E0 (min b (a+c.bO))) - (E0 a)) (r7 (E0 a) d))) j]) I2 I0 ((N.cls (i:=0) rfl).lit (k:=0) (m:=3) rfl)) bT.nil)) (Kk rfl)) ?_))
 have W:=N.pk [2,1]
 obtain⟨rfl,rfl⟩:=fC (zj hr zq2)
 exact⟨r,l,h,j,rfl,W,e8⟩
def sI (d:List aA) (e:aY):(List aA) × cZ:=
 bnd (fD e) λ b=>bnd (jJ d b) λ a=>bnd (gG d a.1 a.2) λ c=>(c,cZ.mk false [] (D4 []))
theorem BV (w D M O N a) (g:aY) (u) (t:cZ) (H:Own w D w [row M O N (q0 aA.cells a) 101 2]) (P:O=a.length) (ay:a.length *32<=211106232532992) (az:(a.length+1) *32<=211106232532992) (Q:(jJ a (fD g)).1<=(jJ a (fD g)).2) (hr:sI a g=(u,t)):
    Calls u2 113 #[.slice M O N, .agg (aY.cells g).toArray] w (dG λ v w'=> ∃ B0 b0 h j,v= .tuple #[.slice B0 u.length b0, .agg #[.bool t.dO, .string ⟨u3 t.aN⟩, .slice h t.bq.ls.length j]]/\Own w D w' [row B0 u.length b0 (q0 aA.cells u) 101 2,row h t.bq.ls.length j (q0 aA.cells t.bq.ls) 101 2]/\(u.length<=a.length+1)):=by
 unfold sI at hr
 subst P
 have aB:=H.rowC (i:=0) rfl
 refine cb Tryz.func113 ?_
 refine sr ?_
 refine bW (aY.cells g) 68 H ?_
 intro aC aD R
 refine Az rfl ?_
 refine bW [.bool false, .string ⟨u3 []⟩, .slice none 0 0] 70 R ?_
 intro S aF x
 refine ns (Mz rfl (La (aY.cells g) x 1 Tryz.isAgg68 Tryz.sizeOf68 ?_))
 obtain⟨p,e⟩:∃ q,fD g=q:=⟨_,rfl⟩
 obtain⟨aG,y,ah,z,ai⟩:=Gr x
 refine cl Tryz.call109 (ll _ _ g p y e) ?_
 rintro _ aH ⟨rfl,A⟩
 have T:=z _ _ A
 obtain⟨⟨b,c⟩,f⟩:∃ q:Int × Int,jJ a p=q:=⟨_,rfl⟩
 obtain⟨aI,B,aj,C,E⟩:=Gr T
 refine cl Tryz.call164 (wo _ _ M a.length N a p b c B (E _ 2 _ rfl bQ) rfl e8 f) ?_
 rintro _ aJ ⟨rfl,F,l⟩
 have U:=C _ _ F
 replace l:0<=b/\b<=(a.length:Int)/\0<=c/\c<=(a.length:Int):=l
 have ak:b<=c:=by
    have q:=Q
    rw [e,f] at q
    exact q
 refine Mz rfl (Kz (vI b) (Kz (vI c) (Az rfl (An rfl (Gp ?_)))))
 have V:=U.pk [0,2]
 refine Gq (Mz rfl (Mz rfl (Mz rfl ?_)))
 have W:=V.pb [0]
 obtain⟨d,n⟩:∃ q,gG a b c=q:=⟨_,rfl⟩
 obtain⟨aK,G,au,I,av⟩:=G9 W
 refine cl Tryz.call163 (l7 _ _ M a.length N a b c d G rfl e8 e8 n) ?_
 rintro _ aL ⟨r,s,rfl,J,o⟩
 have K:=I _ _ J
 have ax:=K.rowC (i:=0) rfl
 replace o:d.length<=a.length:=o
 refine Kz (.agg #[.bool false, .string ⟨u3 []⟩, .slice none 0 0]) (Az rfl ?_)
 have X:=K.pb [0]
 refine bY [.bool false, .string ⟨u3 []⟩, .slice none 0 0] 0 X I0 ?_
 intro Y L
 refine nt (rt (GM (fK (vs:= [.slice r d.length s, .agg #[.bool false, .string ⟨u3 []⟩, .slice none 0 0]]) rfl (bT.tmp rfl (bT.cell rfl (GJ (cs:= [.bool false, .string ⟨u3 []⟩, .slice none 0 0]) I2 I0 ((L.cls (i:=0) rfl).lit (k:=0) (m:=3) rfl)) bT.nil)) (Kk rfl)) ?_))
 have Z:Own w D Y [row none 0 0 (q0 aA.cells []) 101 2,blk S [.bool false, .string ⟨u3 []⟩, .slice none 0 0] 70,row r d.length s (q0 aA.cells d) 101 2]:=L.free (bX 101 2)
 have aa:=Z.pk [2,0]
 obtain⟨rfl,rfl⟩:=fC (zj hr zq3)
 exact⟨r,s,none,0,rfl,aa,e8⟩
end
open Sum renaming inl->v0,inr->v2
open _root_.Go.Proofs.Tryz renaming call26->K0,call97->K1,isAgg101->K2,isAgg3->v5
open Wp renaming loop->v4
section
open Go.RowKit
def jl (a:List UInt8):Int:=
 if(a.length:Int) < 1 then 20 else if(a.length:Int) > 12 then 20 else 0
theorem lT (w D b d) (H:Own w D w []) (hr:jl b=d):
    Calls u2 26 #[.string ⟨u3 b⟩] w (dG λ v w'=>v=vI d/\Own w D w' []/\(¬ (d=0)\/(1<=b.length/\b.length<=12))):=by
 unfold jl at hr
 refine cb Tryz.func26 ?_
 refine sr (An rfl (Gp (sr (Mz rfl (Kz (vJ b.length) (Kz (.bool (decide ((b.length:Int) < 1))) (Mz rfl ?_)))))))
 by_cases a:(b.length:Int) < 1
 refine Sz (dT a) (Sz (dT a) (Sz (dT a) (fw (.bool true) (Gu rfl (dT a) rfl) (nt (jt (sr (An rfl (rt (tR (rs ?_))))))))))
 have e:=H.pk []
 obtain rfl:=zj hr zq1
 exact⟨rfl,e,e8⟩
 refine gw (.string ⟨u3 b⟩) (dF a) (Gv rfl) (Gz (vJ b.length) (dF a) (Gz (.bool (decide ((b.length:Int) > 12))) (dF a) (fw (.bool (decide ((b.length:Int) > 12))) (Gm rfl (dF a) rfl) (nt ?_))))
 by_cases c:(b.length:Int) > 12
 refine jT (dT c) (sr (An rfl (rt (tR (rs ?_)))))
 have f:=H.pk []
 obtain rfl:=zj hr zq2
 exact⟨rfl,f,e8⟩
 refine jF (dF c) (sk (sr (An rfl (rt (rs ?_)))))
 have g:=H.pk []
 obtain rfl:=zj hr zq2
 exact⟨rfl,g,e8⟩
def oV (d:List UInt8):Nat->Nat->Nat
  | 0,a=>default
  | c+1,a=>if(a:Int) > 0 then bnd (v1 d (a - 1) default) λ b=>if(b.toNat:Int)=255 then oV d c (a - 1) else a else a
def ww (a:List UInt8):aj × Int:=
 bnd (jl a) λ b=>if b=0 then if(a.length:Int) < 12 then(aj.mk a (a++([0])),0) else bnd (bnd (oV a (12+1) 12) λ sLrbtfJjL=>sLrbtfJjL) λ sJrbtfJ=>if(sJrbtfJ:Int)=0 then(aj.mk a [],0) else bnd (v1 a (sJrbtfJ - 1) default) λ c=>(aj.mk a ((t1 (sJrbtfJ - 1) a)++([(c+(1:UInt8))])),0) else(aj.mk [] [],b)
theorem zZ (w D a) (r0:aj) (r1) (H:Own w D w []) (hr:ww a=(r0,r1)):
    Calls u2 58 #[.string ⟨u3 a⟩] w (dG λ v w'=>v= .tuple #[.agg (aj.cells r0).toArray,vI r1]/\Own w D w' []):=by
 unfold ww at hr
 refine cb Tryz.func58 ?_
 refine sr ?_
 refine bW [.string ⟨u3 []⟩, .string ⟨u3 []⟩] 37 H ?_
 intro j aK X
 refine An rfl (Gp (sr (Mz rfl ?_)))
 obtain⟨h,g⟩:∃ q,jl a=q:=⟨_,rfl⟩
 obtain⟨aL,N,aD,O,aF⟩:=Gr X
 refine cl K0 (lT _ _ a h N g) ?_
 rintro _ aM ⟨rfl,P,F⟩
 have J:=O _ _ P
 replace F: ¬ (h=0)\/(1<=a.length/\a.length<=12):=F
 refine Ar rfl (Mz rfl (fw (.bool (decide (¬ (h=0)))) (GN (e:= !(decide (h=0))) yk decide_not.symm) (nt ?_)))
 by_cases n:h=0
 refine jF (dF (Ko n)) (sk (Gp (sr (Mz rfl (Kz (vJ a.length) (Kz (.bool (decide ((a.length:Int) < 12))) (nt ?_)))))))
 by_cases p:(a.length:Int) < 12
 refine jT (decide_eq_true p) (sr (Mz rfl (Mz rfl (fw (.string ⟨u3 (a++([0]))⟩) (IB rfl rfl g5) (Kz (.agg #[.string ⟨u3 a⟩, .string ⟨u3 (a++([0]))⟩]) ?_)))))
 refine bY [.string ⟨u3 a⟩, .string ⟨u3 (a++([0]))⟩] 0 J B4 ?_
 intro aN Q
 refine An rfl (rt (tR (GM (fK (vs:= [.agg #[.string ⟨u3 a⟩, .string ⟨u3 (a++([0]))⟩],vI 0]) rfl (bT.cell rfl (GJ (cs:= [.string ⟨u3 a⟩, .string ⟨u3 (a++([0]))⟩]) B5 B4 ((Q.cls (i:=0) rfl).lit (k:=0) (m:=2) rfl)) (bT.tmp rfl bT.nil)) (Kk rfl)) ?_)))
 have Y:=Q.pk []
 obtain⟨rfl,rfl⟩:=fC (zj hr zq3)
 exact⟨rfl,Y⟩
 refine jF (dF p) (sk (sr (An rfl (Gp ?_))))
 obtain⟨Z,r⟩:=mP λ (b:Nat) w'=>Own w D w' [blk j [.string ⟨u3 []⟩, .string ⟨u3 []⟩] 37]/\b<=9223372036854775807/\b<=a.length/\(bnd (oV a (12+1) 12) λ sLrbtfJjL=>sLrbtfJjL)=b
 refine Iq (λ i:Nat=> [(5,vJ i),(3,vI 0),(2,vP j 0),(0, .string ⟨u3 a⟩)]) Z ?_ ?_
 refine bo ?_
 have aa:=J.pf []
 obtain⟨af,s⟩:=ER λ (c:Nat) (u:Nat) w'=>Own w D w' [blk j [.string ⟨u3 []⟩, .string ⟨u3 []⟩] 37]/\c<=a.length/\c < u/\oV a (12+1) 12=oV a u c
 refine v4 (λ i:Nat × Nat=> [(5,vJ i.1),(3,vI 0),(2,vP j 0),(0, .string ⟨u3 a⟩)]) af (λ i=>i.2) (12,12+1) ⟨rfl,rfl,rfl,rfl,trivial⟩ (s.2 ⟨aa,e8,e8,rfl⟩) ?_
 rintro ⟨c,u⟩ aO R
 show Wp _ _ _ [(5,vJ c),(3,vI 0),(2,vP j 0),(0, .string ⟨u3 a⟩)] _ _
 obtain⟨K,aG,aH,x⟩:=s.1 R
 obtain⟨L,S⟩:∃ q,u=q+1:=⟨u - 1,e8⟩
 subst S
 refine Gp (sr (Mz rfl (Kz (.bool (decide ((c:Int) > 0))) (Mz rfl ?_))))
 by_cases d:(c:Int) > 0
 refine gw (.string ⟨u3 a⟩) (dT d) (Gv rfl) (gw (vJ c) (dT d) (Gv rfl) (gw (vJ (c - 1)) (dT d) (Gw (e:=v7.wrap ((c:Int) - 1)) yk f1) ?_))
 obtain⟨B,z⟩:=mK (ls:=a) (i:=c - 1) e8
 refine gw (.int .u8 (B.toNat:Int)) (dT d) (Iu u5 rfl rfl z) (Gz (.bool (decide ((B.toNat:Int)=255))) (dT d) (fw (.bool (decide ((B.toNat:Int)=255))) (Gu rfl (dT d) rfl) (nt ?_)))
 by_cases C:(B.toNat:Int)=255
 refine jT (dT C) (sk (bo (Gq (Mz rfl (fw (vJ (c - 1)) (Gw (e:=v7.wrap ((c:Int) - 1)) yk f1) (Az rfl (v8 (bN ?_))))))))
 have ag:=K.pf []
 exact GL (c - 1,L) ⟨rfl,rfl,rfl,rfl,trivial⟩ (s.2 ⟨ag,e8,e8,et (x) (et (ip d) (et (ae (bz z)) (ip C)))⟩) (by show L < L+1; omega)
 refine jF (dF C) (v9 (GK (GK (GR ?_))))
 have ah:=K.pf []
 exact Ia c ⟨rfl,rfl,rfl,rfl,trivial⟩ (r.2 ⟨ah,e8,e8,ae (et (x) (et (ip d) (et (ae (bz z)) (iN C))))⟩)
 refine Sz (dF d) (Sz (dF d) (Sz (dF d) (Sz (dF d) (Sz (dF d) (fw (.bool false) (Gm rfl (dF d) rfl) (nt (jf (v9 (GK (GK (GR ?_)))))))))))
 have ai:=K.pf []
 exact Ia c ⟨rfl,rfl,rfl,rfl,trivial⟩ (r.2 ⟨ai,e8,e8,ae (et (x) (iN d))⟩)
 rintro b aP T
 show Wp _ _ _ [(5,vJ b),(3,vI 0),(2,vP j 0),(0, .string ⟨u3 a⟩)] _ _
 obtain⟨U,aI,aJ,G⟩:=r.1 T
 refine Gp (sr (Mz rfl (Kz (.bool (decide ((b:Int)=0))) (nt ?_))))
 by_cases E:(b:Int)=0
 refine jT (dT E) (sr (Mz rfl (Kz (.agg #[.string ⟨u3 a⟩, .string ⟨u3 []⟩]) ?_)))
 refine bY [.string ⟨u3 a⟩, .string ⟨u3 []⟩] 0 U B4 ?_
 intro aQ V
 refine An rfl (rt (tR (GM (fK (vs:= [.agg #[.string ⟨u3 a⟩, .string ⟨u3 []⟩],vI 0]) rfl (bT.cell rfl (GJ (cs:= [.string ⟨u3 a⟩, .string ⟨u3 []⟩]) B5 B4 ((V.cls (i:=0) rfl).lit (k:=0) (m:=2) rfl)) (bT.tmp rfl bT.nil)) (Kk rfl)) ?_)))
 have ak:=V.pk []
 obtain⟨rfl,rfl⟩:=fC (zj hr zq5)
 exact⟨rfl,ak⟩
 refine jF (dF E) (sk (Gp ?_))
 refine Bq [] (GD GQ) U ?_
 intro aR au
 refine qv 0 rfl rfl (qv 1 rfl rfl (qv 2 rfl rfl (qt (v:=vJ (b - 1)) 3 rfl (λ _ _=>Gw (e:=v7.wrap ((b:Int) - 1)) yk f1) (qt (v:= .string ⟨u3 (t1 (b - 1) a)⟩) 4 rfl (λ _ _=>Jh u5 rfl rfl g5) (qv 5 rfl rfl (qv 6 rfl rfl (qt (v:=vJ (b - 1)) 7 rfl (λ _ _=>Gw (e:=v7.wrap ((b:Int) - 1)) yk f1) ?_)))))))
 obtain⟨f,I⟩:=mK (ls:=a) (i:=b - 1) e8
 refine qt (v:= .int .u8 (f.toNat:Int)) 8 rfl (λ _ _=>Iu u5 rfl rfl I) (qt (v:= .int .u8 (((f+(1:UInt8)).toNat:Nat):Int)) 9 rfl (λ _ _=>Gw (e:=IntKind.u8.wrap ((f.toNat:Int)+1)) yk (Cr f (1:UInt8))) ?_)
 refine qd 10 rfl (Hw (cs:= [.int .u8 (((f+(1:UInt8)).toNat:Nat):Int)]) (t:=5) (sz:=1) (m:=1) au rfl rfl (λ _=>by kernel_rfl) rfl f5 ?_)
 intro av aS A
 replace A:=Ha (y:=row av 1 1 (q0 eB ([(f+(1:UInt8))])) 5 1) rfl A
 refine⟨.inr ⟨_,A⟩, ?_⟩
 refine FN A (qt (v:= .string ⟨u3 ([(f+(1:UInt8))])⟩) 11 rfl (λ _ ⟨_,H9⟩=>IR (l:= [(f+(1:UInt8))]) Tryz.underlying186 Tryz.underlying5 u5 (H9.rds (i:=0) rfl) rfl) (qt (v:= .string ⟨u3 ((t1 (b - 1) a)++([(f+(1:UInt8))]))⟩) 12 rfl (λ _ _=>IB rfl rfl g5) (qk (.agg #[.string ⟨u3 a⟩, .string ⟨u3 ((t1 (b - 1) a)++([(f+(1:UInt8))]))⟩]) 13 rfl ?_)))
 have ax:=A.pb [0]
 refine qe 14 rfl (Do.store (vs:= [.string ⟨u3 a⟩, .string ⟨u3 ((t1 (b - 1) a)++([(f+(1:UInt8))]))⟩]) (o:=0) ax rfl rfl B4 rfl rfl rfl rfl ?_)
 intro aU ay
 have M:=ay.pb [0]
 refine⟨.inr ⟨_,M⟩, ?_⟩
 refine qa 15 rfl rfl (qn (Gs (rt (GM (fK (vs:= [.agg #[.string ⟨u3 a⟩, .string ⟨u3 ((t1 (b - 1) a)++([(f+(1:UInt8))]))⟩],vI 0]) rfl (bT.cell rfl (GJ (cs:= [.string ⟨u3 a⟩, .string ⟨u3 ((t1 (b - 1) a)++([(f+(1:UInt8))]))⟩]) B5 B4 ((M.cls (i:=1) rfl).lit (k:=0) (m:=2) rfl)) (bT.tmp rfl bT.nil)) (Kk rfl)) ?_))))
 have az:=M.pk []
 obtain⟨rfl,rfl⟩:=fC (zj hr zq6)
 exact⟨rfl,az⟩
 refine jT (dT n) (sr (Kz (.agg #[.string ⟨u3 []⟩, .string ⟨u3 []⟩]) (Mz rfl ?_)))
 refine bY [.string ⟨u3 []⟩, .string ⟨u3 []⟩] 0 J B4 ?_
 intro aV W
 refine An rfl (rt (tR (GM (fK (vs:= [.agg #[.string ⟨u3 []⟩, .string ⟨u3 []⟩],vI h]) rfl (bT.cell rfl (GJ (cs:= [.string ⟨u3 []⟩, .string ⟨u3 []⟩]) B5 B4 ((W.cls (i:=0) rfl).lit (k:=0) (m:=2) rfl)) (bT.tmp rfl bT.nil)) (Kk rfl)) ?_)))
 have aA:=W.pk []
 obtain⟨rfl,rfl⟩:=fC (zj hr zq2)
 exact⟨rfl,aA⟩
def oW (a:aj):Int:=
 if(a.aO.length:Int) > 12 then 21 else if(a.aS.length:Int) > 12 then 21 else if a.aS≠[] then if a.aS<=a.aO then 21 else 0 else 0
theorem tu (w D) (d:aj) (n) (H:Own w D w []) (hr:oW d=n):
    Calls u2 97 #[.agg (aj.cells d).toArray] w (dG λ v w'=>v=vI n/\Own w D w' []):=by
 unfold oW at hr
 refine cb Tryz.func97 ?_
 refine sr ?_
 refine bW (aj.cells d) 37 H ?_
 intro g o f
 refine An rfl (Gp (sr (Kz (vP g 0) (Lz (.string ⟨u3 d.aO⟩) f 0 v3 (Kz (vJ d.aO.length) (Kz (.bool (decide ((d.aO.length:Int) > 12))) (Mz rfl ?_)))))))
 by_cases b:(d.aO.length:Int) > 12
 refine Sz (dT b) (Sz (dT b) (Sz (dT b) (Sz (dT b) (fw (.bool true) (Gu rfl (dT b) rfl) (Mz rfl (Sz rfl (Sz rfl (Sz rfl (Sz rfl (GA rfl rfl rfl (GA rfl rfl rfl (GA rfl rfl rfl (GA rfl rfl rfl (GA rfl rfl rfl (Sz rfl (fw (.bool true) (Gu rfl rfl rfl) (nt (jt (sr (An rfl (rt (tR (rs ?_)))))))))))))))))))))))
 have i:=f.pk []
 obtain rfl:=zj hr zq1
 exact⟨rfl,i⟩
 refine Gz (vP g 1) (dF b) (Gl (.string ⟨u3 d.aS⟩) (dF b) f 0 v3 (Gz (vJ d.aS.length) (dF b) (Gz (.bool (decide ((d.aS.length:Int) > 12))) (dF b) (fw (.bool (decide ((d.aS.length:Int) > 12))) (Gm rfl (dF b) rfl) (Mz rfl ?_)))))
 by_cases a:(d.aS.length:Int) > 12
 refine Sz (dT a) (Sz (dT a) (Sz (dT a) (Sz (dT a) (GA rfl rfl rfl (GA rfl rfl rfl (GA rfl rfl rfl (GA rfl rfl rfl (GA rfl rfl rfl (Sz (dT a) (fw (.bool true) (Gu rfl (dT a) rfl) (nt (jt (sr (An rfl (rt (tR (rs ?_)))))))))))))))))
 have j:=f.pk []
 obtain rfl:=zj hr zq2
 exact⟨rfl,j⟩
 refine Gz (vP g 1) (dF a) (Gl (.string ⟨u3 d.aS⟩) (dF a) f 0 v3 (gw (.bool (decide (d.aS≠[]))) (dF a) (Hr rfl rfl) (gw (.bool (decide (d.aS≠[]))) (dF a) (Gv rfl) ?_)))
 by_cases c:d.aS≠[]
 refine Gz (vP g 0) (dT c) (Gl (.string ⟨u3 d.aO⟩) (dT c) f 0 v3 (Gz (vP g 1) (dT c) (Gl (.string ⟨u3 d.aS⟩) (dT c) f 0 v3 (gw (.bool (decide (d.aS<=d.aO))) (dT c) (GN (e:= !(Op.bytesLess d.aO d.aS)) (IK rfl rfl) (zC _ _)) (gw (.bool (decide (d.aS<=d.aO))) (dF a) (Gu rfl (dT c) rfl) (fw (.bool (decide (d.aS<=d.aO))) (Gm rfl (dF a) rfl) (nt ?_)))))))
 by_cases h:d.aS<=d.aO
 refine jT (dT h) (sr (An rfl (rt (tR (rs ?_)))))
 have k:=f.pk []
 obtain rfl:=zj hr zq4
 exact⟨rfl,k⟩
 refine jF (dF h) (sk (sr (An rfl (rt (rs ?_)))))
 have l:=f.pk []
 obtain rfl:=zj hr zq4
 exact⟨rfl,l⟩
 refine Sz (dF c) (Sz (dF c) (Sz (dF c) (Sz (dF c) (Sz (dF c) (gw (.bool false) (dF a) (Gm rfl (dF c) rfl) (fw (.bool false) (Gm rfl (dF a) rfl) (nt (jf (sk (sr (An rfl (rt (rs ?_)))))))))))))
 have m:=f.pk []
 obtain rfl:=zj hr zq3
 exact⟨rfl,m⟩
def ul (a:aY):Int:=
 if a.az=1 then if a.aO≠[] then 40 else if a.aS≠[] then 40 else if a.aN≠[] then 40 else if a.bO=0 then bnd (jl a.aX) λ d=>if d=0 then if(a.aN.length:Int) > 16 then 2 else 0 else 20 else 40 else if a.az=2 then if a.aO≠[] then 40 else if a.aS≠[] then 40 else if a.bO=0 then bnd (jl a.aX) λ e=>if e=0 then if(a.aN.length:Int) > 16 then 2 else 0 else 20 else 40 else if a.az=4 then if a.aX≠[] then 40 else if a.aN≠[] then 40 else if(a.aN.length:Int) > 16 then 2 else bnd (oW (aj.mk a.aO a.aS)) λ f=>if f=0 then if a.bO < 1 then 1 else if a.bO > 4 then 1 else 0 else 21 else if a.az=3 then if a.aO≠[] then 40 else if a.aS≠[] then 40 else if a.aN≠[] then 40 else if a.bO=0 then bnd (jl a.aX) λ b=>if b=0 then if(a.aN.length:Int) > 16 then 2 else 0 else 20 else 40 else if a.az=5 then if a.aX≠[] then 40 else if a.aN≠[] then 40 else if a.bO=0 then if(a.aN.length:Int) > 16 then 2 else bnd (oW (aj.mk a.aO a.aS)) λ c=>if c=0 then 0 else 21 else 40 else 40
theorem yO (w D) (a:aY) (r0) (H:Own w D w []) (hr:ul a=r0):
    Calls u2 55 #[.agg (aY.cells a).toArray] w (dG λ v w'=>v=vI r0/\Own w D w' []/\(¬ (r0=0)\/(1<=a.az/\a.az<=5))):=by
 unfold ul at hr
 refine cb Tryz.func55 ?_
 refine sr ?_
 refine bW (aY.cells a) 68 H ?_
 intro d dJ b
 refine Ar rfl (Kz (vP d 0) (Lz (vI a.az) b 0 v5 (Kz (.bool (decide (a.az=1))) (Mz rfl ?_))))
 by_cases g:a.az=1
 refine Sz (dT g) (Sz (dT g) (Sz (dT g) (fw (.bool true) (Gu rfl (dT g) rfl) (Mz rfl (Sz rfl (Sz rfl (Sz rfl (fw (.bool true) (Gu rfl rfl rfl) (Ar rfl (Kz (vP d 0) (Lz (vI a.az) b 0 v5 (Kz (.bool (decide (a.az=4))) (Mz rfl ?_)))))))))))))
 have z:(decide (a.az=4))=false:=(dF e8)
 refine Gz (vP d 0) z (Gl (vI a.az) z b 0 v5 (Gz (.bool (decide (a.az=5))) z (fw (.bool (decide (a.az=5))) (Gm rfl z rfl) (An rfl (Gp (sr (Mz rfl (Kz (.bool false) (Mz rfl (Sz rfl (Sz rfl (fw (.bool false) (Gm rfl rfl rfl) (Mz rfl (gw (.bool true) rfl (Gv rfl) (gw (.bool true) rfl (Gv rfl) (Gz (vP d 3) rfl (Gl (.string ⟨u3 a.aO⟩) rfl b 0 v3 (gw (.bool (decide (a.aO≠[]))) rfl (Hr rfl rfl) (gw (.bool (decide (a.aO≠[]))) rfl (Gv rfl) ?_)))))))))))))))))))
 by_cases B:a.aO≠[]
 refine Sz (dT B) (Sz (dT B) (Sz (dT B) (gw (.bool true) rfl (Gu rfl (dT B) rfl) (gw (.bool true) rfl (Gu rfl rfl rfl) (fw (.bool true) (Gm rfl rfl rfl) (Mz rfl (Sz rfl (Sz rfl (GA rfl rfl rfl (GA rfl rfl rfl (GA rfl rfl rfl (Sz rfl (fw (.bool true) (Gu rfl rfl rfl) (Mz rfl (Sz rfl (Sz rfl (Sz rfl (Sz rfl (GA rfl rfl rfl (GA rfl rfl rfl (GA rfl rfl rfl (Sz rfl (fw (.bool true) (Gu rfl rfl rfl) (Mz rfl (Sz rfl (Sz rfl (Sz rfl (Sz rfl (GA rfl rfl rfl (GA rfl rfl rfl (GA rfl rfl rfl (Sz rfl (fw (.bool true) (Gu rfl rfl rfl) (nt (jt (sr (Az rfl ?_)))))))))))))))))))))))))))))))))))))
 refine nt (rt (tR (rs ?_)))
 have bQ:=b.pk []
 obtain rfl:=zj hr zq2
 exact⟨rfl,bQ,e8⟩
 refine Gz (vP d 4) (dF B) (Gl (.string ⟨u3 a.aS⟩) (dF B) b 0 v3 (gw (.bool (decide (a.aS≠[]))) (dF B) (Hr rfl rfl) (gw (.bool (decide (a.aS≠[]))) rfl (Gm rfl (dF B) rfl) (gw (.bool (decide (a.aS≠[]))) rfl (Gu rfl rfl rfl) (fw (.bool (decide (a.aS≠[]))) (Gm rfl rfl rfl) (Mz rfl ?_))))))
 by_cases C:a.aS≠[]
 refine Sz (dT C) (Sz (dT C) (GA rfl rfl rfl (GA rfl rfl rfl (GA rfl rfl rfl (Sz (dT C) (fw (.bool true) (Gu rfl (dT C) rfl) (Mz rfl (Sz rfl (Sz rfl (Sz rfl (Sz rfl (GA rfl rfl rfl (GA rfl rfl rfl (GA rfl rfl rfl (Sz rfl (fw (.bool true) (Gu rfl rfl rfl) (Mz rfl (Sz rfl (Sz rfl (Sz rfl (Sz rfl (GA rfl rfl rfl (GA rfl rfl rfl (GA rfl rfl rfl (Sz rfl (fw (.bool true) (Gu rfl rfl rfl) (nt (jt (sr (An rfl (rt (tR (rs ?_)))))))))))))))))))))))))))))))))
 have bR:=b.pk []
 obtain rfl:=zj hr zq3
 exact⟨rfl,bR,e8⟩
 refine gw (.bool (decide (a.az=5))) (dF C) (Gv rfl) (gw (.bool (decide (a.az=5))) (dF C) (Gv rfl) ?_)
 have r:(decide (a.az=5))=false:=(dF e8)
 refine Sz r (Sz r (Sz r (gw (.bool false) (dF C) (Gm rfl r rfl) (fw (.bool false) (Gm rfl (dF C) rfl) (Mz rfl (Gz (vP d 0) rfl (Gl (vI a.az) rfl b 0 v5 (gw (.bool (decide (¬ (a.az=2)))) rfl (GN (e:= !(decide (a.az=2))) yk decide_not.symm) (gw (.bool (decide (¬ (a.az=2)))) rfl (Gv rfl) ?_)))))))))
 have Y:(decide (¬ (a.az=2)))=true:=(dT e8)
 refine Gz (vP d 2) Y (Gl (.string ⟨u3 a.aN⟩) Y b 0 v3 (Hm (v:= .bool (decide (a.aN≠[]))) rfl rfl Y rfl (Hr rfl rfl) (gw (.bool (decide (a.aN≠[]))) rfl (Gu rfl Y rfl) (fw (.bool (decide (a.aN≠[]))) (Gm rfl rfl rfl) (Mz rfl ?_)))))
 by_cases u:a.aN≠[]
 refine Sz (dT u) (Sz (dT u) (Sz (dT u) (Sz (dT u) (GA rfl rfl rfl (GA rfl rfl rfl (GA rfl rfl rfl (Sz (dT u) (fw (.bool true) (Gu rfl (dT u) rfl) (nt (jt (sr (An rfl (rt (tR (rs ?_)))))))))))))))
 have bS:=b.pk []
 obtain rfl:=zj hr zq4
 exact⟨rfl,bS,e8⟩
 refine Gz (vP d 0) (dF u) (Gl (vI a.az) (dF u) b 0 v5 (gw (.bool (decide (¬ (a.az=4)))) (dF u) (GN (e:= !(decide (a.az=4))) yk decide_not.symm) (gw (.bool (decide (¬ (a.az=4)))) (dF u) (Gv rfl) ?_)))
 have Z:(decide (¬ (a.az=4)))=true:=(dT e8)
 refine Gz (vP d 5) Z (Gl (vI a.bO) Z b 0 v5 (Hm (v:= .bool (decide (¬ (a.bO=0)))) rfl rfl Z rfl (GN (e:= !(decide (a.bO=0))) yk decide_not.symm) (gw (.bool (decide (¬ (a.bO=0)))) (dF u) (Gu rfl Z rfl) (fw (.bool (decide (¬ (a.bO=0)))) (Gm rfl (dF u) rfl) (nt ?_)))))
 by_cases ay:a.bO=0
 refine jF (dF (Ko ay)) (sk (Gp (sr (Mz rfl (Mz rfl (Gz (vP d 1) rfl (Gl (.string ⟨u3 a.aX⟩) rfl b 0 v3 ?_)))))))
 obtain⟨az,aa⟩:∃ q,jl a.aX=q:=⟨_,rfl⟩
 obtain⟨dK,aV,dw,aW,dx⟩:=Gr b
 refine nQ rfl K0 (lT _ _ a.aX az aV aa) ?_
 rintro _ dL ⟨rfl,aX,aN⟩
 have aC:=aW _ _ aX
 replace aN: ¬ (az=0)\/(1<=a.aX.length/\a.aX.length<=12):=aN
 refine gw (.bool (decide (¬ (az=0)))) rfl (GN (e:= !(decide (az=0))) yk decide_not.symm) (fw (.bool (decide (¬ (az=0)))) (Gu rfl rfl rfl) (nt ?_))
 by_cases aD:az=0
 refine jF (dF (Ko aD)) (sk (Gp (sr (Kz (vP d 2) (Lz (.string ⟨u3 a.aN⟩) aC 0 v3 (Kz (vJ a.aN.length) (Kz (.bool (decide ((a.aN.length:Int) > 16))) (nt ?_))))))))
 by_cases aL:(a.aN.length:Int) > 16
 refine jT (dT aL) (sr (An rfl (rt (tR (rs ?_)))))
 have bT:=aC.pk []
 obtain rfl:=zj hr zq8
 exact⟨rfl,bT,e8⟩
 refine jF (dF aL) (sk (Gp (sr (Mz rfl (Mz rfl (Sz r (Sz r (Sz r (Sz r (Sz r (Sz r (Sz r (fw (.bool false) (Gm rfl r rfl) (nt (jf (sk (Gp (sr (Kz (vP d 0) (Lz (vI a.az) aC 0 v5 (Kz (.bool (decide (a.az=4))) (Mz rfl (Sz z (Sz z (Sz z (Sz z (GA rfl rfl rfl (GA rfl rfl rfl (GA rfl rfl rfl (Sz z (fw (.bool false) (Gm rfl z rfl) (nt (jf ?_)))))))))))))))))))))))))))))))))
 refine sk (sr (An rfl (rt (rs ?_))))
 have bU:=aC.pk []
 obtain rfl:=zj hr zq8
 exact⟨rfl,bU,e8⟩
 refine jT (dT aD) (sr (An rfl (rt (tR (rs ?_)))))
 have bV:=aC.pk []
 obtain rfl:=zj hr zq7
 exact⟨rfl,bV,e8⟩
 refine jT (dT ay) (sr (An rfl (rt (tR (rs ?_)))))
 have bX:=b.pk []
 obtain rfl:=zj hr zq5
 exact⟨rfl,bX,e8⟩
 refine Gz (vP d 0) (dF g) (Gl (vI a.az) (dF g) b 0 v5 (Gz (.bool (decide (a.az=2))) (dF g) (fw (.bool (decide (a.az=2))) (Gm rfl (dF g) rfl) (Mz rfl ?_))))
 by_cases i:a.az=2
 refine Sz (dT i) (Sz (dT i) (Sz (dT i) (fw (.bool true) (Gu rfl (dT i) rfl) (Ar rfl (Kz (vP d 0) (Lz (vI a.az) b 0 v5 (Kz (.bool (decide (a.az=4))) (Mz rfl ?_))))))))
 have A:(decide (a.az=4))=false:=(dF e8)
 refine Gz (vP d 0) A (Gl (vI a.az) A b 0 v5 (Gz (.bool (decide (a.az=5))) A (fw (.bool (decide (a.az=5))) (Gm rfl A rfl) (An rfl (Gp (sr (Mz rfl (Kz (.bool false) (Mz rfl (Sz rfl (Sz rfl (fw (.bool false) (Gm rfl rfl rfl) (Mz rfl (gw (.bool true) rfl (Gv rfl) (gw (.bool true) rfl (Gv rfl) (Gz (vP d 3) rfl (Gl (.string ⟨u3 a.aO⟩) rfl b 0 v3 (gw (.bool (decide (a.aO≠[]))) rfl (Hr rfl rfl) (gw (.bool (decide (a.aO≠[]))) rfl (Gv rfl) ?_)))))))))))))))))))
 by_cases E:a.aO≠[]
 refine Sz (dT E) (Sz (dT E) (Sz (dT E) (gw (.bool true) rfl (Gu rfl (dT E) rfl) (gw (.bool true) rfl (Gu rfl rfl rfl) (fw (.bool true) (Gm rfl rfl rfl) (Mz rfl (Sz rfl (Sz rfl (GA rfl rfl rfl (GA rfl rfl rfl (GA rfl rfl rfl (Sz rfl (fw (.bool true) (Gu rfl rfl rfl) (Mz rfl (Sz rfl (Sz rfl (Sz rfl (Sz rfl (GA rfl rfl rfl (GA rfl rfl rfl (GA rfl rfl rfl (Sz rfl (fw (.bool true) (Gu rfl rfl rfl) (Mz rfl (Sz rfl (Sz rfl (Sz rfl (Sz rfl (GA rfl rfl rfl (GA rfl rfl rfl (GA rfl rfl rfl (Sz rfl (fw (.bool true) (Gu rfl rfl rfl) (nt (jt (sr (Az rfl ?_)))))))))))))))))))))))))))))))))))))
 refine nt (rt (tR (rs ?_)))
 have bY:=b.pk []
 obtain rfl:=zj hr zq3
 exact⟨rfl,bY,e8⟩
 refine Gz (vP d 4) (dF E) (Gl (.string ⟨u3 a.aS⟩) (dF E) b 0 v3 (gw (.bool (decide (a.aS≠[]))) (dF E) (Hr rfl rfl) (gw (.bool (decide (a.aS≠[]))) rfl (Gm rfl (dF E) rfl) (gw (.bool (decide (a.aS≠[]))) rfl (Gu rfl rfl rfl) (fw (.bool (decide (a.aS≠[]))) (Gm rfl rfl rfl) (Mz rfl ?_))))))
 by_cases F:a.aS≠[]
 refine Sz (dT F) (Sz (dT F) (GA rfl rfl rfl (GA rfl rfl rfl (GA rfl rfl rfl (Sz (dT F) (fw (.bool true) (Gu rfl (dT F) rfl) (Mz rfl (Sz rfl (Sz rfl (Sz rfl (Sz rfl (GA rfl rfl rfl (GA rfl rfl rfl (GA rfl rfl rfl (Sz rfl (fw (.bool true) (Gu rfl rfl rfl) (Mz rfl (Sz rfl (Sz rfl (Sz rfl (Sz rfl (GA rfl rfl rfl (GA rfl rfl rfl (GA rfl rfl rfl (Sz rfl (fw (.bool true) (Gu rfl rfl rfl) (nt (jt (sr (An rfl (rt (tR (rs ?_)))))))))))))))))))))))))))))))))
 have bZ:=b.pk []
 obtain rfl:=zj hr zq4
 exact⟨rfl,bZ,e8⟩
 refine gw (.bool (decide (a.az=5))) (dF F) (Gv rfl) (gw (.bool (decide (a.az=5))) (dF F) (Gv rfl) ?_)
 have s:(decide (a.az=5))=false:=(dF e8)
 refine Sz s (Sz s (Sz s (gw (.bool false) (dF F) (Gm rfl s rfl) (fw (.bool false) (Gm rfl (dF F) rfl) (Mz rfl (Gz (vP d 0) rfl (Gl (vI a.az) rfl b 0 v5 (gw (.bool (decide (¬ (a.az=2)))) rfl (GN (e:= !(decide (a.az=2))) yk decide_not.symm) (gw (.bool (decide (¬ (a.az=2)))) rfl (Gv rfl) ?_)))))))))
 have af:(decide (¬ (a.az=2)))=false:=(dF e8)
 refine Sz af (Sz af (Sz af (gw (.bool false) rfl (Gm rfl af rfl) (fw (.bool false) (Gm rfl rfl rfl) (Mz rfl (Gz (vP d 0) rfl (Gl (vI a.az) rfl b 0 v5 (gw (.bool (decide (¬ (a.az=4)))) rfl (GN (e:= !(decide (a.az=4))) yk decide_not.symm) (gw (.bool (decide (¬ (a.az=4)))) rfl (Gv rfl) ?_)))))))))
 have ag:(decide (¬ (a.az=4)))=true:=(dT e8)
 refine Gz (vP d 5) ag (Gl (vI a.bO) ag b 0 v5 (Hm (v:= .bool (decide (¬ (a.bO=0)))) rfl rfl ag rfl (GN (e:= !(decide (a.bO=0))) yk decide_not.symm) (gw (.bool (decide (¬ (a.bO=0)))) rfl (Gu rfl ag rfl) (fw (.bool (decide (¬ (a.bO=0)))) (Gm rfl rfl rfl) (nt ?_)))))
 by_cases aA:a.bO=0
 refine jF (dF (Ko aA)) (sk (Gp (sr (Mz rfl (Mz rfl (Gz (vP d 1) rfl (Gl (.string ⟨u3 a.aX⟩) rfl b 0 v3 ?_)))))))
 obtain⟨aB,ah⟩:∃ q,jl a.aX=q:=⟨_,rfl⟩
 obtain⟨dM,aZ,dz,bf,dA⟩:=Gr b
 refine nQ rfl K0 (lT _ _ a.aX aB aZ ah) ?_
 rintro _ dN ⟨rfl,bg,aO⟩
 have aF:=bf _ _ bg
 replace aO: ¬ (aB=0)\/(1<=a.aX.length/\a.aX.length<=12):=aO
 refine gw (.bool (decide (¬ (aB=0)))) rfl (GN (e:= !(decide (aB=0))) yk decide_not.symm) (fw (.bool (decide (¬ (aB=0)))) (Gu rfl rfl rfl) (nt ?_))
 by_cases aG:aB=0
 refine jF (dF (Ko aG)) (sk (Gp (sr (Kz (vP d 2) (Lz (.string ⟨u3 a.aN⟩) aF 0 v3 (Kz (vJ a.aN.length) (Kz (.bool (decide ((a.aN.length:Int) > 16))) (nt ?_))))))))
 by_cases aM:(a.aN.length:Int) > 16
 refine jT (dT aM) (sr (An rfl (rt (tR (rs ?_)))))
 have cu:=aF.pk []
 obtain rfl:=zj hr zq8
 exact⟨rfl,cu,e8⟩
 refine jF (dF aM) (sk (Gp (sr (Mz rfl (Mz rfl (Sz s (Sz s (Sz s (Sz s (Sz s (Sz s (Sz s (fw (.bool false) (Gm rfl s rfl) (nt (jf (sk (Gp (sr (Kz (vP d 0) (Lz (vI a.az) aF 0 v5 (Kz (.bool (decide (a.az=4))) (Mz rfl (Sz A (Sz A (Sz A (Sz A (GA rfl rfl rfl (GA rfl rfl rfl (GA rfl rfl rfl (Sz A (fw (.bool false) (Gm rfl A rfl) (nt (jf ?_)))))))))))))))))))))))))))))))))
 refine sk (sr (An rfl (rt (rs ?_))))
 have cz:=aF.pk []
 obtain rfl:=zj hr zq8
 exact⟨rfl,cz,e8⟩
 refine jT (dT aG) (sr (An rfl (rt (tR (rs ?_)))))
 have cB:=aF.pk []
 obtain rfl:=zj hr zq7
 exact⟨rfl,cB,e8⟩
 refine jT (dT aA) (sr (An rfl (rt (tR (rs ?_)))))
 have cK:=b.pk []
 obtain rfl:=zj hr zq5
 exact⟨rfl,cK,e8⟩
 refine Gz (vP d 0) (dF i) (Gl (vI a.az) (dF i) b 0 v5 (Gz (.bool (decide (a.az=3))) (dF i) (fw (.bool (decide (a.az=3))) (Gm rfl (dF i) rfl) (Ar rfl (Kz (vP d 0) (Lz (vI a.az) b 0 v5 (Kz (.bool (decide (a.az=4))) (Mz rfl ?_))))))))
 by_cases f:a.az=4
 refine Sz (dT f) (Sz (dT f) (Sz (dT f) (fw (.bool true) (Gu rfl (dT f) rfl) (An rfl (Gp (sr (Mz rfl (fw (.bool (decide (¬ (a.az=3)))) (GN (e:= !(decide (a.az=3))) yk decide_not.symm) (Mz rfl ?_)))))))))
 have aH:(decide (¬ (a.az=3)))=true:=(dT e8)
 refine Hm (v:= .bool true) rfl rfl aH rfl (Gv rfl) (Gz (.bool false) aH (fw (.bool false) (Gu rfl aH rfl) (Mz rfl (gw (.bool (decide (a.az=3))) rfl (Gv rfl) (gw (.bool (decide (a.az=3))) rfl (Gv rfl) ?_)))))
 have x:(decide (a.az=3))=false:=(dF e8)
 refine Sz x (Sz x (Sz x (Sz x (GA rfl rfl rfl (GA rfl rfl rfl (GA rfl rfl rfl (Sz x (gw (.bool false) rfl (Gm rfl x rfl) (fw (.bool false) (Gm rfl rfl rfl) (Mz rfl (gw (.bool true) rfl (Gv rfl) (gw (.bool true) rfl (Gv rfl) (Gz (vP d 1) rfl (Gl (.string ⟨u3 a.aX⟩) rfl b 0 v3 (gw (.bool (decide (a.aX≠[]))) rfl (Hr rfl rfl) (gw (.bool (decide (a.aX≠[]))) rfl (Gu rfl rfl rfl) (fw (.bool (decide (a.aX≠[]))) (Gm rfl rfl rfl) (Mz rfl ?_))))))))))))))))))
 by_cases p:a.aX≠[]
 refine Sz (dT p) (Sz (dT p) (Sz (dT p) (Sz (dT p) (GA rfl rfl rfl (GA rfl rfl rfl (GA rfl rfl rfl (Sz (dT p) (fw (.bool true) (Gu rfl (dT p) rfl) (Mz rfl (Sz rfl (Sz rfl (Sz rfl (Sz rfl (GA rfl rfl rfl (GA rfl rfl rfl (GA rfl rfl rfl (Sz rfl (fw (.bool true) (Gu rfl rfl rfl) (nt (jt (sr (An rfl (rt (tR (rs ?_)))))))))))))))))))))))))
 have cO:=b.pk []
 obtain rfl:=zj hr zq4
 exact⟨rfl,cO,e8⟩
 refine Gz (vP d 0) (dF p) (Gl (vI a.az) (dF p) b 0 v5 (gw (.bool (decide (¬ (a.az=2)))) (dF p) (GN (e:= !(decide (a.az=2))) yk decide_not.symm) (gw (.bool (decide (¬ (a.az=2)))) (dF p) (Gv rfl) ?_)))
 have ai:(decide (¬ (a.az=2)))=true:=(dT e8)
 refine Gz (vP d 2) ai (Gl (.string ⟨u3 a.aN⟩) ai b 0 v3 (Hm (v:= .bool (decide (a.aN≠[]))) rfl rfl ai rfl (Hr rfl rfl) (gw (.bool (decide (a.aN≠[]))) (dF p) (Gu rfl ai rfl) (fw (.bool (decide (a.aN≠[]))) (Gm rfl (dF p) rfl) (Mz rfl ?_)))))
 by_cases t:a.aN≠[]
 refine Sz (dT t) (Sz (dT t) (Sz (dT t) (Sz (dT t) (GA rfl rfl rfl (GA rfl rfl rfl (GA rfl rfl rfl (Sz (dT t) (fw (.bool true) (Gu rfl (dT t) rfl) (nt (jt (sr (An rfl (rt (tR (rs ?_)))))))))))))))
 have cZ:=b.pk []
 obtain rfl:=zj hr zq5
 exact⟨rfl,cZ,e8⟩
 refine Gz (vP d 0) (dF t) (Gl (vI a.az) (dF t) b 0 v5 (gw (.bool (decide (¬ (a.az=4)))) (dF t) (GN (e:= !(decide (a.az=4))) yk decide_not.symm) (gw (.bool (decide (¬ (a.az=4)))) (dF t) (Gv rfl) ?_)))
 have ak:(decide (¬ (a.az=4)))=false:=(dF e8)
 refine Sz ak (Sz ak (Sz ak (gw (.bool false) (dF t) (Gm rfl ak rfl) (fw (.bool false) (Gm rfl (dF t) rfl) (nt (jf (sk (Gp (sr (Mz rfl (Mz rfl (Sz x (Sz x (Sz x (Sz x (fw (.bool false) (Gm rfl x rfl) (nt (jf (sk (Gp (sr (Kz (vP d 2) (Lz (.string ⟨u3 a.aN⟩) b 0 v3 (Kz (vJ a.aN.length) (Kz (.bool (decide ((a.aN.length:Int) > 16))) (nt ?_))))))))))))))))))))))))))
 by_cases W:(a.aN.length:Int) > 16
 refine jT (dT W) (sr (An rfl (rt (tR (rs ?_)))))
 have df:=b.pk []
 obtain rfl:=zj hr zq6
 exact⟨rfl,df,e8⟩
 refine jF (dF W) (sk (Gp (sr (Mz rfl (Mz rfl (Gz (vP d 3) rfl (Gl (.string ⟨u3 a.aO⟩) rfl b 0 v3 (Gz (vP d 4) rfl (Gl (.string ⟨u3 a.aS⟩) rfl b 0 v3 (Gz (.agg #[.string ⟨u3 a.aO⟩, .string ⟨u3 a.aS⟩]) rfl ?_))))))))))
 obtain⟨aI,R⟩:∃ q,oW (aj.mk a.aO a.aS)=q:=⟨_,rfl⟩
 obtain⟨dO,bi,dB,bn,dC⟩:=Gr b
 refine nQ rfl K1 (tu _ _ (aj.mk a.aO a.aS) aI bi R) ?_
 rintro _ dP ⟨rfl,bq⟩
 have G:=bn _ _ bq
 refine gw (.bool (decide (¬ (aI=0)))) rfl (GN (e:= !(decide (aI=0))) yk decide_not.symm) (fw (.bool (decide (¬ (aI=0)))) (Gu rfl rfl rfl) (nt ?_))
 by_cases I:aI=0
 refine jF (dF (Ko I)) (sk (Gp (sr (Kz (vP d 0) (Lz (vI a.az) G 0 v5 (Kz (.bool (decide (a.az=4))) (Mz rfl (Gz (vP d 5) (dT f) (Gl (vI a.bO) (dT f) G 0 v5 (Gz (.bool (decide (a.bO < 1))) (dT f) (gw (.bool (decide (a.bO < 1))) (dT f) (Gv rfl) ?_)))))))))))
 by_cases y:a.bO < 1
 refine Sz (dT y) (Sz (dT y) (Sz (dT y) (gw (.bool true) (dT f) (Gu rfl (dT y) rfl) (fw (.bool true) (Gu rfl (dT f) rfl) (nt (jt (sr (An rfl (rt (tR (rs ?_)))))))))))
 have bu:=G.pk []
 obtain rfl:=zj hr zq9
 exact⟨rfl,bu,e8⟩
 refine Gz (vP d 5) (dF y) (Gl (vI a.bO) (dF y) G 0 v5 (Gz (.bool (decide (a.bO > 4))) (dF y) (gw (.bool (decide (a.bO > 4))) (dT f) (Gm rfl (dF y) rfl) (fw (.bool (decide (a.bO > 4))) (Gu rfl (dT f) rfl) (nt ?_)))))
 by_cases au:a.bO > 4
 refine jT (dT au) (sr (An rfl (rt (tR (rs ?_)))))
 have bv:=G.pk []
 obtain rfl:=zj hr zq10
 exact⟨rfl,bv,e8⟩
 refine jF (dF au) (sk (sr (An rfl (rt (rs ?_)))))
 have bz:=G.pk []
 obtain rfl:=zj hr zq10
 exact⟨rfl,bz,e8⟩
 refine jT (dT I) (sr (An rfl (rt (tR (rs ?_)))))
 have bA:=G.pk []
 obtain rfl:=zj hr zq8
 exact⟨rfl,bA,e8⟩
 refine Gz (vP d 0) (dF f) (Gl (vI a.az) (dF f) b 0 v5 (Gz (.bool (decide (a.az=5))) (dF f) (fw (.bool (decide (a.az=5))) (Gm rfl (dF f) rfl) (An rfl (Gp (sr (Mz rfl (fw (.bool (decide (¬ (a.az=3)))) (GN (e:= !(decide (a.az=3))) yk decide_not.symm) (Mz rfl ?_)))))))))
 by_cases c:a.az=3
 refine Sk rfl rfl (dF (Ko c)) rfl (Sk rfl rfl (dF (Ko c)) rfl (fw (.bool false) (Gm rfl (dF (Ko c)) rfl) (Mz rfl (gw (.bool (decide (a.az=3))) rfl (Gv rfl) (gw (.bool (decide (a.az=3))) rfl (Gv rfl) (Gz (vP d 3) (dT c) (Gl (.string ⟨u3 a.aO⟩) (dT c) b 0 v3 (gw (.bool (decide (a.aO≠[]))) (dT c) (Hr rfl rfl) (gw (.bool (decide (a.aO≠[]))) (dT c) (Gv rfl) ?_)))))))))
 by_cases n:a.aO≠[]
 refine Sz (dT n) (Sz (dT n) (Sz (dT n) (gw (.bool true) (dT c) (Gu rfl (dT n) rfl) (gw (.bool true) rfl (Gu rfl (dT c) rfl) (fw (.bool true) (Gm rfl rfl rfl) (Mz rfl (Sz rfl (Sz rfl (GA rfl rfl rfl (GA rfl rfl rfl (GA rfl rfl rfl (Sz rfl (fw (.bool true) (Gu rfl rfl rfl) (Mz rfl (Sz rfl (Sz rfl (Sz rfl (Sz rfl (GA rfl rfl rfl (GA rfl rfl rfl (GA rfl rfl rfl (Sz rfl (fw (.bool true) (Gu rfl rfl rfl) (Mz rfl (Sz rfl (Sz rfl (Sz rfl (Sz rfl (GA rfl rfl rfl (GA rfl rfl rfl (GA rfl rfl rfl (Sz rfl (fw (.bool true) (Gu rfl rfl rfl) (nt (jt (sr (Az rfl ?_)))))))))))))))))))))))))))))))))))))
 refine nt (rt (tR (rs ?_)))
 have bB:=b.pk []
 obtain rfl:=zj hr zq5
 exact⟨rfl,bB,e8⟩
 refine Gz (vP d 4) (dF n) (Gl (.string ⟨u3 a.aS⟩) (dF n) b 0 v3 (gw (.bool (decide (a.aS≠[]))) (dF n) (Hr rfl rfl) (gw (.bool (decide (a.aS≠[]))) (dT c) (Gm rfl (dF n) rfl) (gw (.bool (decide (a.aS≠[]))) rfl (Gu rfl (dT c) rfl) (fw (.bool (decide (a.aS≠[]))) (Gm rfl rfl rfl) (Mz rfl ?_))))))
 by_cases o:a.aS≠[]
 refine Sz (dT o) (Sz (dT o) (GA rfl rfl rfl (GA rfl rfl rfl (GA rfl rfl rfl (Sz (dT o) (fw (.bool true) (Gu rfl (dT o) rfl) (Mz rfl (Sz rfl (Sz rfl (Sz rfl (Sz rfl (GA rfl rfl rfl (GA rfl rfl rfl (GA rfl rfl rfl (Sz rfl (fw (.bool true) (Gu rfl rfl rfl) (Mz rfl (Sz rfl (Sz rfl (Sz rfl (Sz rfl (GA rfl rfl rfl (GA rfl rfl rfl (GA rfl rfl rfl (Sz rfl (fw (.bool true) (Gu rfl rfl rfl) (nt (jt (sr (An rfl (rt (tR (rs ?_)))))))))))))))))))))))))))))))))
 have bC:=b.pk []
 obtain rfl:=zj hr zq6
 exact⟨rfl,bC,e8⟩
 refine gw (.bool (decide (a.az=5))) (dF o) (Gv rfl) (gw (.bool (decide (a.az=5))) (dF o) (Gv rfl) ?_)
 have m:(decide (a.az=5))=false:=(dF e8)
 refine Sz m (Sz m (Sz m (gw (.bool false) (dF o) (Gm rfl m rfl) (fw (.bool false) (Gm rfl (dF o) rfl) (Mz rfl (Gz (vP d 0) rfl (Gl (vI a.az) rfl b 0 v5 (gw (.bool (decide (¬ (a.az=2)))) rfl (GN (e:= !(decide (a.az=2))) yk decide_not.symm) (gw (.bool (decide (¬ (a.az=2)))) rfl (Gv rfl) ?_)))))))))
 have M:(decide (¬ (a.az=2)))=true:=(dT e8)
 refine Gz (vP d 2) M (Gl (.string ⟨u3 a.aN⟩) M b 0 v3 (Hm (v:= .bool (decide (a.aN≠[]))) rfl rfl M rfl (Hr rfl rfl) (gw (.bool (decide (a.aN≠[]))) rfl (Gu rfl M rfl) (fw (.bool (decide (a.aN≠[]))) (Gm rfl rfl rfl) (Mz rfl ?_)))))
 by_cases k:a.aN≠[]
 refine Sz (dT k) (Sz (dT k) (Sz (dT k) (Sz (dT k) (GA rfl rfl rfl (GA rfl rfl rfl (GA rfl rfl rfl (Sz (dT k) (fw (.bool true) (Gu rfl (dT k) rfl) (nt (jt (sr (An rfl (rt (tR (rs ?_)))))))))))))))
 have bD:=b.pk []
 obtain rfl:=zj hr zq7
 exact⟨rfl,bD,e8⟩
 refine Gz (vP d 0) (dF k) (Gl (vI a.az) (dF k) b 0 v5 (gw (.bool (decide (¬ (a.az=4)))) (dF k) (GN (e:= !(decide (a.az=4))) yk decide_not.symm) (gw (.bool (decide (¬ (a.az=4)))) (dF k) (Gv rfl) ?_)))
 have N:(decide (¬ (a.az=4)))=true:=(dT e8)
 refine Gz (vP d 5) N (Gl (vI a.bO) N b 0 v5 (Hm (v:= .bool (decide (¬ (a.bO=0)))) rfl rfl N rfl (GN (e:= !(decide (a.bO=0))) yk decide_not.symm) (gw (.bool (decide (¬ (a.bO=0)))) (dF k) (Gu rfl N rfl) (fw (.bool (decide (¬ (a.bO=0)))) (Gm rfl (dF k) rfl) (nt ?_)))))
 by_cases J:a.bO=0
 refine jF (dF (Ko J)) (sk (Gp (sr (Mz rfl (Mz rfl (Gz (vP d 1) (dT c) (Gl (.string ⟨u3 a.aX⟩) (dT c) b 0 v3 ?_)))))))
 obtain⟨K,O⟩:∃ q,jl a.aX=q:=⟨_,rfl⟩
 obtain⟨dD,aP,dh,aQ,di⟩:=Gr b
 refine nQ (dT c) K0 (lT _ _ a.aX K aP O) ?_
 rintro _ dE ⟨rfl,aR,aJ⟩
 have S:=aQ _ _ aR
 replace aJ: ¬ (K=0)\/(1<=a.aX.length/\a.aX.length<=12):=aJ
 refine gw (.bool (decide (¬ (K=0)))) (dT c) (GN (e:= !(decide (K=0))) yk decide_not.symm) (fw (.bool (decide (¬ (K=0)))) (Gu rfl (dT c) rfl) (nt ?_))
 by_cases T:K=0
 refine jF (dF (Ko T)) (sk (Gp (sr (Kz (vP d 2) (Lz (.string ⟨u3 a.aN⟩) S 0 v3 (Kz (vJ a.aN.length) (Kz (.bool (decide ((a.aN.length:Int) > 16))) (nt ?_))))))))
 by_cases av:(a.aN.length:Int) > 16
 refine jT (dT av) (sr (An rfl (rt (tR (rs ?_)))))
 have bE:=S.pk []
 obtain rfl:=zj hr zq11
 exact⟨rfl,bE,e8⟩
 refine jF (dF av) (sk (Gp (sr (Mz rfl (Mz rfl (Sz m (Sz m (Sz m (Sz m (Sz m (Sz m (Sz m (fw (.bool false) (Gm rfl m rfl) (nt (jf (sk (Gp (sr (Kz (vP d 0) (Lz (vI a.az) S 0 v5 (Kz (.bool (decide (a.az=4))) (Mz rfl (Sz (dF f) (Sz (dF f) (Sz (dF f) (Sz (dF f) (GA rfl rfl rfl (GA rfl rfl rfl (GA rfl rfl rfl (Sz (dF f) (fw (.bool false) (Gm rfl (dF f) rfl) (nt (jf ?_)))))))))))))))))))))))))))))))))
 refine sk (sr (An rfl (rt (rs ?_))))
 have bF:=S.pk []
 obtain rfl:=zj hr zq11
 exact⟨rfl,bF,e8⟩
 refine jT (dT T) (sr (An rfl (rt (tR (rs ?_)))))
 have bG:=S.pk []
 obtain rfl:=zj hr zq10
 exact⟨rfl,bG,e8⟩
 refine jT (dT J) (sr (An rfl (rt (tR (rs ?_)))))
 have bH:=b.pk []
 obtain rfl:=zj hr zq8
 exact⟨rfl,bH,e8⟩
 refine gw (.bool (decide (a.az=5))) (dT c) (Gv rfl) (gw (.bool (decide (¬ (a.az=5)))) (dT c) (GN (e:= !(decide (a.az=5))) yk decide_not.symm) (fw (.bool (decide (¬ (a.az=5)))) (Gu rfl (dT c) rfl) (Mz rfl ?_)))
 by_cases h:a.az=5
 refine gw (.bool (decide (a.az=3))) (dF (Ko h)) (Gv rfl) (gw (.bool (decide (a.az=3))) (dF (Ko h)) (Gv rfl) (Sz (dF c) (Sz (dF c) (Sz (dF c) (Sz (dF c) (GA rfl rfl rfl (GA rfl rfl rfl (GA rfl rfl rfl (Sz (dF c) (gw (.bool false) (dF (Ko h)) (Gm rfl (dF c) rfl) (fw (.bool false) (Gm rfl (dF (Ko h)) rfl) (Mz rfl (gw (.bool (decide (a.az=5))) rfl (Gv rfl) (gw (.bool (decide (a.az=5))) rfl (Gv rfl) (Gz (vP d 1) (dT h) (Gl (.string ⟨u3 a.aX⟩) (dT h) b 0 v3 (gw (.bool (decide (a.aX≠[]))) (dT h) (Hr rfl rfl) (gw (.bool (decide (a.aX≠[]))) rfl (Gu rfl (dT h) rfl) (fw (.bool (decide (a.aX≠[]))) (Gm rfl rfl rfl) (Mz rfl ?_))))))))))))))))))))
 by_cases j:a.aX≠[]
 refine Sz (dT j) (Sz (dT j) (Sz (dT j) (Sz (dT j) (GA rfl rfl rfl (GA rfl rfl rfl (GA rfl rfl rfl (Sz (dT j) (fw (.bool true) (Gu rfl (dT j) rfl) (Mz rfl (Sz rfl (Sz rfl (Sz rfl (Sz rfl (GA rfl rfl rfl (GA rfl rfl rfl (GA rfl rfl rfl (Sz rfl (fw (.bool true) (Gu rfl rfl rfl) (nt (jt (sr (An rfl (rt (tR (rs ?_)))))))))))))))))))))))))
 have bI:=b.pk []
 obtain rfl:=zj hr zq6
 exact⟨rfl,bI,e8⟩
 refine Gz (vP d 0) (dF j) (Gl (vI a.az) (dF j) b 0 v5 (gw (.bool (decide (¬ (a.az=2)))) (dF j) (GN (e:= !(decide (a.az=2))) yk decide_not.symm) (gw (.bool (decide (¬ (a.az=2)))) (dF j) (Gv rfl) ?_)))
 have P:(decide (¬ (a.az=2)))=true:=(dT e8)
 refine Gz (vP d 2) P (Gl (.string ⟨u3 a.aN⟩) P b 0 v3 (Hm (v:= .bool (decide (a.aN≠[]))) rfl rfl P rfl (Hr rfl rfl) (gw (.bool (decide (a.aN≠[]))) (dF j) (Gu rfl P rfl) (fw (.bool (decide (a.aN≠[]))) (Gm rfl (dF j) rfl) (Mz rfl ?_)))))
 by_cases l:a.aN≠[]
 refine Sz (dT l) (Sz (dT l) (Sz (dT l) (Sz (dT l) (GA rfl rfl rfl (GA rfl rfl rfl (GA rfl rfl rfl (Sz (dT l) (fw (.bool true) (Gu rfl (dT l) rfl) (nt (jt (sr (An rfl (rt (tR (rs ?_)))))))))))))))
 have bJ:=b.pk []
 obtain rfl:=zj hr zq7
 exact⟨rfl,bJ,e8⟩
 refine Gz (vP d 0) (dF l) (Gl (vI a.az) (dF l) b 0 v5 (gw (.bool (decide (¬ (a.az=4)))) (dF l) (GN (e:= !(decide (a.az=4))) yk decide_not.symm) (gw (.bool (decide (¬ (a.az=4)))) (dF l) (Gv rfl) ?_)))
 have Q:(decide (¬ (a.az=4)))=true:=(dT e8)
 refine Gz (vP d 5) Q (Gl (vI a.bO) Q b 0 v5 (Hm (v:= .bool (decide (¬ (a.bO=0)))) rfl rfl Q rfl (GN (e:= !(decide (a.bO=0))) yk decide_not.symm) (gw (.bool (decide (¬ (a.bO=0)))) (dF l) (Gu rfl Q rfl) (fw (.bool (decide (¬ (a.bO=0)))) (Gm rfl (dF l) rfl) (nt ?_)))))
 by_cases L:a.bO=0
 refine jF (dF (Ko L)) (sk (Gp (sr (Mz rfl (Mz rfl (Sz (dF c) (Sz (dF c) (Sz (dF c) (Sz (dF c) (fw (.bool false) (Gm rfl (dF c) rfl) (nt (jf (sk (Gp (sr (Kz (vP d 2) (Lz (.string ⟨u3 a.aN⟩) b 0 v3 (Kz (vJ a.aN.length) (Kz (.bool (decide ((a.aN.length:Int) > 16))) (nt ?_))))))))))))))))))))
 by_cases U:(a.aN.length:Int) > 16
 refine jT (dT U) (sr (An rfl (rt (tR (rs ?_)))))
 have bK:=b.pk []
 obtain rfl:=zj hr zq9
 exact⟨rfl,bK,e8⟩
 refine jF (dF U) (sk (Gp (sr (Mz rfl (Mz rfl (Gz (vP d 3) (dT h) (Gl (.string ⟨u3 a.aO⟩) (dT h) b 0 v3 (Gz (vP d 4) (dT h) (Gl (.string ⟨u3 a.aS⟩) (dT h) b 0 v3 (Gz (.agg #[.string ⟨u3 a.aO⟩, .string ⟨u3 a.aS⟩]) (dT h) ?_))))))))))
 obtain⟨V,X⟩:∃ q,oW (aj.mk a.aO a.aS)=q:=⟨_,rfl⟩
 obtain⟨dH,aS,dm,aT,dn⟩:=Gr b
 refine nQ (dT h) K1 (tu _ _ (aj.mk a.aO a.aS) V aS X) ?_
 rintro _ dI ⟨rfl,aU⟩
 have aK:=aT _ _ aU
 refine gw (.bool (decide (¬ (V=0)))) (dT h) (GN (e:= !(decide (V=0))) yk decide_not.symm) (fw (.bool (decide (¬ (V=0)))) (Gu rfl (dT h) rfl) (nt ?_))
 by_cases ax:V=0
 refine jF (dF (Ko ax)) (sk (Gp (sr (Kz (vP d 0) (Lz (vI a.az) aK 0 v5 (Kz (.bool (decide (a.az=4))) (Mz rfl (Sz (dF f) (Sz (dF f) (Sz (dF f) (Sz (dF f) (GA rfl rfl rfl (GA rfl rfl rfl (GA rfl rfl rfl (Sz (dF f) (fw (.bool false) (Gm rfl (dF f) rfl) (nt (jf (sk (sr (An rfl (rt (rs ?_)))))))))))))))))))))))
 have bL:=aK.pk []
 obtain rfl:=zj hr zq11
 exact⟨rfl,bL,e8⟩
 refine jT (dT ax) (sr (An rfl (rt (tR (rs ?_)))))
 have bM:=aK.pk []
 obtain rfl:=zj hr zq11
 exact⟨rfl,bM,e8⟩
 refine jT (dT L) (sr (An rfl (rt (tR (rs ?_)))))
 have bN:=b.pk []
 obtain rfl:=zj hr zq8
 exact⟨rfl,bN,e8⟩
 refine Sz (dT h) (Sz (dT h) (GA rfl rfl rfl (GA rfl rfl rfl (GA rfl rfl rfl (GA rfl rfl rfl (GA rfl rfl rfl (GA rfl rfl rfl (GA rfl rfl rfl (GA rfl rfl rfl (Sz (dT h) (fw (.bool true) (Gu rfl (dT h) rfl) (Mz rfl (Sz rfl (Sz rfl (GA rfl rfl rfl (GA rfl rfl rfl (GA rfl rfl rfl (Sz rfl (fw (.bool true) (Gu rfl rfl rfl) (Mz rfl (Sz rfl (Sz rfl (Sz rfl (Sz rfl (GA rfl rfl rfl (GA rfl rfl rfl (GA rfl rfl rfl (Sz rfl (fw (.bool true) (Gu rfl rfl rfl) (Mz rfl (Sz rfl (Sz rfl (Sz rfl (Sz rfl (GA rfl rfl rfl (GA rfl rfl rfl (GA rfl rfl rfl (Sz rfl (fw (.bool true) (Gu rfl rfl rfl) ?_)))))))))))))))))))))))))))))))))))))))
 refine nt (jt (sr (An rfl (rt (tR (rs ?_))))))
 have bO:=b.pk []
 obtain rfl:=zj hr zq5
 exact⟨rfl,bO,e8⟩
def mY:List aY->Unit ⊕ Int
  | []=>v0 ()
  | b::c=>bnd (ul b) λ a=>if a=0 then mY c else v2 (a)
def yP (a:List aY):Int:=
 lp (mY a) λ _=>0
theorem BX (w D p B C b M) (H:Own w D w []) (o:Ro w D λ w'=>bM w' 6 p B (q0 aY.cells b)) (E:B=b.length) (Q:b.length<=9223372036854775807) (hr:yP b=M):
    Calls u2 24 #[.slice p B C] w (dG λ v w'=>v=vI M/\Own w D w' []):=by
 subst E
 refine cb Tryz.func24 ?_
 refine sr (An rfl (Gp (sr (Mz rfl (Kz (vJ b.length) (Mn rfl (bo ?_)))))))
 have F:=H.pk []
 obtain⟨G,f⟩:=mP λ (a:Nat) w'=>Own w D w' []/\a<=b.length/\mY b=mY (r7 a b)
 refine v4 (λ i:Nat=> [(2,vI 0),(8,vJ i),(7,vJ b.length),(6, .slice p b.length C)]) G (λ i=>b.length - i) 0 ⟨rfl,rfl,rfl,rfl,trivial⟩ (f.2 ⟨F,e8,rfl⟩) ?_
 rintro a R r
 show Wp _ _ _ [(2,vI 0),(8,vJ a),(7,vJ b.length),(6, .slice p b.length C)] _ _
 obtain⟨g,N,h⟩:=f.1 r
 refine sr (Kz (.bool (decide ((a:Int) < (b.length:Int)))) (nt (Gp ?_)))
 by_cases s:(a:Int) < (b.length:Int)
 obtain⟨c,l⟩:=dI (ls:=b) (i:=a) aY.len f5 (g.ro o) f2
 have m:=drop_at l
 refine jT (dT s) (sk (Gp (bo (sr (fw (.pointer (some ⟨ab p,ao p+a *6,none⟩)) (GI (nD) rfl rfl ((g.ro o).addr (i:=a) e8) e8) (fw (.agg (aY.cells c).toArray) (GH rfl (GJ (cs:=(aY.cells c)) Tryz.isAgg68 y6 ((g.ro o).elem aY.len l f5))) ?_))))))
 refine bW [vI 0, .string ⟨u3 []⟩, .string ⟨u3 []⟩, .string ⟨u3 []⟩, .string ⟨u3 []⟩,vI 0] 68 g ?_
 intro S T I
 refine bY (aY.cells c) 0 I y6 ?_
 intro U t
 refine ns (La (aY.cells c) t 0 Tryz.isAgg68 y6 ?_)
 obtain⟨d,j⟩:∃ q,ul c=q:=⟨_,rfl⟩
 obtain⟨V,u,O,x,P⟩:=Gr t
 refine cl Tryz.call55 (yO _ _ c d u j) ?_
 rintro _ W ⟨rfl,y,n⟩
 have z:=x _ _ y
 replace n: ¬ (d=0)\/(1<=c.az/\c.az<=5):=n
 refine Ar rfl (Mz rfl (fw (.bool (decide (¬ (d=0)))) (GN (e:= !(decide (d=0))) yk decide_not.symm) (nt ?_)))
 by_cases k:d=0
 refine jF (dF (Ko k)) (G7 (bN (Gs (Gq (fw (vJ (a+1)) (Gw (e:=v7.wrap ((a:Int)+1)) yk f1) (Mz rfl (v8 ?_)))))))
 have J:=z.pk []
 exact GL (a+1) ⟨rfl,rfl,rfl,rfl,trivial⟩ (f.2 ⟨J,e8,et (h) (et (congrArg (λ q=>mY q) m) (et (ae j) (ip k)))⟩) (by show b.length - (a+1) < b.length - a; omega)
 refine jT (dT k) (sr (Mz rfl (An rfl (rt (bR (tR (tR (bR (tR (rs ?_))))))))))
 have K:=z.pk []
 obtain rfl:_=d:=zj hr (iG (et (h) (et (congrArg (λ q=>mY q) m) (et (ae j) (iN k)))))
 exact⟨rfl,K⟩
 refine jF (dF s) (v9 (GK ?_))
 have A:mY b=v0 ():=et (h) (et (congrArg (λ q=>mY q) (eP (ls:=b) (i:=a) e8)) rfl)
 refine GK (GR (Gs (sr (An rfl (rt (rs ?_))))))
 have L:=g.pk []
 obtain rfl:_=0:=zj hr (kZ A)
 exact⟨rfl,L⟩
def iL (f:List aA):List aA->Nat->Unit ⊕ Int
  | [],a=>v0 ()
  | b::c,a=>bnd (jl b.aX) λ d=>if d=0 then if(b.aN.length:Int) > 16 then v2 (2) else if(a:Int) > 0 then bnd (v1 f (a - 1) default) λ e=>if b.aX<=e.aX then v2 (1) else iL f c (a+1) else iL f c (a+1) else v2 (20)
def tC (a:List aA):Int:=
 lp (iL a a 0) λ _=>0
theorem yh (w D m N C c Y) (H:Own w D w []) (o:Ro w D λ w'=>bM w' 2 m N (q0 aA.cells c)) (O:N=c.length) (ag:c.length *32<=211106232532992) (hr:tC c=Y):
    Calls u2 14 #[.slice m N C] w (dG λ v w'=>v=vI Y/\Own w D w' []):=by
 subst O
 refine cb Tryz.func14 ?_
 refine sr (An rfl (Gp (sr (Mz rfl (Kz (vJ c.length) (Mn rfl (bo ?_)))))))
 have P:=H.pk []
 obtain⟨Q,l⟩:=mP λ (a:Nat) w'=>Own w D w' []/\a<=c.length/\iL c c 0=iL c (r7 a c) a
 refine v4 (λ i:Nat=> [(2,vI 0),(7,vJ i),(6,vJ c.length),(5, .slice m c.length C),(0, .slice m c.length C)]) Q (λ i=>c.length - i) 0 ⟨rfl,rfl,rfl,rfl,rfl,trivial⟩ (l.2 ⟨P,e8,rfl⟩) ?_
 rintro a ah E
 show Wp _ _ _ [(2,vI 0),(7,vJ a),(6,vJ c.length),(5, .slice m c.length C),(0, .slice m c.length C)] _ _
 obtain⟨p,Z,f⟩:=l.1 E
 refine sr (Kz (.bool (decide ((a:Int) < (c.length:Int)))) (nt (Gp ?_)))
 by_cases F:(a:Int) < (c.length:Int)
 obtain⟨d,y⟩:=dI (ls:=c) (i:=a) aA.len f5 (p.ro o) f2
 have h:=drop_at y
 refine jT (dT F) (sk (Gp (bo (sr (Mz rfl (fw (.pointer (some ⟨ab m,ao m+a *2,none⟩)) (GI (iK) rfl rfl ((p.ro o).addr (i:=a) e8) e8) (fw (.agg (aA.cells d).toArray) (GH rfl (GJ (cs:=(aA.cells d)) K2 H3 ((p.ro o).elem aA.len y f5))) ?_)))))))
 refine bW [.string ⟨u3 []⟩, .string ⟨u3 []⟩] 101 p ?_
 intro A ai R
 refine Az rfl ?_
 refine bY (aA.cells d) 0 R H3 ?_
 intro aj G
 refine nt (Gp (sr (Kz (vP A 0) (Lz (.string ⟨u3 d.aX⟩) G 0 v3 ?_))))
 obtain⟨r,g⟩:∃ q,jl d.aX=q:=⟨_,rfl⟩
 obtain⟨ak,I,aa,J,af⟩:=Gr G
 refine cl K0 (lT _ _ d.aX r I g) ?_
 rintro _ au ⟨rfl,K,z⟩
 have u:=J _ _ K
 replace z: ¬ (r=0)\/(1<=d.aX.length/\d.aX.length<=12):=z
 refine fw (.bool (decide (¬ (r=0)))) (GN (e:= !(decide (r=0))) yk decide_not.symm) (nt ?_)
 by_cases j:r=0
 refine jF (dF (Ko j)) (sk (Gp (sr (Kz (vP A 1) (Lz (.string ⟨u3 d.aN⟩) u 0 v3 (Kz (vJ d.aN.length) (Kz (.bool (decide ((d.aN.length:Int) > 16))) (nt ?_))))))))
 by_cases n:(d.aN.length:Int) > 16
 refine jT (dT n) (sr (An rfl (rt (tR (bR (tR (tR (bR (tR (rs ?_))))))))))
 have S:=u.pk []
 obtain rfl:_=2:=zj hr (iG (et (f) (et (congrArg (λ q=>iL c q a) h) (et (ae g) (et (ip j) (ip n))))))
 exact⟨rfl,S⟩
 refine jF (dF n) (sk (Gp ?_))
 refine Br [] (GD (bH.block (GD (GD (bH.block (GD GQ)))))) u ?_
 intro av B
 refine qv 0 rfl rfl (qk (.bool (decide ((a:Int) > 0))) 1 rfl (qv 2 rfl rfl ?_))
 by_cases b:(a:Int) > 0
 refine GG (v:= .slice m c.length C) (rs:= []) 3 rfl rfl rfl (dT b) e9 (λ _ _=>Gv rfl) (GG (v:=vJ a) (rs:= []) 4 rfl rfl rfl (dT b) e9 (λ _ _=>Gv rfl) (GG (v:=vJ (a - 1)) (rs:= []) 5 rfl rfl rfl (dT b) e9 (λ _ _=>Gw (e:=v7.wrap ((a:Int) - 1)) yk f1) ?_))
 obtain⟨s,t⟩:=mK (ls:=c) (i:=a - 1) f2
 refine GG (v:= .pointer (some ⟨ab m,ao m+(a - 1) *2,none⟩)) (rs:= []) 6 rfl rfl rfl (dT b) e9 (λ _ ⟨_,L⟩=>GI (iK) rfl rfl ((L.ro o).addr (i:=a - 1) e8) e8) (GG (v:= .pointer (some ⟨ab m,ao m+(a - 1) *2,none⟩)) (rs:= []) 7 rfl rfl rfl (dT b) e9 (λ _ _=>yk) (GG (v:= .string ⟨u3 s.aX⟩) (rs:= []) 8 rfl rfl rfl (dT b) e9 (λ _ ⟨_,L⟩=>GH rfl (bS.one v3 (((L.ro o).elem aA.len t f5).at_ (k:=0) rfl))) (GG (v:=vP A 0) (rs:= []) 9 rfl rfl rfl (dT b) e9 (λ _ _=>yk) (GG (v:= .string ⟨u3 d.aX⟩) (rs:= []) 10 rfl rfl rfl (dT b) e9 (λ _ ⟨_,L⟩=>GH rfl (bS.one v3 (Ho (L.cls (i:=0) rfl) rfl))) (GG (v:= .bool (decide (d.aX<=s.aX))) (rs:= []) 11 rfl rfl rfl (dT b) e9 (λ _ _=>GN (e:= !(Op.bytesLess s.aX d.aX)) (IK rfl rfl) (zC _ _)) (qt (v:= .bool (decide (d.aX<=s.aX))) 12 rfl (λ _ _=>Gu rfl (dT b) rfl) (qn (Gs ?_))))))))
 by_cases x:d.aX<=s.aX
 refine jT (dT x) (sr (An rfl (rt (bR (tR (tR (bR (tR (rs ?_)))))))))
 have T:=B.pk []
 obtain rfl:_=1:=zj hr (iG (et (f) (et (congrArg (λ q=>iL c q a) h) (et (ae g) (et (ip j) (et (iN n) (et (ip b) (et (ae (bz t)) (ip x)))))))))
 exact⟨rfl,T⟩
 refine jF (dF x) (G7 (bN (Gs (Gq (fw (vJ (a+1)) (Gw (e:=v7.wrap ((a:Int)+1)) yk f1) (Mz rfl (v8 ?_)))))))
 have U:=B.pk []
 exact GL (a+1) ⟨rfl,rfl,rfl,rfl,rfl,trivial⟩ (l.2 ⟨U,e8,et (f) (et (congrArg (λ q=>iL c q a) h) (et (ae g) (et (ip j) (et (iN n) (et (ip b) (et (ae (bz t)) (iN x)))))))⟩) (by show c.length - (a+1) < c.length - a; omega)
 refine Gy (rs:= []) 3 rfl rfl rfl (dF b) e9 (Gy (rs:= []) 4 rfl rfl rfl (dF b) e9 (Gy (rs:= []) 5 rfl rfl rfl (dF b) e9 (Gy (rs:= []) 6 rfl rfl rfl (dF b) e9 (Gy (rs:= []) 7 rfl rfl rfl (dF b) e9 (Gy (rs:= []) 8 rfl rfl rfl (dF b) e9 (Gy (rs:= []) 9 rfl rfl rfl (dF b) e9 (Gy (rs:= []) 10 rfl rfl rfl (dF b) e9 (Gy (rs:= []) 11 rfl rfl rfl (dF b) e9 (qt (v:= .bool false) 12 rfl (λ _ _=>Gm rfl (dF b) rfl) (qn (Gs (jf (G7 (bN (Gs (Gq (fw (vJ (a+1)) (Gw (e:=v7.wrap ((a:Int)+1)) yk f1) (Mz rfl (v8 ?_)))))))))))))))))))
 have V:=B.pk []
 exact GL (a+1) ⟨rfl,rfl,rfl,rfl,rfl,trivial⟩ (l.2 ⟨V,e8,et (f) (et (congrArg (λ q=>iL c q a) h) (et (ae g) (et (ip j) (et (iN n) (iN b)))))⟩) (by show c.length - (a+1) < c.length - a; omega)
 refine jT (dT j) (sr (An rfl (rt (tR (bR (tR (tR (bR (tR (rs ?_))))))))))
 have W:=u.pk []
 obtain rfl:_=20:=zj hr (iG (et (f) (et (congrArg (λ q=>iL c q a) h) (et (ae g) (iN j)))))
 exact⟨rfl,W⟩
 refine jF (dF F) (v9 (GK ?_))
 have M:iL c c 0=v0 ():=et (f) (et (congrArg (λ q=>iL c q a) (eP (ls:=c) (i:=a) e8)) rfl)
 refine GK (GR (Gs (sr (An rfl (rt (rs ?_))))))
 have X:=p.pk []
 obtain rfl:_=0:=zj hr (kZ M)
 exact⟨rfl,X⟩
def mg (c:List UInt8):List aA->Unit ⊕ ((List UInt8) × Bool)
  | []=>v0 ()
  | a::b=>if a.aX=c then v2 (a.aN,true) else mg c b
def tF (a:List aA) (b:List UInt8):(List UInt8) × Bool:=
 lp (mg b a) λ _=>([],false)
theorem wX (w D o u x b d G I) (H:Own w D w []) (n:Ro w D λ w'=>bM w' 2 o u (q0 aA.cells b)) (y:u=b.length) (K:b.length *32<=211106232532992) (hr:tF b d=(G,I)):
    Calls u2 56 #[.slice o u x, .string ⟨u3 d⟩] w (dG λ v w'=>v= .tuple #[.string ⟨u3 G⟩, .bool I]/\Own w D w' []):=by
 subst y
 refine cb Tryz.func56 ?_
 refine sr (Az rfl (An rfl (Gp (sr (Mz rfl (Kz (vJ b.length) (Mn rfl (bo ?_))))))))
 have z:=H.pk []
 obtain⟨A,f⟩:=mP λ (a:Nat) w'=>Own w D w' []/\a<=b.length/\mg d b=mg d (r7 a b)
 refine v4 (λ i:Nat=> [(4, .string ⟨u3 []⟩),(5, .bool false),(10,vJ i),(9,vJ b.length),(8, .slice o b.length x),(1, .string ⟨u3 d⟩)]) A (λ i=>b.length - i) 0 ⟨rfl,rfl,rfl,rfl,rfl,rfl,trivial⟩ (f.2 ⟨z,e8,rfl⟩) ?_
 rintro a L p
 show Wp _ _ _ [(4, .string ⟨u3 []⟩),(5, .bool false),(10,vJ a),(9,vJ b.length),(8, .slice o b.length x),(1, .string ⟨u3 d⟩)] _ _
 obtain⟨g,J,h⟩:=f.1 p
 refine sr (Kz (.bool (decide ((a:Int) < (b.length:Int)))) (nt (Gp ?_)))
 by_cases r:(a:Int) < (b.length:Int)
 obtain⟨c,l⟩:=dI (ls:=b) (i:=a) aA.len f5 (g.ro n) f2
 have m:=drop_at l
 refine jT (dT r) (sk (Gp (bo (sr (fw (.pointer (some ⟨ab o,ao o+a *2,none⟩)) (GI (iK) rfl rfl ((g.ro n).addr (i:=a) e8) e8) (fw (.agg (aA.cells c).toArray) (GH rfl (GJ (cs:=(aA.cells c)) K2 H3 ((g.ro n).elem aA.len l f5))) ?_))))))
 refine bW [.string ⟨u3 []⟩, .string ⟨u3 []⟩] 101 g ?_
 intro s M B
 refine bY (aA.cells c) 0 B H3 ?_
 intro N j
 refine ns (Kz (vP s 0) (Lz (.string ⟨u3 c.aX⟩) j 0 v3 (Mz rfl (fw (.bool (decide (c.aX=d))) (Ir rfl rfl) (nt ?_)))))
 by_cases k:c.aX=d
 refine jT (dT k) (sr (Kz (vP s 1) (Lz (.string ⟨u3 c.aN⟩) j 0 v3 (Az rfl (An rfl (rt (bR (tR (tR (bR (tR (GM (j6 rfl rfl rfl) ?_))))))))))))
 have C:=j.pk []
 obtain⟨rfl,rfl⟩:=fC (zj hr (show _=(c.aN,true) from iG (et (h) (et (congrArg (λ q=>mg d q) m) (ip k)))))
 exact⟨rfl,C⟩
 refine jF (dF k) (G7 (bN (Gs (Gq (fw (vJ (a+1)) (Gw (e:=v7.wrap ((a:Int)+1)) yk f1) (Mz rfl (v8 ?_)))))))
 have E:=j.pk []
 exact GL (a+1) ⟨rfl,rfl,rfl,rfl,rfl,rfl,trivial⟩ (f.2 ⟨E,e8,et (h) (et (congrArg (λ q=>mg d q) m) (iN k))⟩) (by show b.length - (a+1) < b.length - a; omega)
 refine jF (dF r) (v9 (GK ?_))
 have t:mg d b=v0 ():=et (h) (et (congrArg (λ q=>mg d q) (eP (ls:=b) (i:=a) e8)) rfl)
 refine GK (GR (Gs (sr (Az rfl (An rfl (rt (GM (j6 rfl rfl rfl) ?_)))))))
 have F:=g.pk []
 obtain⟨rfl,rfl⟩:=fC (zj hr (show _=([],false) from kZ t))
 exact⟨rfl,F⟩
def uE (c:aj) (d:List UInt8):Bool:=
 bnd (oW c) λ a=>if a=0 then bnd (jl d) λ b=>if b=0 then if c.aO<=d then if c.aS=[] then true else decide (d < c.aS) else false else false else false
theorem yj (w D) (f:aj) (h F) (H:Own w D w []) (hr:uE f h=F):
    Calls u2 98 #[.agg (aj.cells f).toArray, .string ⟨u3 h⟩] w (dG λ v w'=>v= .bool F/\Own w D w' []):=by
 unfold uE at hr
 refine cb Tryz.func98 ?_
 refine sr ?_
 refine bW (aj.cells f) 37 H ?_
 intro m L o
 refine Ar rfl (La (aj.cells f) o 0 B5 B4 ?_)
 obtain⟨n,g⟩:∃ q,oW f=q:=⟨_,rfl⟩
 obtain⟨M,p,G,r,I⟩:=Gr o
 refine cl K1 (tu _ _ f n p g) ?_
 rintro _ N ⟨rfl,s⟩
 have t:=r _ _ s
 refine Kz (.bool (decide (n=0))) (Mz rfl ?_)
 by_cases c:n=0
 refine gw (.string ⟨u3 h⟩) (dT c) (Gv rfl) ?_
 obtain⟨k,i⟩:∃ q,jl h=q:=⟨_,rfl⟩
 obtain⟨O,u,J,x,K⟩:=Gr t
 refine nQ (dT c) K0 (lT _ _ h k u i) ?_
 rintro _ P ⟨rfl,y,l⟩
 have j:=x _ _ y
 replace l: ¬ (k=0)\/(1<=h.length/\h.length<=12):=l
 refine Gz (.bool (decide (k=0))) (dT c) (fw (.bool (decide (k=0))) (Gu rfl (dT c) rfl) (Mz rfl ?_))
 by_cases b:k=0
 refine gw (.string ⟨u3 h⟩) (dT b) (Gv rfl) (Gz (vP m 0) (dT b) (Gl (.string ⟨u3 f.aO⟩) (dT b) j 0 v3 (gw (.bool (decide (f.aO<=h))) (dT b) (GN (e:= !(Op.bytesLess h f.aO)) (IK rfl rfl) (zC _ _)) (fw (.bool (decide (f.aO<=h))) (Gu rfl (dT b) rfl) (Mz rfl ?_)))))
 by_cases a:f.aO<=h
 refine Gz (vP m 1) (dT a) (Gl (.string ⟨u3 f.aS⟩) (dT a) j 0 v3 (gw (.bool (decide (f.aS=[]))) (dT a) (Ir rfl rfl) (gw (.bool (decide (f.aS=[]))) (dT a) (Gv rfl) ?_)))
 by_cases d:f.aS=[]
 refine Sz (dT d) (Sz (dT d) (Sz (dT d) (Sz (dT d) (gw (.bool true) (dT a) (Gu rfl (dT d) rfl) (fw (.bool true) (Gu rfl (dT a) rfl) (An rfl (rt (rs ?_))))))))
 have z:=j.pk []
 obtain rfl:=zj hr zq6
 exact⟨rfl,z⟩
 refine gw (.string ⟨u3 h⟩) (dF d) (Gv rfl) (Gz (vP m 1) (dF d) (Gl (.string ⟨u3 f.aS⟩) (dF d) j 0 v3 (gw (.bool (decide (h < f.aS))) (dF d) (GN (e:=Op.bytesLess h f.aS) (I4 rfl rfl) (xS _ _)) (gw (.bool (decide (h < f.aS))) (dT a) (Gm rfl (dF d) rfl) (fw (.bool (decide (h < f.aS))) (Gu rfl (dT a) rfl) (An rfl (rt (rs ?_))))))))
 have A:=j.pk []
 obtain rfl:=zj hr zq6
 exact⟨rfl,A⟩
 refine Sz (dF a) (Sz (dF a) (Sz (dF a) (Sz (dF a) (GA rfl rfl rfl (GA rfl rfl rfl (GA rfl rfl rfl (GA rfl rfl rfl (Sz (dF a) (fw (.bool false) (Gm rfl (dF a) rfl) (An rfl (rt (rs ?_))))))))))))
 have B:=j.pk []
 obtain rfl:=zj hr zq5
 exact⟨rfl,B⟩
 refine Sz (dF b) (Sz (dF b) (Sz (dF b) (Sz (dF b) (fw (.bool false) (Gm rfl (dF b) rfl) (Mz rfl (Sz rfl (Sz rfl (Sz rfl (Sz rfl (GA rfl rfl rfl (GA rfl rfl rfl (GA rfl rfl rfl (GA rfl rfl rfl (Sz rfl (fw (.bool false) (Gm rfl rfl rfl) (An rfl (rt (rs ?_))))))))))))))))))
 have C:=j.pk []
 obtain rfl:=zj hr zq4
 exact⟨rfl,C⟩
 refine Sz (dF c) (Sz (dF c) (Sz (dF c) (fw (.bool false) (Gm rfl (dF c) rfl) (Mz rfl (Sz rfl (Sz rfl (Sz rfl (Sz rfl (fw (.bool false) (Gm rfl rfl rfl) (Mz rfl (Sz rfl (Sz rfl (Sz rfl (Sz rfl (GA rfl rfl rfl (GA rfl rfl rfl (GA rfl rfl rfl (GA rfl rfl rfl (Sz rfl (fw (.bool false) (Gm rfl rfl rfl) (An rfl (rt (rs ?_)))))))))))))))))))))))
 have E:=t.pk []
 obtain rfl:=zj hr zq2
 exact⟨rfl,E⟩
def jm (e:aj):List aA->List aA->(List aA)
  | [],a=>a
  | b::c,a=>bnd (uE e b.aX) λ d=>if d=true then jm e c a else jm e c (a++ [b])
def pW (a:List aA) (b:aj):(List aA):=
 bnd (jm b a []) λ sLrL=>sLrL
theorem uF (w D E O P d) (f:aj) (F) (H:Own w D w []) (x:Ro w D λ w'=>bM w' 2 E O (q0 aA.cells d)) (Q:O=d.length) (aD:d.length *32<=211106232532992) (hr:pW d f=F):
    Calls u2 59 #[.slice E O P, .agg (aj.cells f).toArray] w (dG λ v w'=> ∃ B0 b0,v= .slice B0 F.length b0/\Own w D w' [row B0 F.length b0 (q0 aA.cells F) 101 2]/\(F.length<=d.length)):=by
 unfold pW at hr
 subst Q
 refine cb Tryz.func59 ?_
 refine sr ?_
 refine bW (aj.cells f) 37 H ?_
 intro r R S
 refine Ar rfl (An rfl (Gp (sr (Mz rfl (Kz (vJ d.length) (Mn rfl (bo ?_)))))))
 have T:Own w D R [row none 0 0 (q0 aA.cells []) 101 2,blk r (aj.cells f) 37]:=S.free (bX 101 2)
 have U:=T.pb [0]
 obtain⟨V,g⟩:=vk λ h (j:Nat) b (a:Nat) w'=>Own w D w' [blk r (aj.cells f) 37,row h b.length j (q0 aA.cells b) 101 2]/\a<=d.length/\b.length<=a/\jm f d []=jm f (r7 a d) b
 refine v4 (λ i:(Option Addr) × Nat × (List aA) × Nat=> [(5, .slice i.1 i.2.2.1.length i.2.1),(10,vJ i.2.2.2),(9,vJ d.length),(8, .slice E d.length P),(4, .slice none 0 0),(3,vP r 0)]) V (λ i=>d.length - i.2.2.2) (none,0, [],0) ⟨rfl,rfl,rfl,rfl,rfl,rfl,trivial⟩ (g.2 ⟨U,(show 0<=d.length/\0<=0/\jm f d []=jm f (r7 0 d) [] from ⟨e8,e8,rfl⟩)⟩) ?_
 rintro ⟨h,j,b,a⟩ aF G
 show Wp _ _ _ [(5, .slice h b.length j),(10,vJ a),(9,vJ d.length),(8, .slice E d.length P),(4, .slice none 0 0),(3,vP r 0)] _ _
 obtain⟨l,ax,ay,n⟩:=g.1 G
 refine sr (Kz (.bool (decide ((a:Int) < (d.length:Int)))) (nt (Gp ?_)))
 by_cases I:(a:Int) < (d.length:Int)
 obtain⟨c,t⟩:=dI (ls:=d) (i:=a) aA.len f5 (l.ro x) f2
 have u:=drop_at t
 refine jT (dT I) (sk (Gp (bo (sr (fw (.pointer (some ⟨ab E,ao E+a *2,none⟩)) (GI (iK) rfl rfl ((l.ro x).addr (i:=a) e8) e8) (fw (.agg (aA.cells c).toArray) (GH rfl (GJ (cs:=(aA.cells c)) K2 H3 ((l.ro x).elem aA.len t f5))) ?_))))))
 refine bW [.string ⟨u3 []⟩, .string ⟨u3 []⟩] 101 l ?_
 intro W aG X
 refine bY (aA.cells c) 0 X H3 ?_
 intro aH z
 refine ns (La (aj.cells f) z 1 B5 B4 (Kz (vP W 0) (Lz (.string ⟨u3 c.aX⟩) z 0 v3 ?_)))
 obtain⟨A,o⟩:∃ q,uE f c.aX=q:=⟨_,rfl⟩
 obtain⟨aI,J,az,K,aB⟩:=Gr z
 refine cl Tryz.call98 (yj _ _ f c.aX A J o) ?_
 rintro _ aJ ⟨rfl,L⟩
 have B:=K _ _ L
 refine Kz (.bool (!A)) (nt ?_)
 rcases Kq (A) with p | p
 refine jF (cn p) (G7 (bN (Gs (Gq (fw (vJ (a+1)) (Gw (e:=v7.wrap ((a:Int)+1)) yk f1) (Mz rfl (v8 ?_)))))))
 have Y:=B.pk [1,2]
 exact GL (h,j,b,a+1) ⟨rfl,rfl,rfl,rfl,rfl,rfl,trivial⟩ (g.2 ⟨Y,e8,e8,et (n) (et (congrArg (λ q=>jm f q b) u) (et (ae o) (ip p)))⟩) (by show d.length - (a+1) < d.length - a; omega)
 refine jT (cn p) (Gq (Mz rfl (La (aA.cells c) B 0 K2 H3 ?_)))
 refine jE (aA.cells c) 101 2 1 B ?_
 intro Z aK C
 replace C:=Ha (y:=row Z 1 1 (q0 aA.cells ([c])) 101 2) rfl C
 have M:=C.pf [3]
 refine WL.do rfl (GZ (k:=b.length) (m:=1) (iK) M rfl rfl (eT E3 (M.rds (i:=1) rfl) (cB aA.one ([c]))) rfl e8 (s:=q5 (b++ [c])) f4 (t2).symm ?_)
 intro aa af aL ag
 have aC:q5 (b++ [c])=b.length+1:=by simp only [m8,q6,H2]
 refine Az rfl (v8 (bN (Gs (Gq (fw (vJ (a+1)) (Gw (e:=v7.wrap ((a:Int)+1)) yk f1) (Mz rfl (v8 ?_)))))))
 have ah:=ag.pk [3,0]
 exact GL (aa,af,(b++ [c]),a+1) ⟨rfl,rfl,rfl,rfl,rfl,rfl,trivial⟩ (g.2 ⟨ah,e8,e8,et (n) (et (congrArg (λ q=>jm f q b) u) (et (ae o) (dY p)))⟩) (by show d.length - (a+1) < d.length - a; omega)
 refine jF (dF I) (v9 (GK ?_))
 have N:jm f d []=b:=et (n) (et (congrArg (λ q=>jm f q b) (eP (ls:=d) (i:=a) e8)) rfl)
 refine GK (GR (Gs (Gp ?_)))
 have ai:=l.pk [1]
 refine Gq (Mz rfl (An rfl (rt (rs ?_))))
 have ak:=ai.pf []
 obtain rfl:=zj hr zq1
 exact⟨h,j,rfl,ak,i1⟩
def gM (e:aA):List aA->List aA->Bool->(List aA) × Bool
  | [],a,b=>(a,b)
  | c::d,a,b=>if b=true then if c.aX≠e.aX then gM e d (a++ [c]) b else gM e d a b else if e.aX<=c.aX then if c.aX≠e.aX then gM e d ((a++ [e])++ [c]) true else gM e d (a++ [e]) true else if c.aX≠e.aX then gM e d (a++ [c]) b else gM e d a b
def yQ (b:List aA) (a:aA):(List aA):=
 bnd (gM a b [] false) λ sLrL=>if sLrL.2=true then sLrL.1 else(sLrL.1++ [a])
theorem BZ (w D Q n0 c0 h) (d:aA) (R) (H:Own w D w []) (L:Ro w D λ w'=>bM w' 2 Q n0 (q0 aA.cells h)) (ak:n0=h.length) (bD:h.length *32<=211106232532992) (bE:(h.length+1) *32<=211106232532992) (hr:yQ h d=R):
    Calls u2 57 #[.slice Q n0 c0, .agg (aA.cells d).toArray] w (dG λ v w'=> ∃ B0 b0,v= .slice B0 R.length b0/\Own w D w' [row B0 R.length b0 (q0 aA.cells R) 101 2]/\(R.length<=h.length+1)):=by
 unfold yQ at hr
 subst ak
 refine cb Tryz.func57 ?_
 refine sr ?_
 refine bW (aA.cells d) 101 H ?_
 intro p au av
 refine Ar rfl (Ar rfl (An rfl (Gp (sr (Mz rfl (Kz (vJ h.length) (Mn rfl (bo ?_))))))))
 have ax:Own w D au [row none 0 0 (q0 aA.cells []) 101 2,blk p (aA.cells d) 101]:=av.free (bX 101 2)
 have ay:=ax.pb [0]
 obtain⟨az,l⟩:=ES λ u (x:Nat) b f (a:Nat) w'=>Own w D w' [blk p (aA.cells d) 101,row u b.length x (q0 aA.cells b) 101 2]/\a<=h.length/\b.length<=a+Bool.toNat f/\gM d h [] false=gM d (r7 a h) b f
 refine v4 (λ i:(Option Addr) × Nat × (List aA) × Bool × Nat=> [(5, .slice i.1 i.2.2.1.length i.2.1),(6, .bool i.2.2.2.1),(11,vJ i.2.2.2.2),(10,vJ h.length),(9, .slice Q h.length c0),(4, .slice none 0 0),(3,vP p 0)]) az (λ i=>h.length - i.2.2.2.2) (none,0, [],false,0) ⟨rfl,rfl,rfl,rfl,rfl,rfl,rfl,trivial⟩ (l.2 ⟨ay,(show 0<=h.length/\0<=0+0/\gM d h [] false=gM d (r7 0 h) [] false from ⟨e8,e8,rfl⟩)⟩) ?_
 rintro ⟨u,x,b,f,a⟩ bF S
 show Wp _ _ _ [(5, .slice u b.length x),(6, .bool f),(11,vJ a),(10,vJ h.length),(9, .slice Q h.length c0),(4, .slice none 0 0),(3,vP p 0)] _ _
 obtain⟨r,bn,bq,n⟩:=l.1 S
 refine sr (Kz (.bool (decide ((a:Int) < (h.length:Int)))) (nt (Gp ?_)))
 by_cases T:(a:Int) < (h.length:Int)
 obtain⟨c,I⟩:=dI (ls:=h) (i:=a) aA.len f5 (r.ro L) f2
 have o:=drop_at I
 refine jT (dT T) (sk (Gp (bo (sr (fw (.pointer (some ⟨ab Q,ao Q+a *2,none⟩)) (GI (iK) rfl rfl ((r.ro L).addr (i:=a) e8) e8) (fw (.agg (aA.cells c).toArray) (GH rfl (GJ (cs:=(aA.cells c)) K2 H3 ((r.ro L).elem aA.len I f5))) ?_))))))
 refine bW [.string ⟨u3 []⟩, .string ⟨u3 []⟩] 101 r ?_
 intro C bG aB
 refine bY (aA.cells c) 0 aB H3 ?_
 intro bH j
 refine nt (Gp (sr (Mz rfl (Kz (.bool (!f)) (Mz rfl ?_)))))
 rcases Kq (f) with g | g
 have h49t:Bool.toNat f=1:=by rw [g]; rfl
 refine Sz (cn g) (Sz (cn g) (Sz (cn g) (Sz (cn g) (Sz (cn g) (fw (.bool false) (Gm rfl (cn g) rfl) (nt (jf (sk (sr (Kz (vP C 0) (Lz (.string ⟨u3 c.aX⟩) j 0 v3 (Kz (vP p 0) (Lz (.string ⟨u3 d.aX⟩) j 1 v3 (fw (.bool (decide (c.aX≠d.aX))) (Hr rfl rfl) (nt ?_)))))))))))))))
 by_cases E:c.aX≠d.aX
 refine jT (dT E) (Gq (Mz rfl (La (aA.cells c) j 0 K2 H3 ?_)))
 refine jE (aA.cells c) 101 2 1 j ?_
 intro aC bI M
 replace M:=Ha (y:=row aC 1 1 (q0 aA.cells ([c])) 101 2) rfl M
 have U:=M.pf [3]
 refine WL.do rfl (GZ (k:=b.length) (m:=1) (iK) U rfl rfl (eT E3 (U.rds (i:=1) rfl) (cB aA.one ([c]))) rfl e8 (s:=q5 (b++ [c])) f4 (t2).symm ?_)
 intro aD aF bJ aG
 have bu:q5 (b++ [c])=b.length+1:=by simp only [m8,q6,H2]
 refine Az rfl (v8 (bN (Gs (Gq (fw (vJ (a+1)) (Gw (e:=v7.wrap ((a:Int)+1)) yk f1) (Mz rfl (v8 ?_)))))))
 have aH:=aG.pk [3,0]
 exact GL (aD,aF,(b++ [c]),f,a+1) ⟨rfl,rfl,rfl,rfl,rfl,rfl,rfl,trivial⟩ (l.2 ⟨aH,e8,e8,et (n) (et (congrArg (λ q=>gM d q b f) o) (et (ip g) (ip E)))⟩) (by show h.length - (a+1) < h.length - a; omega)
 refine jF (dF E) (G7 (bN (Gs (Gq (fw (vJ (a+1)) (Gw (e:=v7.wrap ((a:Int)+1)) yk f1) (Mz rfl (v8 ?_)))))))
 have aI:=j.pk [1,2]
 exact GL (u,x,b,f,a+1) ⟨rfl,rfl,rfl,rfl,rfl,rfl,rfl,trivial⟩ (l.2 ⟨aI,e8,e8,et (n) (et (congrArg (λ q=>gM d q b f) o) (et (ip g) (iN E)))⟩) (by show h.length - (a+1) < h.length - a; omega)
 have h49t:Bool.toNat f=0:=by rw [g]; rfl
 refine Gz (vP C 0) (cn g) (Gl (.string ⟨u3 c.aX⟩) (cn g) j 0 v3 (Gz (vP p 0) (cn g) (Gl (.string ⟨u3 d.aX⟩) (cn g) j 1 v3 (gw (.bool (decide (d.aX<=c.aX))) (cn g) (GN (e:= !(Op.bytesLess c.aX d.aX)) (IK rfl rfl) (zC _ _)) (fw (.bool (decide (d.aX<=c.aX))) (Gu rfl (cn g) rfl) (nt ?_))))))
 by_cases z:d.aX<=c.aX
 refine jT (dT z) (sr (Mz rfl (La (aA.cells d) j 1 K2 H3 ?_)))
 refine jE (aA.cells d) 101 2 1 j ?_
 intro aJ bK N
 replace N:=Ha (y:=row aJ 1 1 (q0 aA.cells ([d])) 101 2) rfl N
 have V:=N.pf [3]
 refine WL.do rfl (GZ (k:=b.length) (m:=1) (iK) V rfl rfl (eT E3 (V.rds (i:=1) rfl) (cB aA.one ([d]))) rfl e8 (s:=q5 (b++ [d])) f4 (t2).symm ?_)
 intro aK aL bL A
 have bv:q5 (b++ [d])=b.length+1:=by simp only [m8,q6,H2]
 refine An rfl (Gq (Ar rfl (Kz (vP C 0) (Lz (.string ⟨u3 c.aX⟩) A 2 v3 (Kz (vP p 0) (Lz (.string ⟨u3 d.aX⟩) A 3 v3 (fw (.bool (decide (c.aX≠d.aX))) (Hr rfl rfl) (nt ?_))))))))
 by_cases F:c.aX≠d.aX
 refine jT (dT F) (Gq (Mz rfl (La (aA.cells c) A 2 K2 H3 ?_)))
 refine jE (aA.cells c) 101 2 1 A ?_
 intro aM bO O
 replace O:=Ha (y:=row aM 1 1 (q0 aA.cells ([c])) 101 2) rfl O
 have W:=O.pf [1]
 refine WL.do rfl (GZ (k:=q5 (b++ [d])) (m:=1) (iK) W rfl rfl (eT E3 (W.rds (i:=1) rfl) (cB aA.one ([c]))) rfl e8 (s:=q5 ((b++ [d])++ [c])) f4 (t2).symm ?_)
 intro aN aO bP aP
 have bz:q5 ((b++ [d])++ [c])=(q5 (b++ [d]))+1:=by simp only [m8,q6,H2]
 refine Az rfl (v8 (bN (Gs (Gq (fw (vJ (a+1)) (Gw (e:=v7.wrap ((a:Int)+1)) yk f1) (Mz rfl (v8 ?_)))))))
 have aQ:=aP.pk [4,0]
 exact GL (aN,aO,((b++ [d])++ [c]),true,a+1) ⟨rfl,rfl,rfl,rfl,rfl,rfl,rfl,trivial⟩ (l.2 ⟨aQ,(show (a+1)<=h.length/\q5 ((b++ [d])++ [c])<=(a+1)+1/\gM d h [] false=gM d (r7 (a+1) h) ((b++ [d])++ [c]) true from ⟨e8,e8,et (n) (et (congrArg (λ q=>gM d q b f) o) (et (dY g) (et (ip z) (ip F))))⟩)⟩) (by show h.length - (a+1) < h.length - a; omega)
 refine jF (dF F) (G7 (bN (Gs (Gq (fw (vJ (a+1)) (Gw (e:=v7.wrap ((a:Int)+1)) yk f1) (Mz rfl (v8 ?_)))))))
 have aR:=A.pk [3,0]
 exact GL (aK,aL,(b++ [d]),true,a+1) ⟨rfl,rfl,rfl,rfl,rfl,rfl,rfl,trivial⟩ (l.2 ⟨aR,(show (a+1)<=h.length/\q5 (b++ [d])<=(a+1)+1/\gM d h [] false=gM d (r7 (a+1) h) (b++ [d]) true from ⟨e8,e8,et (n) (et (congrArg (λ q=>gM d q b f) o) (et (dY g) (et (ip z) (iN F))))⟩)⟩) (by show h.length - (a+1) < h.length - a; omega)
 refine jF (dF z) (sk (sr (Kz (vP C 0) (Lz (.string ⟨u3 c.aX⟩) j 0 v3 (Kz (vP p 0) (Lz (.string ⟨u3 d.aX⟩) j 1 v3 (fw (.bool (decide (c.aX≠d.aX))) (Hr rfl rfl) (nt ?_))))))))
 by_cases G:c.aX≠d.aX
 refine jT (dT G) (Gq (Mz rfl (La (aA.cells c) j 0 K2 H3 ?_)))
 refine jE (aA.cells c) 101 2 1 j ?_
 intro aS bQ P
 replace P:=Ha (y:=row aS 1 1 (q0 aA.cells ([c])) 101 2) rfl P
 have X:=P.pf [3]
 refine WL.do rfl (GZ (k:=b.length) (m:=1) (iK) X rfl rfl (eT E3 (X.rds (i:=1) rfl) (cB aA.one ([c]))) rfl e8 (s:=q5 (b++ [c])) f4 (t2).symm ?_)
 intro aT aU bR aV
 have bA:q5 (b++ [c])=b.length+1:=by simp only [m8,q6,H2]
 refine Az rfl (v8 (bN (Gs (Gq (fw (vJ (a+1)) (Gw (e:=v7.wrap ((a:Int)+1)) yk f1) (Mz rfl (v8 ?_)))))))
 have aW:=aV.pk [3,0]
 exact GL (aT,aU,(b++ [c]),f,a+1) ⟨rfl,rfl,rfl,rfl,rfl,rfl,rfl,trivial⟩ (l.2 ⟨aW,e8,e8,et (n) (et (congrArg (λ q=>gM d q b f) o) (et (dY g) (et (iN z) (ip G))))⟩) (by show h.length - (a+1) < h.length - a; omega)
 refine jF (dF G) (G7 (bN (Gs (Gq (fw (vJ (a+1)) (Gw (e:=v7.wrap ((a:Int)+1)) yk f1) (Mz rfl (v8 ?_)))))))
 have aX:=j.pk [1,2]
 exact GL (u,x,b,f,a+1) ⟨rfl,rfl,rfl,rfl,rfl,rfl,rfl,trivial⟩ (l.2 ⟨aX,e8,e8,et (n) (et (congrArg (λ q=>gM d q b f) o) (et (dY g) (et (iN z) (iN G))))⟩) (by show h.length - (a+1) < h.length - a; omega)
 refine jF (dF T) (v9 (GK ?_))
 have J:gM d h [] false=(b,f):=et (n) (et (congrArg (λ q=>gM d q b f) (eP (ls:=h) (i:=a) e8)) rfl)
 refine GK (GR (Gs (Gp (sr (Mz rfl (Kz (.bool (!f)) (nt ?_)))))))
 rcases Kq (f) with t | t
 have h97t:Bool.toNat f=1:=by rw [t]; rfl
 refine jF (cn t) (sk (Gp ?_))
 have aY:=r.pk [1]
 refine Gq (Mz rfl (An rfl (rt (rs ?_))))
 have aZ:=aY.pf []
 obtain rfl:=zj hr zq2
 exact⟨u,x,rfl,aZ,e8⟩
 have h97t:Bool.toNat f=0:=by rw [t]; rfl
 refine jT (cn t) (Gq (Mz rfl (La (aA.cells d) r 0 K2 H3 ?_)))
 refine jE (aA.cells d) 101 2 1 r ?_
 intro Y bB B
 replace B:=Ha (y:=row Y 1 1 (q0 aA.cells ([d])) 101 2) rfl B
 have K:=B.pf [2]
 refine WL.do rfl (GZ (k:=b.length) (m:=1) (iK) K rfl rfl (eT E3 (K.rds (i:=1) rfl) (cB aA.one ([d]))) rfl e8 (s:=q5 (b++ [d])) f4 (t2).symm ?_)
 intro Z aa bC af
 have bf:q5 (b++ [d])=b.length+1:=by simp only [m8,q6,H2]
 refine An rfl (Gp ?_)
 have ag:=af.pk [0]
 refine Gq (Mz rfl (An rfl (rt (rs ?_))))
 have ah:=ag.pf []
 obtain rfl:_=(b++ [d]):=zj hr (et (ae J) (dY t))
 exact⟨Z,aa,rfl,ah,e8⟩
def iy (e:aj) (d:Int):List aA->List aA->(List aA)
  | [],a=>a
  | c::b,a=>bnd (uE e c.aX) λ f=>if f=true then if d < 0 then iy e d b (a++ [c]) else if(a.length:Int) < d then iy e d b (a++ [c]) else iy e d b a else iy e d b a
def qI (a:List aA) (b:aj) (c:Int):(List aA):=
 bnd (iy b c a []) λ sLrL=>sLrL
theorem vw (w D I T U f) (l:aj) (h J) (H:Own w D w []) (C:Ro w D λ w'=>bM w' 2 I T (q0 aA.cells f)) (V:T=f.length) (aQ:f.length *32<=211106232532992) (hr:qI f l h=J):
    Calls u2 60 #[.slice I T U, .agg (aj.cells l).toArray,vI h] w (dG λ v w'=> ∃ B0 b0,v= .slice B0 J.length b0/\Own w D w' [row B0 J.length b0 (q0 aA.cells J) 101 2]/\(J.length<=f.length)):=by
 unfold qI at hr
 subst V
 refine cb Tryz.func60 ?_
 refine sr ?_
 refine bW (aj.cells l) 37 H ?_
 intro z W X
 refine Ar rfl (An rfl (Gp (sr (Mz rfl (Kz (vJ f.length) (Mn rfl (bo ?_)))))))
 have Y:Own w D W [row none 0 0 (q0 aA.cells []) 101 2,blk z (aj.cells l) 37]:=X.free (bX 101 2)
 have Z:=Y.pb [0]
 obtain⟨aa,j⟩:=vk λ p (r:Nat) a (b:Nat) w'=>Own w D w' [blk z (aj.cells l) 37,row p a.length r (q0 aA.cells a) 101 2]/\b<=f.length/\a.length<=b/\iy l h f []=iy l h (r7 b f) a
 refine v4 (λ i:(Option Addr) × Nat × (List aA) × Nat=> [(7, .slice i.1 i.2.2.1.length i.2.1),(12,vJ i.2.2.2),(11,vJ f.length),(10, .slice I f.length U),(6, .slice none 0 0),(4,vP z 0),(2,vI h)]) aa (λ i=>f.length - i.2.2.2) (none,0, [],0) ⟨rfl,rfl,rfl,rfl,rfl,rfl,rfl,trivial⟩ (j.2 ⟨Z,(show 0<=f.length/\0<=0/\iy l h f []=iy l h (r7 0 f) [] from ⟨e8,e8,rfl⟩)⟩) ?_
 rintro ⟨p,r,a,b⟩ aR K
 show Wp _ _ _ [(7, .slice p a.length r),(12,vJ b),(11,vJ f.length),(10, .slice I f.length U),(6, .slice none 0 0),(4,vP z 0),(2,vI h)] _ _
 obtain⟨x,aK,aL,n⟩:=j.1 K
 refine sr (Kz (.bool (decide ((b:Int) < (f.length:Int)))) (nt (Gp ?_)))
 by_cases L:(b:Int) < (f.length:Int)
 obtain⟨c,B⟩:=dI (ls:=f) (i:=b) aA.len f5 (x.ro C) f2
 have t:=drop_at B
 refine jT (dT L) (sk (Gp (bo (sr (fw (.pointer (some ⟨ab I,ao I+b *2,none⟩)) (GI (iK) rfl rfl ((x.ro C).addr (i:=b) e8) e8) (fw (.agg (aA.cells c).toArray) (GH rfl (GJ (cs:=(aA.cells c)) K2 H3 ((x.ro C).elem aA.len B f5))) ?_))))))
 refine bW [.string ⟨u3 []⟩, .string ⟨u3 []⟩] 101 x ?_
 intro af aS ag
 refine bY (aA.cells c) 0 ag H3 ?_
 intro aT E
 refine ns (La (aj.cells l) E 1 B5 B4 (Kz (vP af 0) (Lz (.string ⟨u3 c.aX⟩) E 0 v3 ?_)))
 obtain⟨M,o⟩:∃ q,uE l c.aX=q:=⟨_,rfl⟩
 obtain⟨aU,N,aM,O,aN⟩:=Gr E
 refine cl Tryz.call98 (yj _ _ l c.aX M N o) ?_
 rintro _ aV ⟨rfl,P⟩
 have u:=O _ _ P
 refine Mz rfl ?_
 rcases Kq (M) with d | d
 refine Hm (v:=vI h) rfl rfl d rfl (Gv rfl) (Gz (.bool (decide (h < 0))) d (Hm (v:= .bool (decide (h < 0))) rfl rfl d rfl (Gv rfl) ?_))
 by_cases g:h < 0
 refine Sz (dT g) (Sz (dT g) (Sz (dT g) (Sz (dT g) (Hm (v:= .bool true) rfl rfl d rfl (Gu rfl (dT g) rfl) (fw (.bool true) (Gu rfl d rfl) (nt (jt (Gq (Mz rfl (La (aA.cells c) u 0 K2 H3 ?_))))))))))
 refine jE (aA.cells c) 101 2 1 u ?_
 intro ah aW F
 replace F:=Ha (y:=row ah 1 1 (q0 aA.cells ([c])) 101 2) rfl F
 have Q:=F.pf [3]
 refine WL.do rfl (GZ (k:=a.length) (m:=1) (iK) Q rfl rfl (eT E3 (Q.rds (i:=1) rfl) (cB aA.one ([c]))) rfl e8 (s:=q5 (a++ [c])) f4 (t2).symm ?_)
 intro ai ak aX au
 have aO:q5 (a++ [c])=a.length+1:=by simp only [m8,q6,H2]
 refine Az rfl (v8 (bN (Gs (Gq (fw (vJ (b+1)) (Gw (e:=v7.wrap ((b:Int)+1)) yk f1) (Mz rfl (v8 ?_)))))))
 have av:=au.pk [3,0]
 exact GL (ai,ak,(a++ [c]),b+1) ⟨rfl,rfl,rfl,rfl,rfl,rfl,rfl,trivial⟩ (j.2 ⟨av,e8,e8,et (n) (et (congrArg (λ q=>iy l h q a) t) (et (ae o) (et (ip d) (ip g))))⟩) (by show f.length - (b+1) < f.length - b; omega)
 refine gw (.slice p a.length r) (dF g) (Gv rfl) (Gz (vJ a.length) (dF g) (gw (vI h) (dF g) (Gv rfl) (Gz (.bool (decide ((a.length:Int) < h))) (dF g) (Hm (v:= .bool (decide ((a.length:Int) < h))) rfl rfl d rfl (Gm rfl (dF g) rfl) (fw (.bool (decide ((a.length:Int) < h))) (Gu rfl d rfl) (nt ?_))))))
 by_cases A:(a.length:Int) < h
 refine jT (dT A) (Gq (Mz rfl (La (aA.cells c) u 0 K2 H3 ?_)))
 refine jE (aA.cells c) 101 2 1 u ?_
 intro ax aY G
 replace G:=Ha (y:=row ax 1 1 (q0 aA.cells ([c])) 101 2) rfl G
 have R:=G.pf [3]
 refine WL.do rfl (GZ (k:=a.length) (m:=1) (iK) R rfl rfl (eT E3 (R.rds (i:=1) rfl) (cB aA.one ([c]))) rfl e8 (s:=q5 (a++ [c])) f4 (t2).symm ?_)
 intro ay az aZ aB
 have aP:q5 (a++ [c])=a.length+1:=by simp only [m8,q6,H2]
 refine Az rfl (v8 (bN (Gs (Gq (fw (vJ (b+1)) (Gw (e:=v7.wrap ((b:Int)+1)) yk f1) (Mz rfl (v8 ?_)))))))
 have aC:=aB.pk [3,0]
 exact GL (ay,az,(a++ [c]),b+1) ⟨rfl,rfl,rfl,rfl,rfl,rfl,rfl,trivial⟩ (j.2 ⟨aC,e8,e8,et (n) (et (congrArg (λ q=>iy l h q a) t) (et (ae o) (et (ip d) (et (iN g) (ip A)))))⟩) (by show f.length - (b+1) < f.length - b; omega)
 refine jF (dF A) (G7 (bN (Gs (Gq (fw (vJ (b+1)) (Gw (e:=v7.wrap ((b:Int)+1)) yk f1) (Mz rfl (v8 ?_)))))))
 have aD:=u.pk [1,2]
 exact GL (p,r,a,b+1) ⟨rfl,rfl,rfl,rfl,rfl,rfl,rfl,trivial⟩ (j.2 ⟨aD,e8,e8,et (n) (et (congrArg (λ q=>iy l h q a) t) (et (ae o) (et (ip d) (et (iN g) (iN A)))))⟩) (by show f.length - (b+1) < f.length - b; omega)
 refine Sz d (Sz d (Sz d (GA rfl rfl rfl (GA rfl rfl rfl (GA rfl rfl rfl (GA rfl rfl rfl (Sz d (fw (.bool false) (Gm rfl d rfl) (nt (jf (G7 (bN (Gs (Gq (fw (vJ (b+1)) (Gw (e:=v7.wrap ((b:Int)+1)) yk f1) (Mz rfl (v8 ?_)))))))))))))))))
 have aF:=u.pk [1,2]
 exact GL (p,r,a,b+1) ⟨rfl,rfl,rfl,rfl,rfl,rfl,rfl,trivial⟩ (j.2 ⟨aF,e8,e8,et (n) (et (congrArg (λ q=>iy l h q a) t) (et (ae o) (dY d)))⟩) (by show f.length - (b+1) < f.length - b; omega)
 refine jF (dF L) (v9 (GK ?_))
 have S:iy l h f []=a:=et (n) (et (congrArg (λ q=>iy l h q a) (eP (ls:=f) (i:=b) e8)) rfl)
 refine GK (GR (Gs (Gp ?_)))
 have aG:=x.pk [1]
 refine Gq (Mz rfl (An rfl (rt (rs ?_))))
 have aH:=aG.pf []
 obtain rfl:=zj hr zq1
 exact⟨p,r,rfl,aH,i1⟩
end
end Go.Proofs.YtndamapfnpihpaaGreat
namespace Go.Proofs.YtndamapfnpihpaaGreat.M
set_option maxRecDepth 100000
set_option linter.unusedVariables false
set_option linter.unusedSimpArgs false
set_option linter.unusedSectionVars false
abbrev L:=List UInt8
def K (k:L):Prop:=1<=k.length/\k.length<=12
def R (l h:L):Prop:=(l= []\/K l)/\(h= []\/(K h/\l < h))
def B (k h:L):Prop:=h= []\/k < h
def H (l h k:L):Prop:=R l h/\K k/\l<=k/\B k h
def mx (a b:L):L:=if a < b then b else a
def ls (a b:L):L:=if a= [] then b else if b= [] then a else if b < a then b else a
def M (l1 a b c:L):Prop:=R l1 a/\R b c/\B (mx l1 b) (ls a c)
theorem nil_lt {a:L} (h:a≠ []): [] < a:=by
  cases a with
  | nil=>exact absurd rfl h
  | cons x xs=>exact List.nil_lt_cons x xs
theorem F3 {k:L} (h:K k):k≠ []:=by rintro rfl; simp [K] at h
theorem CL {l1 a d b:L} (h:M l1 a d b):R (mx l1 d) (ls a b):=by
  obtain⟨⟨f,g⟩,⟨i,j⟩,c⟩:=h
  refine⟨?_, ?_⟩
  . unfold mx; split <;> assumption
  . rcases c with c | c
    . exact .inl c
    . by_cases e:ls a b= []
      . exact .inl e
      . refine .inr ⟨?_,c⟩
        unfold ls at e ⊢
        grind
theorem DJ (a b c:L):mx (mx a b) c=mx a (mx b c):=by unfold mx; grind
theorem DK (a b c:L):ls (ls a b) c=ls a (ls b c):=by unfold ls; grind
theorem parts {a b c d e f:L} (g:M a b c d) (i:M c d e f):(M (mx a c) (ls b d) e f↔M a b (mx c e) (ls d f)):=by
  have j:=CL g
  have k:=CL i
  unfold M
  rw [DJ,DK]
  exact⟨fun⟨_,_,h⟩=>⟨g.1,k,h⟩,fun⟨_,_,h⟩=>⟨j,i.2.1,h⟩⟩
def C (l1 c a b:L):Prop:=M l1 c a b/\mx l1 a=a/\ls c b=b
theorem cut {l h at_ k:L} (r:R l h) (ka:K at_) (hl:l < at_) (hb:B at_ h):(H l h k↔(H l at_ k\/H at_ h k))/\¬ (H l at_ k/\H at_ h k):=by
  have c:R l at_:=⟨r.1, .inr ⟨ka,hl⟩⟩
  have d:R at_ h:=⟨.inr ka,by
    rcases r.2 with e | ⟨e,_⟩
    . exact .inl e
    . rcases hb with e' | e'
      . exact .inl e'
      . exact .inr ⟨e,e'⟩⟩
  have hne:=F3 ka
  unfold H B at *
  refine⟨⟨?_, ?_⟩, ?_⟩
  . rintro ⟨_,kk,a,b⟩
    by_cases hk:k < at_
    . exact .inl ⟨c,kk,a, .inr hk⟩
    . exact .inr ⟨d,kk,List.not_lt.1 hk,b⟩
  . rintro (⟨_,kk,a,b⟩ | ⟨_,kk,a,b⟩)
    . refine⟨r,kk,a, ?_⟩; grind
    . refine⟨r,kk, ?_,b⟩; grind
  . rintro ⟨⟨_,_,_,b⟩,⟨_,_,a,_⟩⟩; grind
end Go.Proofs.YtndamapfnpihpaaGreat.M
namespace Go.Proofs.YtndamapfnpihpaaGreat
set_option maxRecDepth 100000
set_option linter.unusedVariables false
set_option linter.unusedSimpArgs false
set_option linter.unusedSectionVars false
open List renaming drop->r7,getElem?_append_left->u1,getElem?_drop->m3,getElem?_eq_getElem->p3,getElem?_eq_some_iff->p2,length->q5,mem_iff_getElem?->K6,mem_of_getElem?->C1,not_lt->K3,pairwise_cons->K4
open Nat renaming lt_or_ge->K5
section
open Go.RowKit
@[reducible] def Key:Type:=List UInt8
theorem Fx (a:Key): ¬ a < a:=List.lt_irrefl a
theorem yR {a b c:Key} (d:a < b) (e:b < c):a < c:=List.lt_trans d e
theorem zF {a b:Key}: ¬ a < b↔b<=a:=K3
theorem Er {a b:Key} (h:a < b):a<=b:=List.le_of_lt h
theorem Ef (a b:Key):a < b\/a=b\/b < a:=by
  by_cases c:a < b
  . exact .inl c
  . by_cases d:b < a
    . exact .inr (.inr d)
    . exact .inr (.inl (List.le_antisymm (K3.1 d) (K3.1 c)))
theorem CO:∀ (a b:Key),Lib.compareBytes a b < 0↔a < b
  | [], []=>by simp [Lib.compareBytes]
  | [],_::_=>by simp [Lib.compareBytes]
  | _::_, []=>by simp [Lib.compareBytes]
  | x::a,y::b=>by
    unfold Lib.compareBytes
    rw [List.cons_lt_cons_iff]
    by_cases c:x < y
    . simp [c]
    . rw [if_neg c]
      by_cases d:y < x
      . rw [if_pos d]
        have:x≠y:=λ e=>by subst e; exact c d
        simp [c,this]
      . rw [if_neg d]
        have:x=y:=UInt8.le_antisymm (UInt8.not_lt.1 d) (UInt8.not_lt.1 c)
        subst this
        simp [CO a b]
theorem z8:∀ (a b:Key),Lib.compareBytes a b=0↔a=b
  | [], []=>by simp [Lib.compareBytes]
  | [],_::_=>by simp [Lib.compareBytes]
  | _::_, []=>by simp [Lib.compareBytes]
  | x::a,y::b=>by
    unfold Lib.compareBytes
    by_cases c:x < y
    . have:x≠y:=λ e=>by subst e; exact absurd c (UInt8.lt_irrefl _)
      simp [c,this]
    . rw [if_neg c]
      by_cases d:y < x
      . have:x≠y:=λ e=>by subst e; exact c d
        simp [d,this]
      . rw [if_neg d]
        have:x=y:=UInt8.le_antisymm (UInt8.not_lt.1 d) (UInt8.not_lt.1 c)
        subst this
        simp [z8 a b]
theorem dz {α β:Type} (x:α) (f:α->β):bnd x f=f x:=rfl
def qj (m:List aA):Prop:=m.Pairwise λ a b=>a.aX < b.aX
def za (k:Key):Prop:=1<=q5 k/\q5 k<=12
def Eg (p:aA):Prop:=za p.aX/\q5 p.aN<=16
theorem uR {k:Key}:dV k=0↔za k:=by
  unfold dV za
  split
  . constructor <;> intro h <;> omega
  . split
    . constructor <;> intro h <;> omega
    . constructor <;> intro h <;> omega
theorem Bu (l:List aA):∀ (q pre:List aA),l=pre++q->(fJ l q pre.length= .inl ()↔(∀ p ∈ q,Eg p)/\(∀ a ∈ pre.getLast?, ∀ b ∈ q.head?,a.aX < b.aX)/\qj q)/\(∀ e,fJ l q pre.length= .inr e->e≠0)
  | [],pre,_=>by simp [fJ,qj]
  | x::q,pre,hl=>by
    have ih:=Bu l q (pre++ [x]) (by rw [hl,List.append_assoc]; rfl)
    have hlen:(pre++ [x]).length=pre.length+1:=by simp
    rw [hlen] at ih
    simp only [fJ,bnd,mQ]
    by_cases d:dV x.aX=0
    . rw [if_pos d]
      by_cases i:((q5 x.aN:Nat):Int) > 16
      . simp only [if_pos i]
        rw [if_neg f5]
        refine⟨⟨λ h=>(by cases h),λ h=> ?_⟩,λ e he=>by injection he with he; omega⟩
        have:=(h.1 x i5).2
        omega
      . simp only [if_neg i,if_true]
        have hx:Eg x:=⟨uR.1 d,e8⟩
        have hsrt:qj (x::q)↔(∀ b ∈ q.head?,x.aX < b.aX)/\qj q:=by
          unfold qj
          rw [K4]
          constructor
          . rintro ⟨h,h'⟩
            exact⟨λ b hb=>h b (List.mem_of_mem_head? hb),h'⟩
          . rintro ⟨h,h'⟩
            refine⟨λ b hb=> ?_,h'⟩
            cases q with
            | nil=>cases hb
            | cons y q=>
              have hy:=h y rfl
              rcases List.mem_cons.1 hb with rfl | hb
              . exact hy
              . exact yR hy ((K4.1 h').1 b hb)
        have hlast:(pre++ [x]).getLast?=some x:=by simp
        rw [hlast] at ih
        have hcore:(fJ l q (pre.length+1)= .inl ()↔(∀ p ∈ x::q,Eg p)/\qj (x::q)):=by
          rw [ih.1,hsrt]
          constructor
          . rintro ⟨a,b,c⟩
            exact⟨λ p hp=>by rcases List.mem_cons.1 hp with rfl | hp; exact hx; exact a p hp,b x rfl,c⟩
          . rintro ⟨a,b,c⟩
            exact⟨λ p hp=>a p (List.mem_cons_of_mem _ hp),λ a' ha'=>by cases ha'; exact b,c⟩
        by_cases g:(pre.length:Int) > 0
        . rw [if_pos g]
          have hpre:pre≠ []:=λ e=>by subst e; simp at g
          obtain⟨y,hy⟩:∃ y,pre.getLast?=some y:=⟨_,List.getLast?_eq_some_getLast hpre⟩
          have hg:List.getD l (pre.length - 1) default=y:=by
            rw [hl,List.getD_eq_getElem?_getD,u1 e8]
            rw [List.getLast?_eq_getElem?] at hy
            rw [hy]; rfl
          rw [hg]
          by_cases f:x.aX<=y.aX
          . rw [if_pos f]
            refine⟨⟨λ h=>(by cases h),λ h=> ?_⟩,λ e he=>by injection he with he; omega⟩
            exact absurd (h.2.1 y hy x rfl) (zF.2 f)
          . rw [if_neg f]
            refine⟨?_,ih.2⟩
            rw [hcore]
            have j:y.aX < x.aX:=by rcases Ef y.aX x.aX with h | h | h; exact h; exact absurd (zF.1 (h ▸ Fx _)) f; exact absurd (Er h) f
            constructor
            . rintro ⟨a,b⟩
              exact⟨a,λ a' ha' b' hb'=>by rw [hy] at ha'; cases ha'; cases hb'; exact j,b⟩
            . rintro ⟨a,_,b⟩
              exact⟨a,b⟩
        . rw [if_neg g]
          have hpre:pre= []:=List.eq_nil_of_length_eq_zero e8
          refine⟨?_,ih.2⟩
          rw [hcore,hpre]
          simp
    . rw [if_neg d]
      refine⟨⟨λ h=>(by cases h),λ h=> ?_⟩,λ e he=>by injection he with he; rw [<- he]; exact d⟩
      exact absurd (uR.2 (h.1 x i5).1) d
theorem rD {l:List aA}:gy l=0↔(∀ p ∈ l,Eg p)/\qj l:=by
  have h:=Bu l l [] rfl
  unfold gy
  simp only [List.length_nil] at h
  cases e:fJ l l 0 with
  | inl u=>
    have:=h.1.1 e
    exact⟨λ _=>⟨this.1,this.2.2⟩,λ _=>rfl⟩
  | inr r=>
    refine⟨λ a=>absurd a (h.2 r e),λ a=> ?_⟩
    have:=h.1.2 ⟨a.1,by simp,a.2⟩
    rw [e] at this
    cases this
theorem kK {k:Key}:za k↔M.K k:=Iff.rfl
theorem CP {k:Key}:k≠ []↔1<=k.length:=by cases k <;> simp
theorem EZ {r:aj}:dW r=0↔M.R r.aO r.aS:=by
  have a:=uR (k:=r.aO); have b:=uR (k:=r.aS)
  have la:=CP (k:=r.aO); have lb:=CP (k:=r.aS)
  have nn:= @zF r.aO r.aS
  unfold dW M.R
  rw [<- kK, <- kK]
  simp only [bnd]
  by_cases f:r.aO= []
  . by_cases d:r.aS= []
    . simp [f,d]
    . by_cases c:dV r.aS=0
      . have g:=M.nil_lt d
        have i: ¬ r.aS<= []:=λ q=>zF.2 q g
        simp [f,d,c,b.1 c,g,i]
      . have h3': ¬ za r.aS:=λ q=>c (b.2 q)
        simp [f,d,c,h3']
  . by_cases e:dV r.aO=0
    . by_cases d:r.aS= []
      . simp [f,d,e,a.1 e]
      . by_cases c:dV r.aS=0
        . by_cases h:r.aS<=r.aO
          . simp [f,d,c,e,h,a.1 e,b.1 c]
          . simp [f,d,c,e,h,a.1 e,b.1 c]; grind
        . have h3': ¬ za r.aS:=λ q=>c (b.2 q)
          simp [f,d,c,e,h3']
    . have h0': ¬ za r.aO:=λ q=>e (a.2 q)
      simp [f,e,h0']
theorem zG {p:aA} {k:Key}:nR p k < 0↔p.aX < k:=CO _ _
theorem Es {p:aA} {k:Key}:nR p k=0↔p.aX=k:=z8 _ _
theorem CQ {m:List aA} (hs:qj m) {i j:Nat} {a b:aA} (ha:m[i]? =some a) (hb:m[j]? =some b) (h:i < j):a.aX < b.aX:=by
  obtain⟨c,rfl⟩:=p2.1 ha
  obtain⟨d,rfl⟩:=p2.1 hb
  exact List.pairwise_iff_getElem.1 hs i j c d h
theorem yS {m:List aA} (hs:qj m) (k:Key):∀ (f i j:Nat),j - i < f->i<=j->j<=m.length->(∀ q p,m[q]? =some p->q < i->p.aX < k)->(∀ q p,m[q]? =some p->j<=q->¬ p.aX < k)->
    ∃ r,dR m k f i j=r/\r<=m.length/\(∀ q p,m[q]? =some p->q < r->p.aX < k)/\(∀ q p,m[q]? =some p->r<=q->¬ p.aX < k)
  | 0,i,j,h,_,_,_,_=>e8
  | f+1,i,j,h,hij,hj,hl,hg=>by
    unfold dR
    by_cases b:(i:Int) < (j:Int)
    . obtain⟨x,hx⟩:∃ x,m[(i+j) / 2]? =some x:=⟨_,p3 e8⟩
      rw [if_pos b,dz,dz,bz hx]
      by_cases a:nR x k < 0
      . rw [if_pos a]
        refine yS hs k f _ j e8 e8 hj (λ q p hq hlt=> ?_) hg
        rcases K5 q ((i+j) / 2) with e | e
        . exact yR (CQ hs hq hx e) (zG.1 a)
        . have:q=(i+j) / 2:=e8
          subst this
          rw [hx] at hq; cases hq
          exact zG.1 a
      . rw [if_neg a]
        refine yS hs k f i _ e8 e8 e8 hl (λ q p hq hge hlt=> ?_)
        rcases K5 ((i+j) / 2) q with e | e
        . exact a (zG.2 (yR (CQ hs hx hq e) hlt))
        . have:q=(i+j) / 2:=e8
          subst this
          rw [hx] at hq; cases hq
          exact a (zG.2 hlt)
    . rw [if_neg b]
      have:i=j:=e8
      subst this
      exact⟨i,rfl,hj,hl,hg⟩
structure Cut (m:List aA) (k:Key) (a b:List aA):Prop where
  app:m=a++b
  lo:∀ p ∈ a,p.aX < k
  hi:∀ p ∈ b, ¬ p.aX < k
theorem tH {m:List aA} (hs:qj m) (k:Key):∃ a b,Cut m k a b/\(gW m k).1=((a.length:Nat):Int)/\((gW m k).2=true↔∃ p q,b=p::q/\p.aX=k):=by
  obtain⟨r,d,i,f,g⟩:=yS hs k (m.length - 0+1) 0 m.length e8 e8 (Nat.le_refl _) (λ q p _ h=>e8) (λ q p hq h=>by have:=(p2.1 hq).1; omega)
  have hlen:(List.take r m).length=r:=by rw [List.length_take]; omega
  have e:gW m k=((r:Int),(gW m k).2)/\((gW m k).2=true↔∃ p,m[r]? =some p/\p.aX=k):=by
    unfold gW gL
    rw [dz,dz,d]
    by_cases c:(r:Int) < ((q5 m:Nat):Int)
    . obtain⟨x,hx⟩:∃ x,m[r]? =some x:=⟨_,p3 e8⟩
      rw [if_pos c,dz,dz,bz hx]
      refine⟨rfl, ?_⟩
      simp only [decide_eq_true_eq,Es,hx,Option.some.injEq,exists_eq_left']
    . rw [if_neg c]
      refine⟨rfl, ?_⟩
      have:m[r]? =none:=List.getElem?_eq_none e8
      simp [this]
  refine⟨List.take r m,r7 r m,⟨(List.take_append_drop r m).symm,λ p hp=> ?_,λ p hp=> ?_⟩, ?_, ?_⟩
  . obtain⟨j,hj⟩:=K6.1 hp
    have hjr:j < r:=by have:=(p2.1 hj).1; omega
    rw [List.getElem?_take,if_pos hjr] at hj
    exact f j p hj hjr
  . obtain⟨j,hj⟩:=K6.1 hp
    rw [m3] at hj
    exact g _ p hj e8
  . rw [e.1,hlen]
  . rw [e.2]
    constructor
    . rintro ⟨p,hp,hk⟩
      exact⟨p,r7 (r+1) m,drop_at hp,hk⟩
    . rintro ⟨p,q,hp,hk⟩
      refine⟨p, ?_,hk⟩
      have:(r7 r m)[0]? =some p:=by rw [hp]; rfl
      rwa [m3,Nat.add_zero] at this
theorem Cut.two {m:List aA} {j k:Key} {a b c d:List aA} (h:j < k) (x:Cut m j a b) (y:Cut m k c d):a.length<=c.length:=by
  rcases K5 c.length a.length with e | e
  . exfalso
    obtain⟨p,hp⟩:∃ p,a[c.length]? =some p:=⟨_,p3 e⟩
    have f:m[c.length]? =some p:=by rw [x.app,u1 e]; exact hp
    rw [y.app,List.getElem?_append_right (Nat.le_refl _),Nat.sub_self] at f
    exact y.hi p (C1 f) (yR (x.lo p (C1 hp)) h)
  . exact e
def owns (x o:aY):Prop:=(x.az=o.az)/\(x.aX=o.aX)/\(x.aN=o.aN)/\(x.aO=o.aO)/\(x.aS=o.aS)/\(x.bO=o.bO)
theorem Fy (o:aY):lV o=dW (aj.mk o.aO o.aS):=rfl
theorem Eh (o:aY):oP o=if dW (aj.mk o.aO o.aS)=0 then(if o.bO < 1 then 1 else if o.bO > 4 then 1 else 0) else dW (aj.mk o.aO o.aS):=rfl
theorem Ei (o:aY):oO o=if dV o.aX=0 then(if((q5 o.aN:Nat):Int) > 16 then 2 else 0) else dV o.aX:=rfl
theorem FO {o:aY} (h:o.az=1\/o.az=3):eQ o=if o.aN= []/\o.aO= []/\o.aS= []/\o.bO=0 then dV o.aX else 40:=by
  unfold eQ
  rcases h with h | h
  . rw [if_pos h]
    show (if _ then _ else _)=_
    simp only [oN,ni,bnd]
    congr 1
    simp [eq_comm]
  . rw [if_neg e8,if_neg e8,if_pos h]
    show (if _ then _ else _)=_
    simp only [oN,ni,bnd]
    congr 1
    simp [eq_comm]
theorem FP {o:aY} (h:o.az=2):eQ o=if o.aO= []/\o.aS= []/\o.bO=0 then oO o else 40:=by
  unfold eQ
  rw [if_neg e8,if_pos h]
  show (if _ then _ else _)=_
  simp only [su,bnd]
  congr 1
  simp [eq_comm]
theorem FQ {o:aY} (h:o.az=4):eQ o=if o.aX= []/\o.aN= [] then oP o else 40:=by
  unfold eQ
  rw [if_neg e8,if_neg e8,if_neg e8,if_pos h]
  show (if _ then _ else _)=_
  simp only [sw,bnd]
  congr 1
  simp [eq_comm]
theorem Gg {o:aY} (h:o.az=5):eQ o=if o.aX= []/\o.aN= []/\o.bO=0 then lV o else 40:=by
  unfold eQ
  rw [if_neg e8,if_neg e8,if_neg e8,if_neg e8,if_pos h]
  show (if _ then _ else _)=_
  simp only [rA,bnd]
  congr 1
  simp [eq_comm]
theorem xw {o:aY} (h:eQ o=0) (hk:o.az=4\/o.az=5):M.R o.aO o.aS:=by
  rcases hk with hk | hk
  . rw [FQ hk] at h
    by_cases a:o.aX= []/\o.aN= []
    . rw [if_pos a,Eh] at h
      by_cases b:dW (aj.mk o.aO o.aS)=0
      . exact EZ.1 b
      . rw [if_neg b] at h; exact absurd h b
    . rw [if_neg a] at h; cases h
  . rw [Gg hk] at h
    by_cases a:o.aX= []/\o.aN= []/\o.bO=0
    . rw [if_pos a,Fy] at h
      exact EZ.1 h
    . rw [if_neg a] at h; cases h
theorem wy {m:List aA} {o:aY} (hm:gy m=0) (ho:eQ o=0) (hk:o.az=4\/o.az=5):(jJ m (fD o)).1<=(jJ m (fD o)).2:=by
  have hs:=(rD.1 hm).2
  obtain⟨a,b,hc,f,_⟩:=tH hs o.aO
  unfold jJ fD
  rw [dz]
  by_cases h:o.aS= []
  . rw [if_pos h]
    show (gW m o.aO).1<=_
    rw [f,hc.app,List.length_append]
    simp only
    omega
  . rw [if_neg h,dz]
    obtain⟨c,d,e,g,_⟩:=tH hs o.aS
    show (gW m o.aO).1<=(gW m o.aS).1
    rw [f,g]
    have hlt:o.aO < o.aS:=((xw ho hk).2.resolve_left h).2
    have:=hc.two hlt e
    omega
theorem Bv {o:aY} (ho:eQ o=0) (hk:o.az=4):1<=o.bO/\o.bO<=4:=by
  rw [FQ hk] at ho
  by_cases b:o.aX= []/\o.aN= []
  . rw [if_pos b,Eh] at ho
    by_cases a:dW (aj.mk o.aO o.aS)=0
    . rw [if_pos a] at ho
      by_cases c:o.bO < 1
      . rw [if_pos c] at ho; cases ho
      . rw [if_neg c] at ho
        by_cases d:o.bO > 4
        . rw [if_pos d] at ho; cases ho
        . omega
    . rw [if_neg a] at ho; exact absurd ho a
  . rw [if_neg b] at ho; cases ho
theorem j0 {p:Prop}(h:p:=by exact wy (by assumption) (by assumption) (e8)):p:=h
end
open Int renaming toNat_natCast->K7
open List renaming getD->v1,length_append->m8,length_eq_zero_iff->K8,mem_cons->t7,sublist_append_right->K9
section
open Go.ChangeShapes
abbrev Ej:cZ:=cZ.mk false [] (Ll.mk [])
structure C3 (m:List aA) (k:Key) (a e d:List aA):Prop where
  app:m=a++(e++d)
  lo:∀ p ∈ a,p.aX < k
  mid:e= []\/∃ v,e= [aA.mk k v]
  hi:∀ p ∈ d,k < p.aX
theorem Bw {a b:List aA}:qj (a++b)↔qj a/\qj b/\∀ x ∈ a, ∀ y ∈ b,x.aX < y.aX:=List.pairwise_append
theorem xx {x:aA} {b:List aA}:qj (x::b)↔(∀ y ∈ b,x.aX < y.aX)/\qj b:=List.pairwise_cons
theorem Ca {m:List aA} (hs:qj m) (k:Key):∃ a e d,C3 m k a e d/\(gW m k).1=((a.length:Nat):Int)/\((gW m k).2=true↔e≠ []):=by
  obtain⟨a,b,hc,c,f⟩:=tH hs k
  have hb:qj b:=by rw [hc.app] at hs; exact(Bw.1 hs).2.1
  cases b with
  | nil=>exact⟨a, [], [],⟨by rw [hc.app]; rfl,hc.lo, .inl rfl,λ p hp=>by cases hp⟩,c,by rw [f]; constructor <;> intro h <;> simp at h⟩
  | cons p q=>
    by_cases hk:p.aX=k
    . refine⟨a, [p],q,⟨by rw [hc.app]; rfl,hc.lo, .inr ⟨p.aN,by rw [<- hk]⟩,λ y hy=>by rw [<- hk]; exact(xx.1 hb).1 y hy⟩,c, ?_⟩
      rw [f]
      exact⟨λ _=>by simp,λ _=>⟨p,q,rfl,hk⟩⟩
    . have hp:k < p.aX:=by
        rcases Ef k p.aX with h | h | h
        . exact h
        . exact absurd h.symm hk
        . exact absurd h (hc.hi p b3)
      refine⟨a, [],p::q,⟨by rw [hc.app]; rfl,hc.lo, .inl rfl,λ y hy=> ?_⟩,c, ?_⟩
      . rcases t7.1 hy with rfl | hy
        . exact hp
        . exact yR hp ((xx.1 hb).1 y hy)
      . rw [f]
        constructor
        . rintro ⟨p',q',e,h⟩
          cases e
          exact absurd h hk
        . intro h; exact absurd rfl h
theorem Aa {α:Type} [Inhabited α] (a:List α) (x:α) (d:List α):v1 (a++x::d) a.length default=x:=by
  rw [List.getD_eq_getElem?_getD,List.getElem?_append_right (Nat.le_refl _),Nat.sub_self]; rfl
theorem CR {α:Type} (a:List α) (x y:α) (d:List α):List.set (a++x::d) a.length y=a++y::d:=by
  induction a with
  | nil=>rfl
  | cons z a ih=>exact congrArg (z:: ·) ih
theorem yT {α:Type} (a b:List α):List.take a.length (a++b)=a:=by simp
theorem uG {α:Type} (a b:List α):List.drop a.length (a++b)=b:=by simp
theorem F4 {m a e d:List aA} {o:aY} (h:C3 m o.aX a e d) (g:(gW m o.aX).1=((a.length:Nat):Int)) (c:(gW m o.aX).2=true↔e≠ []):
    uC m o=(a++aA.mk o.aX o.aN::d,Ej):=by
  unfold uC
  rw [dz]
  generalize gW m o.aX=f at g c ⊢
  obtain⟨i,b⟩:=f
  simp only at g c
  subst g
  simp only [K7]
  rcases h.mid with he | ⟨v,he⟩
  . subst he
    have hb: ¬ b=true:=λ hb=>c.1 hb rfl
    rw [if_neg hb,dz,dz,dz]
    have j:gZ m (a.length:Int) (aA.mk o.aX [])=a++aA.mk o.aX []::d:=by
      unfold gZ
      rw [h.app,List.nil_append]
      simp only [K7]
      by_cases hl:(a.length:Int)=(((a++d).length:Nat):Int)
      . rw [if_pos hl]
        have:d= []:=K8.1 (by rw [m8] at hl; omega)
        subst this
        simp
      . rw [if_neg hl,yT,uG]
    rw [j,Aa,CR]
  . subst he
    have hb:b=true:=c.2 i5
    rw [if_pos hb,dz,dz,h.app]
    show (List.set (a++_::d) _ (aA.mk (v1 (a++_::d) _ _).aX _),_)=_
    rw [Aa,CR]
theorem F5 {m a e d:List aA} {o:aY} (h:C3 m o.aX a e d) (g:(gW m o.aX).1=((a.length:Nat):Int)) (c:(gW m o.aX).2=true↔e≠ []):
    uD m o=(a++d,Ej):=by
  unfold uD
  rw [dz]
  generalize gW m o.aX=f at g c ⊢
  obtain⟨i,b⟩:=f
  simp only at g c
  subst g
  rcases h.mid with he | ⟨v,he⟩
  . subst he
    have hb: ¬ b=true:=λ hb=>c.1 hb rfl
    rw [if_neg hb,h.app]; rfl
  . subst he
    have hb:b=true:=c.2 i5
    rw [if_pos hb,dz]
    unfold gG
    rw [if_neg e8,show (a.length:Int)+1=((a.length+1:Nat):Int) from rfl]
    simp only [K7]
    rw [h.app,yT]
    congr 2
    rw [<- List.drop_drop,uG]; rfl
theorem F6 {m a e d:List aA} {o:aY} (h:C3 m o.aX a e d) (g:(gW m o.aX).1=((a.length:Nat):Int)) (c:(gW m o.aX).2=true↔e≠ []):
    (e= []/\tq m o=(m,Ej))\/(∃ v,e= [aA.mk o.aX v]/\tq m o=(m,cZ.mk true v (Ll.mk []))):=by
  unfold tq
  rw [dz]
  generalize gW m o.aX=f at g c ⊢
  obtain⟨i,b⟩:=f
  simp only at g c
  subst g
  simp only [K7]
  rcases h.mid with he | ⟨v,he⟩
  . have hb: ¬ b=true:=λ hb=>c.1 hb he
    rw [if_neg hb]
    exact .inl ⟨he,rfl⟩
  . have hb:b=true:=c.2 (by rw [he]; simp)
    rw [if_pos hb,dz]
    refine .inr ⟨v,he, ?_⟩
    have:v1 m a.length default=aA.mk o.aX v:=by rw [h.app,he]; exact Aa _ _ _
    rw [this]
structure Mid (m:List aA) (u v:Key) (a b c:List aA):Prop where
  app:m=a++(b++c)
  lo:∀ p ∈ a,p.aX < u
  mid:∀ p ∈ b, ¬ p.aX < u/\(v= []\/p.aX < v)
  hi:∀ p ∈ c,v≠ []/\¬ p.aX < v
theorem Bz {m:List aA} {r:aj} (hs:qj m) (hr:M.R r.aO r.aS):∃ a b c,Mid m r.aO r.aS a b c/\jJ m r=(((a.length:Nat):Int),((a.length+b.length:Nat):Int)):=by
  obtain⟨a,b,hc,k,_⟩:=tH hs r.aO
  unfold jJ
  rw [dz,k]
  by_cases h:r.aS= []
  . rw [if_pos h]
    refine⟨a,b, [],⟨by rw [hc.app,List.append_nil],hc.lo,λ p hp=>⟨hc.hi p hp, .inl h⟩,λ p hp=>by cases hp⟩, ?_⟩
    rw [hc.app,m8]
  . rw [if_neg h,dz]
    obtain⟨c,d,f,l,_⟩:=tH hs r.aS
    have hlt:r.aO < r.aS:=(hr.2.resolve_left h).2
    have hl:=hc.two hlt f
    rw [l]
    obtain⟨x,hx,g⟩:∃ x,c=a++x/\b=x++d:=by
      have e:a++b=c++d:=by rw [<- hc.app, <- f.app]
      rcases List.append_eq_append_iff.1 e with ⟨x,i,j⟩ | ⟨x,i,j⟩
      . exact⟨x,i,j⟩
      . have:x= []:=K8.1 (by rw [i,m8] at hl; omega)
        subst this
        exact⟨[],by rw [i]; simp,by rw [j]; rfl⟩
    refine⟨a,x,d,⟨by rw [hc.app,g],hc.lo,λ p hp=>⟨hc.hi p (by rw [g]; exact List.mem_append_left _ hp), .inr (f.lo p (by rw [hx]; exact List.mem_append_right _ hp))⟩,λ p hp=>⟨h,f.hi p hp⟩⟩, ?_⟩
    rw [hx,m8]
theorem Fz {m a b c:List aA} {o:aY} (h:Mid m o.aO o.aS a b c) (e:jJ m (aj.mk o.aO o.aS)=(((a.length:Nat):Int),((a.length+b.length:Nat):Int))):
    sI m o=(a++c,Ej):=by
  unfold sI
  rw [dz,show fD o=aj.mk o.aO o.aS from rfl,dz,e,dz]
  unfold gG
  simp only [K7]
  by_cases hb:(a.length:Int)=((a.length+b.length:Nat):Int)
  . rw [if_pos hb]
    have:b= []:=K8.1 e8
    rw [h.app,this]; rfl
  . rw [if_neg hb,h.app,yT, <- List.drop_drop,uG,uG]
theorem FB {m a b c:List aA} {o:aY} (h:Mid m o.aO o.aS a b c) (e:jJ m (aj.mk o.aO o.aS)=(((a.length:Nat):Int),((a.length+b.length:Nat):Int))) (hm:1<=o.bO):
    sH m o=(m,cZ.mk false [] (Ll.mk (List.take o.bO.toNat b))):=by
  unfold sH
  rw [dz,show fD o=aj.mk o.aO o.aS from rfl,dz,e]
  simp only [K7]
  congr 3
  rw [h.app,uG]
  obtain⟨n,hn⟩:∃ n:Nat,o.bO=n:=⟨o.bO.toNat,e8⟩
  rw [hn,show (a.length:Int)+(n:Int)=((a.length+n:Nat):Int) from rfl]
  have d:(min ((a.length+b.length:Nat):Int) ((a.length+n:Nat):Int)).toNat - a.length=min n b.length:=e8
  rw [d,K7]
  rw [List.take_append_of_le_length (Nat.min_le_right _ _)]
  rw [List.take_eq_take_iff]; omega
theorem yU {a b:List aA} (h:a.Sublist b) (hs:qj b):qj a:=List.Pairwise.sublist h hs
theorem E5 {o:aY} (h:eQ o=0) (hk:o.az=1\/o.az=2\/o.az=3):za o.aX:=by
  rcases hk with hk | hk | hk
  . rw [FO (.inl hk)] at h
    split at h
    . exact uR.1 h
    . cases h
  . rw [FP hk] at h
    split at h
    . rw [Ei] at h
      by_cases a:dV o.aX=0
      . exact uR.1 a
      . rw [if_neg a] at h; exact absurd h a
    . cases h
  . rw [FO (.inr hk)] at h
    split at h
    . exact uR.1 h
    . cases h
theorem E8 {o:aY} (h:eQ o=0) (hk:o.az=2):o.aN.length<=16:=by
  rw [FP hk] at h
  split at h
  . rw [Ei] at h
    by_cases a:dV o.aX=0
    . rw [if_pos a] at h
      split at h
      . cases h
      . omega
    . rw [if_neg a] at h; exact absurd h a
  . cases h
theorem E9 {m:List aA} {o:aY} {r} (h:uC m o=r) (hm:gy m=0) (ho:eQ o=0) (hk:o.az=2):gy r.1=0:=by
  obtain⟨hp,hs⟩:=rD.1 hm
  obtain⟨a,e,d,b,f,g⟩:=Ca hs o.aX
  rw [<- h,F4 b f g]
  have hma:a.Sublist m:=by rw [b.app]; exact List.sublist_append_left _ _
  have hmd:d.Sublist m:=by rw [b.app]; exact(K9 e d).trans (K9 a _)
  refine rD.2 ⟨λ p c=> ?_,Bw.2 ⟨yU hma hs,xx.2 ⟨b.hi,yU hmd hs⟩,λ x hx y hy=> ?_⟩⟩
  . rcases List.mem_append.1 c with hx | hx
    . exact hp p (hma.subset hx)
    . rcases t7.1 hx with rfl | hx
      . exact⟨E5 ho (.inr (.inl hk)),E8 ho hk⟩
      . exact hp p (hmd.subset hx)
  . rcases t7.1 hy with rfl | hy
    . exact b.lo x hx
    . exact yR (b.lo x hx) (b.hi y hy)
theorem CS {m n:List aA} (h:n.Sublist m) (hm:gy m=0):gy n=0:=
  rD.2 ⟨λ p hp=>(rD.1 hm).1 p (h.subset hp),yU h (rD.1 hm).2⟩
theorem Fa {m:List aA} {o:aY} {r} (h:uD m o=r) (hm:gy m=0):gy r.1=0:=by
  obtain⟨a,e,d,b,c,f⟩:=Ca (rD.1 hm).2 o.aX
  rw [<- h,F5 b c f]
  refine CS ?_ hm
  rw [b.app]
  exact(List.Sublist.refl a).append (K9 e d)
theorem Fb {m:List aA} {o:aY} {r} (h:tq m o=r) (hm:gy m=0):gy r.1=0:=by
  obtain⟨a,e,d,c,f,g⟩:=Ca (rD.1 hm).2 o.aX
  rcases F6 c f g with ⟨_,b⟩ | ⟨v,_,b⟩ <;> rw [<- h,b] <;> exact hm
theorem Et {m:List aA} {o:aY} {r} (h:sH m o=r) (hm:gy m=0) (ho:eQ o=0) (hk:o.az=4):gy r.1=0:=by
  obtain⟨a,b,c,d,e⟩:=Bz (r:=aj.mk o.aO o.aS) (rD.1 hm).2 (xw ho (.inl hk))
  rw [<- h,FB d e (Bv ho hk).1]; exact hm
theorem Eu {m:List aA} {o:aY} {r} (h:sI m o=r) (hm:gy m=0) (ho:eQ o=0) (hk:o.az=5):gy r.1=0:=by
  obtain⟨a,b,c,d,e⟩:=Bz (r:=aj.mk o.aO o.aS) (rD.1 hm).2 (xw ho (.inr hk))
  rw [<- h,Fz d e]
  refine CS ?_ hm
  rw [d.app]
  exact(List.Sublist.refl a).append (K9 b c)
end
open IntKind renaming i64->v7
open List renaming flatMap->q0,flatMap_append->t2,length_cons->q6,length_nil->H2,toArray->u3
open Sv renaming mk->L3
open _root_.Go.Proofs.Tryz renaming call67->B7,isAgg68->B3,isAgg70->I2,isAgg96->L0,sizeOf149->y4,sizeOf68->y6,sizeOf70->I0,underlying45->E4
open WL renaming nil->v8
section
open Go.RowKit
def gz:List aY->List aA->List cZ->(List aA) × (List cZ)
  | [],b,c=>(b,c)
  | a::d,b,c=>if a.az=1 then bnd (tq b a) λ e=>gz d e.1 (c++ [e.2]) else if a.az=2 then bnd (uC b a) λ f=>gz d f.1 (c++ [f.2]) else if a.az=3 then bnd (uD b a) λ g=>gz d g.1 (c++ [g.2]) else if a.az=4 then bnd (sH b a) λ h=>gz d h.1 (c++ [h.2]) else bnd (sI b a) λ i=>gz d i.1 (c++ [i.2])
def tJ (c:List aA) (l1:List aY):(List aA) × (List cZ) × Int:=
 bnd (gy c) λ a=>if a=0 then bnd (jW l1) λ b=>if b=0 then bnd (gz l1 c []) λ sLrbtbtL=>(sLrbtbtL.1,sLrbtbtL.2,0) else(([]:List aA),([]:List cZ),b) else(([]:List aA),([]:List cZ),a)
theorem AV (w D A0 n0 c0 I A1 n1 c1 l1 r0 r1 r2) (H:Own w D w []) (dU:Ro w D λ w'=>bM w' 2 A0 n0 (q0 aA.cells I)) (jg:n0=I.length) (mJ:I.length *32<=211106232532992) (aV:Ro w D λ w'=>bM w' 6 A1 n1 (q0 aY.cells l1)) (jh:n1=l1.length) (mK:l1.length *80<=211106232532992) (mM:(I.length+l1.length) *32<=211106232532992) (hr:tJ I l1=(r0,r1,r2)):
    Calls Tryz.prog 177 #[.slice A0 n0 c0, .slice A1 n1 c1] w (dG λ v w'=> ∃ B0 b0 B1 b1 e1,v= .tuple #[.slice B0 r0.length b0, .slice B1 r1.length b1,vI r2]/\Own w D w' [row B0 r0.length b0 (q0 aA.cells r0) 101 2,row B1 r1.length b1 (q0 aP.cells e1) 70 3,sepL (q0 G8 e1)]/\(List.map aP.abs e1=r1)/\(r0.length<=I.length+l1.length)/\(r1.length<=l1.length)):=by
 subst jg jh
 refine cb Tryz.func177 ?_
 refine sr (Az rfl (Az rfl (An rfl (Gp (sr (Mz rfl ?_))))))
 obtain⟨aj,N⟩:∃ q,gy I=q:=⟨_,rfl⟩
 obtain⟨mO,dV,dW,dX,kK⟩:=Gr H
 refine cl Tryz.call215 (yN _ _ A0 I.length c0 I aj dV (dW _ dU) rfl e8 N) ?_
 rintro _ bQ ⟨rfl,dY⟩
 have dZ:=dX _ _ dY
 refine Ar rfl (Mz rfl (fw (.bool (decide (¬ (aj=0)))) (GN (e:= !(decide (aj=0))) yk decide_not.symm) (nt ?_)))
 by_cases ak:aj=0
 refine jF (dF (Ko ak)) (sk (Gp (sr (Mz rfl ?_))))
 obtain⟨au,O⟩:∃ q,jW l1=q:=⟨_,rfl⟩
 obtain⟨mP,d9,ed,ek,kL⟩:=Gr dZ
 refine cl Tryz.call66 (qD _ _ A1 l1.length c1 l1 au d9 (ed _ aV) rfl e8 O) ?_
 rintro _ bR ⟨rfl,eu⟩
 have eB:=ek _ _ eu
 refine Ar rfl (Mz rfl (fw (.bool (decide (¬ (au=0)))) (GN (e:= !(decide (au=0))) yk decide_not.symm) (nt ?_)))
 by_cases aX:au=0
 refine jF (dF (Ko aX)) (sk (sr (Mz rfl ?_)))
 obtain⟨mQ,eD,eF,eG,kM⟩:=Gr eB
 refine cl Tryz.call165 (mf _ _ A0 I.length c0 I I eD (eF _ dU) rfl e8 rfl) ?_
 rintro _ eH ⟨bS,bT,rfl,eO⟩
 have eU:=eG _ _ eO
 have kN:=eU.rowC (i:=0) rfl
 refine Ar rfl (An rfl (Gp (sr (Mz rfl (Kz (vJ l1.length) (Mn rfl (bo ?_)))))))
 have jk:Own w D eH [sepL (q0 G8 []),row bS I.length bT (q0 aA.cells I) 101 2]:=eU.sepNil
 have jl:Own w D eH [row none 0 0 (q0 aP.cells []) 70 3,sepL (q0 G8 []),row bS I.length bT (q0 aA.cells I) 101 2]:=jk.free (bX 70 3)
 have jm:=jl.pf [2]
 obtain⟨jo,J⟩:=FL λ L (M:Nat) n aZ (bf:Nat) p h (j:Nat) w'=>Own w D w' [row L n.length M (q0 aA.cells n) 101 2,row aZ h.length bf (q0 aP.cells p) 70 3,sepL (q0 G8 p)]/\List.map aP.abs p=h/\j<=l1.length/\n.length<=I.length+j/\h.length=j/\h.length<=j/\gy n=0/\gz l1 I []=gz (List.drop j l1) n h
 refine Wp.loop (λ i:(Option Addr) × Nat × (List aA) × (Option Addr) × Nat × (List aP) × (List cZ) × Nat=> [(0, .slice i.1 i.2.2.1.length i.2.1),(9, .slice i.2.2.2.1 i.2.2.2.2.2.2.1.length i.2.2.2.2.1),(29,vJ i.2.2.2.2.2.2.2),(28,vJ l1.length),(27, .slice A1 l1.length c1),(6,vI 0),(5, .slice none 0 0),(4, .slice none 0 0)]) jo (λ i=>l1.length - i.2.2.2.2.2.2.2) (bS,bT,I,none,0, [], [],0) ⟨rfl,rfl,rfl,rfl,rfl,rfl,rfl,rfl,trivial⟩ (J.2 ⟨jm,(show List.map aP.abs []=[]/\0<=l1.length/\I.length<=I.length/\0=0/\0<=0/\gy I=0/\gz l1 I []=gz (List.drop 0 l1) I [] from ⟨by exact rfl,e8,e8,e8,e8,by rw [N]; omega,rfl⟩)⟩) ?_
 rintro ⟨L,M,n,aZ,bf,p,h,j⟩ mR eX
 show Wp _ _ _ [(0, .slice L n.length M),(9, .slice aZ h.length bf),(29,vJ j),(28,vJ l1.length),(27, .slice A1 l1.length c1),(6,vI 0),(5, .slice none 0 0),(4, .slice none 0 0)] _ _
 obtain⟨av,r,kP,kQ,kR,kS,kT,K⟩:=J.1 eX
 have kU:=aW r
 refine sr (Kz (.bool (decide ((j:Int) < (l1.length:Int)))) (nt (Gp ?_)))
 by_cases eY:(j:Int) < (l1.length:Int)
 obtain⟨o,W⟩:=dI (ls:=l1) (i:=j) aY.len f5 (av.ro aV) f2
 have kV:=Bt (l:=l1) (by rw [O]; omega) W
 have kW:eQ o=0:=wW (l:=l1) (by rw [O]; omega) _ (List.mem_of_getElem? W)
 have P:=drop_at W
 refine jT (dT eY) (sk (Gp (bo (sr (fw (.pointer (some ⟨ab A1,ao A1+j *6,none⟩)) (GI (nD) rfl rfl ((av.ro aV).addr (i:=j) e8) e8) (fw (.agg (aY.cells o).toArray) (GH rfl (GJ (cs:=(aY.cells o)) B3 y6 ((av.ro aV).elem aY.len W f5))) ?_))))))
 refine bW [vI 0, .string ⟨u3 []⟩, .string ⟨u3 []⟩, .string ⟨u3 []⟩, .string ⟨u3 []⟩,vI 0] 68 av ?_
 intro jq mU jr
 refine bY (aY.cells o) 0 jr y6 ?_
 intro mV ah
 refine ns (Kz (vP jq 0) (Lz (vI o.az) ah 0 Tryz.isAgg3 ?_))
 by_cases ai:o.az=1
 obtain⟨mW,eZ,kX,fe,kY⟩:=Gr ah
 refine cl B7 (nE _ _ o.az eZ (of_decide_eq_true (dT ai))) ?_
 rintro _ mX ⟨rfl,fo⟩
 have jv:=fe _ _ fo
 refine Mz rfl (Kz (.agg #[.bool false, .func (.func 99) #[] #[], .func (.func 100) #[] #[], .func (.func 101) #[] #[], .func (.func 102) #[] #[]]) (Kz (.bool true) ?_))
 refine bW [.bool false, .nilFunc, .nilFunc, .nilFunc, .nilFunc] 149 jv ?_
 intro fq kZ fu
 refine bY [.bool false, .func (.func 99) #[] #[], .func (.func 100) #[] #[], .func (.func 101) #[] #[], .func (.func 102) #[] #[]] 0 fu y4 ?_
 intro lc fA
 refine Ar rfl ?_
 refine bW [.bool false, .string ⟨u3 []⟩, .slice none 0 0] 70 fA ?_
 intro lg lh ax
 refine ns (Kz (vP fq 4) (Lz (.func (.func 102) #[] #[]) ax 1 L0 (Mz rfl (La (aY.cells o) ax 2 B3 y6 ?_))))
 have fB:=ax.pf [3]
 obtain⟨⟨X,a⟩,R⟩:∃ q:(List aA) × cZ,tq n o=q:=⟨_,rfl⟩
 obtain⟨ll,bU,jw,bV,jA⟩:=G9 fB
 refine WL.do rfl (Hg Tryz.call102 rfl rfl (CG _ _ L n.length M n o X a bU rfl e8 e8 R) ?_)
 rintro _ lm ⟨bg,bi,t,u,rfl,bZ,ay⟩
 have az:=bV _ _ bZ
 have jB:=az.rowC (i:=0) rfl
 have jC:=az.rowC (i:=1) rfl
 replace ay:X.length<=n.length+1:=ay
 refine Mz rfl (Kz (.slice bg X.length bi) (Kz (.agg #[.bool a.dO, .string ⟨u3 a.aN⟩, .slice t a.bq.ls.length u]) (Az rfl ?_)))
 have fC:=az.pf [2]
 refine bY [.bool a.dO, .string ⟨u3 a.aN⟩, .slice t a.bq.ls.length u] 0 fC I0 ?_
 intro lq bn
 refine nt (Gq (Mz rfl (La ([.bool a.dO, .string ⟨u3 a.aN⟩, .slice t a.bq.ls.length u]) bn 0 I2 I0 ?_)))
 refine jE [.bool a.dO, .string ⟨u3 a.aN⟩, .slice t a.bq.ls.length u] 70 3 1 bn ?_
 intro fD lu aB
 replace aB:=Ha (y:=row fD 1 1 (q0 aP.cells ([(aP.mk a.dO a.aN (L3 t u a.bq.ls))])) 70 3) rfl aB
 have bq:=aB.pf [6,7,3]
 refine WL.do rfl (GZ (k:=h.length) (m:=1) (ui) bq rfl rfl (eT E4 (bq.rds (i:=3) rfl) (cB aP.one ([(aP.mk a.dO a.aN (L3 t u a.bq.ls))]))) rfl e8 (s:=q5 (h++ [a])) f4 (t2).symm ?_)
 intro fE fF fG fH
 have fI:=fH.pf [1,2]
 have fJ:Own w D fG (sepL (q0 G8 (p++ [(aP.mk a.dO a.aN (L3 t u a.bq.ls))]))::_):=fI.sepAdd (L2:= [row t a.bq.ls.length u (q0 aA.cells a.bq.ls) 101 2]) (t2 (f:=G8) (xs:=p) (ys:= [(aP.mk a.dO a.aN (L3 t u a.bq.ls))])).symm
 have jD:q5 (h++ [a])=h.length+1:=by simp only [m8,q6,H2]
 have jG:=aW (jy (es:= [(aP.mk a.dO a.aN (L3 t u a.bq.ls))]) (ms:= [a]) r rfl)
 refine Az rfl (v8 (bN (Gs (Gq (fw (vJ (j+1)) (Gw (e:=v7.wrap ((j:Int)+1)) yk f1) (Mz rfl (v8 ?_)))))))
 have fK:=fJ.pk [4,1,0]
 exact GL (bg,bi,X,fE,fF,(p++ [(aP.mk a.dO a.aN (L3 t u a.bq.ls))]),(h++ [a]),j+1) ⟨rfl,rfl,rfl,rfl,rfl,rfl,rfl,rfl,trivial⟩ (J.2 ⟨fK,by exact(jy (es:= [(aP.mk a.dO a.aN (L3 t u a.bq.ls))]) (ms:= [a]) r rfl),e8,e8,e8,e8,by exact Fb R f6,et (K) (et (congrArg (λ q=>gz q n h) P) (et (ip ai) (ae R)))⟩) (by show l1.length - (j+1) < l1.length - j; omega)
 by_cases Q:o.az=2
 obtain⟨lv,cu,jH,cz,jI⟩:=Gr ah
 refine cl B7 (nG _ _ o.az cu (of_decide_eq_true (dT Q))) ?_
 rintro _ lw ⟨rfl,cK⟩
 have fM:=cz _ _ cK
 refine Mz rfl (Kz (.agg #[.bool true, .func (.func 103) #[] #[], .func (.func 104) #[] #[], .func (.func 101) #[] #[], .func (.func 105) #[] #[]]) (Kz (.bool true) ?_))
 refine bW [.bool false, .nilFunc, .nilFunc, .nilFunc, .nilFunc] 149 fM ?_
 intro fO lC fP
 refine bY [.bool true, .func (.func 103) #[] #[], .func (.func 104) #[] #[], .func (.func 101) #[] #[], .func (.func 105) #[] #[]] 0 fP y4 ?_
 intro lD fQ
 refine Ar rfl ?_
 refine bW [.bool false, .string ⟨u3 []⟩, .slice none 0 0] 70 fQ ?_
 intro lF lG aC
 refine ns (Kz (vP fO 4) (Lz (.func (.func 105) #[] #[]) aC 1 L0 (Mz rfl (La (aY.cells o) aC 2 B3 y6 ?_))))
 have fT:=aC.pf [3]
 obtain⟨⟨Y,b⟩,S⟩:∃ q:(List aA) × cZ,uC n o=q:=⟨_,rfl⟩
 obtain⟨lH,cO,jJ,df,jK⟩:=G9 fT
 refine WL.do rfl (Hg Tryz.call105 rfl rfl (CJ _ _ L n.length M n o Y b cO rfl e8 e8 S) ?_)
 rintro _ lI ⟨bu,bv,x,z,rfl,dh,aD⟩
 have aF:=df _ _ dh
 have jL:=aF.rowC (i:=0) rfl
 have jM:=aF.rowC (i:=1) rfl
 replace aD:Y.length<=n.length+1:=aD
 refine Mz rfl (Kz (.slice bu Y.length bv) (Kz (.agg #[.bool b.dO, .string ⟨u3 b.aN⟩, .slice x b.bq.ls.length z]) (Az rfl ?_)))
 have fU:=aF.pf [2]
 refine bY [.bool b.dO, .string ⟨u3 b.aN⟩, .slice x b.bq.ls.length z] 0 fU I0 ?_
 intro lJ bz
 refine nt (Gq (Mz rfl (La ([.bool b.dO, .string ⟨u3 b.aN⟩, .slice x b.bq.ls.length z]) bz 0 I2 I0 ?_)))
 refine jE [.bool b.dO, .string ⟨u3 b.aN⟩, .slice x b.bq.ls.length z] 70 3 1 bz ?_
 intro fV lK aG
 replace aG:=Ha (y:=row fV 1 1 (q0 aP.cells ([(aP.mk b.dO b.aN (L3 x z b.bq.ls))])) 70 3) rfl aG
 have bA:=aG.pf [6,7,3]
 refine WL.do rfl (GZ (k:=h.length) (m:=1) (ui) bA rfl rfl (eT E4 (bA.rds (i:=3) rfl) (cB aP.one ([(aP.mk b.dO b.aN (L3 x z b.bq.ls))]))) rfl e8 (s:=q5 (h++ [b])) f4 (t2).symm ?_)
 intro fZ gm gp gq
 have gu:=gq.pf [1,2]
 have gB:Own w D gp (sepL (q0 G8 (p++ [(aP.mk b.dO b.aN (L3 x z b.bq.ls))]))::_):=gu.sepAdd (L2:= [row x b.bq.ls.length z (q0 aA.cells b.bq.ls) 101 2]) (t2 (f:=G8) (xs:=p) (ys:= [(aP.mk b.dO b.aN (L3 x z b.bq.ls))])).symm
 have jN:q5 (h++ [b])=h.length+1:=by simp only [m8,q6,H2]
 have jO:=aW (jy (es:= [(aP.mk b.dO b.aN (L3 x z b.bq.ls))]) (ms:= [b]) r rfl)
 refine Az rfl (v8 (bN (Gs (Gq (fw (vJ (j+1)) (Gw (e:=v7.wrap ((j:Int)+1)) yk f1) (Mz rfl (v8 ?_)))))))
 have gD:=gB.pk [4,1,0]
 exact GL (bu,bv,Y,fZ,gm,(p++ [(aP.mk b.dO b.aN (L3 x z b.bq.ls))]),(h++ [b]),j+1) ⟨rfl,rfl,rfl,rfl,rfl,rfl,rfl,rfl,trivial⟩ (J.2 ⟨gD,by exact(jy (es:= [(aP.mk b.dO b.aN (L3 x z b.bq.ls))]) (ms:= [b]) r rfl),e8,e8,e8,e8,by exact E9 S f6 f6 e8,et (K) (et (congrArg (λ q=>gz q n h) P) (et (iN ai) (et (ip Q) (ae S))))⟩) (by show l1.length - (j+1) < l1.length - j; omega)
 by_cases Z:o.az=3
 obtain⟨lL,di,jP,dm,jQ⟩:=Gr ah
 refine cl B7 (nH _ _ o.az di (of_decide_eq_true (dT Z))) ?_
 rintro _ lM ⟨rfl,dn⟩
 have gF:=dm _ _ dn
 refine Mz rfl (Kz (.agg #[.bool true, .func (.func 99) #[] #[], .func (.func 100) #[] #[], .func (.func 101) #[] #[], .func (.func 106) #[] #[]]) (Kz (.bool true) ?_))
 refine bW [.bool false, .nilFunc, .nilFunc, .nilFunc, .nilFunc] 149 gF ?_
 intro gG lN gH
 refine bY [.bool true, .func (.func 99) #[] #[], .func (.func 100) #[] #[], .func (.func 101) #[] #[], .func (.func 106) #[] #[]] 0 gH y4 ?_
 intro lQ gI
 refine Ar rfl ?_
 refine bW [.bool false, .string ⟨u3 []⟩, .slice none 0 0] 70 gI ?_
 intro lS lT aH
 refine ns (Kz (vP gG 4) (Lz (.func (.func 106) #[] #[]) aH 1 L0 (Mz rfl (La (aY.cells o) aH 2 B3 y6 ?_))))
 have gJ:=aH.pf [3]
 obtain⟨⟨aa,c⟩,T⟩:∃ q:(List aA) × cZ,uD n o=q:=⟨_,rfl⟩
 obtain⟨lU,dw,jR,dx,jS⟩:=G9 gJ
 refine WL.do rfl (Hg Tryz.call106 rfl rfl (CK _ _ L n.length M n o aa c dw rfl e8 e8 T) ?_)
 rintro _ lV ⟨bB,bC,A,B,rfl,dz,aI⟩
 have aJ:=dx _ _ dz
 have jU:=aJ.rowC (i:=0) rfl
 have jV:=aJ.rowC (i:=1) rfl
 replace aI:aa.length<=n.length+1:=aI
 refine Mz rfl (Kz (.slice bB aa.length bC) (Kz (.agg #[.bool c.dO, .string ⟨u3 c.aN⟩, .slice A c.bq.ls.length B]) (Az rfl ?_)))
 have gK:=aJ.pf [2]
 refine bY [.bool c.dO, .string ⟨u3 c.aN⟩, .slice A c.bq.ls.length B] 0 gK I0 ?_
 intro lW bD
 refine nt (Gq (Mz rfl (La ([.bool c.dO, .string ⟨u3 c.aN⟩, .slice A c.bq.ls.length B]) bD 0 I2 I0 ?_)))
 refine jE [.bool c.dO, .string ⟨u3 c.aN⟩, .slice A c.bq.ls.length B] 70 3 1 bD ?_
 intro gL lX aK
 replace aK:=Ha (y:=row gL 1 1 (q0 aP.cells ([(aP.mk c.dO c.aN (L3 A B c.bq.ls))])) 70 3) rfl aK
 have bE:=aK.pf [6,7,3]
 refine WL.do rfl (GZ (k:=h.length) (m:=1) (ui) bE rfl rfl (eT E4 (bE.rds (i:=3) rfl) (cB aP.one ([(aP.mk c.dO c.aN (L3 A B c.bq.ls))]))) rfl e8 (s:=q5 (h++ [c])) f4 (t2).symm ?_)
 intro gM gN gP gQ
 have gT:=gQ.pf [1,2]
 have gU:Own w D gP (sepL (q0 G8 (p++ [(aP.mk c.dO c.aN (L3 A B c.bq.ls))]))::_):=gT.sepAdd (L2:= [row A c.bq.ls.length B (q0 aA.cells c.bq.ls) 101 2]) (t2 (f:=G8) (xs:=p) (ys:= [(aP.mk c.dO c.aN (L3 A B c.bq.ls))])).symm
 have jX:q5 (h++ [c])=h.length+1:=by simp only [m8,q6,H2]
 have jY:=aW (jy (es:= [(aP.mk c.dO c.aN (L3 A B c.bq.ls))]) (ms:= [c]) r rfl)
 refine Az rfl (v8 (bN (Gs (Gq (fw (vJ (j+1)) (Gw (e:=v7.wrap ((j:Int)+1)) yk f1) (Mz rfl (v8 ?_)))))))
 have gV:=gU.pk [4,1,0]
 exact GL (bB,bC,aa,gM,gN,(p++ [(aP.mk c.dO c.aN (L3 A B c.bq.ls))]),(h++ [c]),j+1) ⟨rfl,rfl,rfl,rfl,rfl,rfl,rfl,rfl,trivial⟩ (J.2 ⟨gV,by exact(jy (es:= [(aP.mk c.dO c.aN (L3 A B c.bq.ls))]) (ms:= [c]) r rfl),e8,e8,e8,e8,by exact Fa T f6,et (K) (et (congrArg (λ q=>gz q n h) P) (et (iN ai) (et (iN Q) (et (ip Z) (ae T)))))⟩) (by show l1.length - (j+1) < l1.length - j; omega)
 by_cases aL:o.az=4
 obtain⟨lY,dA,jZ,dB,j3⟩:=Gr ah
 refine cl B7 (nI _ _ o.az dA (of_decide_eq_true (dT aL))) ?_
 rintro _ lZ ⟨rfl,dC⟩
 have gW:=dB _ _ dC
 refine Mz rfl (Kz (.agg #[.bool false, .func (.func 107) #[] #[], .func (.func 108) #[] #[], .func (.func 109) #[] #[], .func (.func 110) #[] #[]]) (Kz (.bool true) ?_))
 refine bW [.bool false, .nilFunc, .nilFunc, .nilFunc, .nilFunc] 149 gW ?_
 intro gX l5 gY
 refine bY [.bool false, .func (.func 107) #[] #[], .func (.func 108) #[] #[], .func (.func 109) #[] #[], .func (.func 110) #[] #[]] 0 gY y4 ?_
 intro l6 gZ
 refine Ar rfl ?_
 refine bW [.bool false, .string ⟨u3 []⟩, .slice none 0 0] 70 gZ ?_
 intro l7 l8 aM
 refine ns (Kz (vP gX 4) (Lz (.func (.func 110) #[] #[]) aM 1 L0 (Mz rfl (La (aY.cells o) aM 2 B3 y6 ?_))))
 have ib:=aM.pf [3]
 obtain⟨⟨af,d⟩,U⟩:∃ q:(List aA) × cZ,sH n o=q:=⟨_,rfl⟩
 obtain⟨l9,dD,j4,dE,j5⟩:=G9 ib
 refine WL.do rfl (Hg Tryz.call110 rfl rfl (BU _ _ L n.length M n o af d dD rfl e8 e8 j0 (by exact Bv f6 e8) U) ?_)
 rintro _ ma ⟨bF,bG,C,E,rfl,dH,aN⟩
 have aO:=dE _ _ dH
 have j6:=aO.rowC (i:=0) rfl
 have kg:=aO.rowC (i:=1) rfl
 replace aN:af.length<=n.length+1:=aN
 refine Mz rfl (Kz (.slice bF af.length bG) (Kz (.agg #[.bool d.dO, .string ⟨u3 d.aN⟩, .slice C d.bq.ls.length E]) (Az rfl ?_)))
 have ic:=aO.pf [2]
 refine bY [.bool d.dO, .string ⟨u3 d.aN⟩, .slice C d.bq.ls.length E] 0 ic I0 ?_
 intro mg bH
 refine nt (Gq (Mz rfl (La ([.bool d.dO, .string ⟨u3 d.aN⟩, .slice C d.bq.ls.length E]) bH 0 I2 I0 ?_)))
 refine jE [.bool d.dO, .string ⟨u3 d.aN⟩, .slice C d.bq.ls.length E] 70 3 1 bH ?_
 intro ig mh aQ
 replace aQ:=Ha (y:=row ig 1 1 (q0 aP.cells ([(aP.mk d.dO d.aN (L3 C E d.bq.ls))])) 70 3) rfl aQ
 have bI:=aQ.pf [6,7,3]
 refine WL.do rfl (GZ (k:=h.length) (m:=1) (ui) bI rfl rfl (eT E4 (bI.rds (i:=3) rfl) (cB aP.one ([(aP.mk d.dO d.aN (L3 C E d.bq.ls))]))) rfl e8 (s:=q5 (h++ [d])) f4 (t2).symm ?_)
 intro ik il iq iw
 have iy:=iw.pf [1,2]
 have iA:Own w D iq (sepL (q0 G8 (p++ [(aP.mk d.dO d.aN (L3 C E d.bq.ls))]))::_):=iy.sepAdd (L2:= [row C d.bq.ls.length E (q0 aA.cells d.bq.ls) 101 2]) (t2 (f:=G8) (xs:=p) (ys:= [(aP.mk d.dO d.aN (L3 C E d.bq.ls))])).symm
 have ko:q5 (h++ [d])=h.length+1:=by simp only [m8,q6,H2]
 have kr:=aW (jy (es:= [(aP.mk d.dO d.aN (L3 C E d.bq.ls))]) (ms:= [d]) r rfl)
 refine Az rfl (v8 (bN (Gs (Gq (fw (vJ (j+1)) (Gw (e:=v7.wrap ((j:Int)+1)) yk f1) (Mz rfl (v8 ?_)))))))
 have iB:=iA.pk [4,1,0]
 exact GL (bF,bG,af,ik,il,(p++ [(aP.mk d.dO d.aN (L3 C E d.bq.ls))]),(h++ [d]),j+1) ⟨rfl,rfl,rfl,rfl,rfl,rfl,rfl,rfl,trivial⟩ (J.2 ⟨iB,by exact(jy (es:= [(aP.mk d.dO d.aN (L3 C E d.bq.ls))]) (ms:= [d]) r rfl),e8,e8,e8,e8,by exact Et U f6 f6 e8,et (K) (et (congrArg (λ q=>gz q n h) P) (et (iN ai) (et (iN Q) (et (iN Z) (et (ip aL) (ae U))))))⟩) (by show l1.length - (j+1) < l1.length - j; omega)
 have dJ:(decide (o.az=5))=true:=(dT e8)
 obtain⟨mi,dK,ku,dL,kv⟩:=Gr ah
 refine cl B7 (nJ _ _ o.az dK (of_decide_eq_true dJ)) ?_
 rintro _ mo ⟨rfl,dM⟩
 have iC:=dL _ _ dM
 refine Mz rfl (Kz (.agg #[.bool true, .func (.func 111) #[] #[], .func (.func 112) #[] #[], .func (.func 109) #[] #[], .func (.func 113) #[] #[]]) (Kz (.bool true) ?_))
 refine bW [.bool false, .nilFunc, .nilFunc, .nilFunc, .nilFunc] 149 iC ?_
 intro iD mq iE
 refine bY [.bool true, .func (.func 111) #[] #[], .func (.func 112) #[] #[], .func (.func 109) #[] #[], .func (.func 113) #[] #[]] 0 iE y4 ?_
 intro mr iF
 refine Ar rfl ?_
 refine bW [.bool false, .string ⟨u3 []⟩, .slice none 0 0] 70 iF ?_
 intro mD mE aR
 refine ns (Kz (vP iD 4) (Lz (.func (.func 113) #[] #[]) aR 1 L0 (Mz rfl (La (aY.cells o) aR 2 B3 y6 ?_))))
 have iG:=aR.pf [3]
 obtain⟨⟨ag,g⟩,V⟩:∃ q:(List aA) × cZ,sI n o=q:=⟨_,rfl⟩
 obtain⟨mF,dN,kw,dO,ky⟩:=G9 iG
 refine WL.do rfl (Hg Tryz.call113 rfl rfl (BV _ _ L n.length M n o ag g dN rfl e8 e8 j0 V) ?_)
 rintro _ mG ⟨bJ,bK,F,G,rfl,dP,aS⟩
 have aT:=dO _ _ dP
 have kz:=aT.rowC (i:=0) rfl
 have kC:=aT.rowC (i:=1) rfl
 replace aS:ag.length<=n.length+1:=aS
 refine Mz rfl (Kz (.slice bJ ag.length bK) (Kz (.agg #[.bool g.dO, .string ⟨u3 g.aN⟩, .slice F g.bq.ls.length G]) (Az rfl ?_)))
 have iH:=aT.pf [2]
 refine bY [.bool g.dO, .string ⟨u3 g.aN⟩, .slice F g.bq.ls.length G] 0 iH I0 ?_
 intro mH bL
 refine nt (Gq (Mz rfl (La ([.bool g.dO, .string ⟨u3 g.aN⟩, .slice F g.bq.ls.length G]) bL 0 I2 I0 ?_)))
 refine jE [.bool g.dO, .string ⟨u3 g.aN⟩, .slice F g.bq.ls.length G] 70 3 1 bL ?_
 intro iI mI aU
 replace aU:=Ha (y:=row iI 1 1 (q0 aP.cells ([(aP.mk g.dO g.aN (L3 F G g.bq.ls))])) 70 3) rfl aU
 have bO:=aU.pf [6,7,3]
 refine WL.do rfl (GZ (k:=h.length) (m:=1) (ui) bO rfl rfl (eT E4 (bO.rds (i:=3) rfl) (cB aP.one ([(aP.mk g.dO g.aN (L3 F G g.bq.ls))]))) rfl e8 (s:=q5 (h++ [g])) f4 (t2).symm ?_)
 intro iJ iK iL iM
 have iO:=iM.pf [1,2]
 have iP:Own w D iL (sepL (q0 G8 (p++ [(aP.mk g.dO g.aN (L3 F G g.bq.ls))]))::_):=iO.sepAdd (L2:= [row F g.bq.ls.length G (q0 aA.cells g.bq.ls) 101 2]) (t2 (f:=G8) (xs:=p) (ys:= [(aP.mk g.dO g.aN (L3 F G g.bq.ls))])).symm
 have kD:q5 (h++ [g])=h.length+1:=by simp only [m8,q6,H2]
 have kE:=aW (jy (es:= [(aP.mk g.dO g.aN (L3 F G g.bq.ls))]) (ms:= [g]) r rfl)
 refine Az rfl (v8 (bN (Gs (Gq (fw (vJ (j+1)) (Gw (e:=v7.wrap ((j:Int)+1)) yk f1) (Mz rfl (v8 ?_)))))))
 have iQ:=iP.pk [4,1,0]
 exact GL (bJ,bK,ag,iJ,iK,(p++ [(aP.mk g.dO g.aN (L3 F G g.bq.ls))]),(h++ [g]),j+1) ⟨rfl,rfl,rfl,rfl,rfl,rfl,rfl,rfl,trivial⟩ (J.2 ⟨iQ,by exact(jy (es:= [(aP.mk g.dO g.aN (L3 F G g.bq.ls))]) (ms:= [g]) r rfl),e8,e8,e8,e8,by exact Eu V f6 f6 e8,et (K) (et (congrArg (λ q=>gz q n h) P) (et (iN ai) (et (iN Q) (et (iN Z) (et (iN aL) (ae V))))))⟩) (by show l1.length - (j+1) < l1.length - j; omega)
 refine jF (dF eY) (Wp.exit (GK ?_))
 have dQ:gz l1 I []=(n,h):=et (K) (et (congrArg (λ q=>gz q n h) (eP (ls:=l1) (i:=j) e8)) rfl)
 refine GK (GR (Gs (sr (Mz rfl (Mz rfl (Az rfl (Az rfl (An rfl (rt (GM (xc rfl rfl rfl rfl) ?_))))))))))
 have iR:=av.pf []
 obtain⟨rfl,rfl,rfl⟩:=xU (zj hr (show _=(n,h,0) from et (ae N) (et (ip ak) (et (ae O) (et (ip aX) (ae dQ))))))
 exact⟨L,M,aZ,bf,p,rfl,iR,r,i1,i1⟩
 refine jT (dT aX) (sr (Mz rfl (Az rfl (Az rfl (An rfl (rt (tR (GM (xc rfl rfl rfl rfl) ?_))))))))
 have iT:Own w D bR [row none 0 0 (q0 aA.cells []) 101 2]:=eB.free (bX 101 2)
 have iU:Own w D bR [sepL (q0 G8 []),row none 0 0 (q0 aA.cells []) 101 2]:=iT.sepNil
 have iV:Own w D bR [row none 0 0 (q0 aP.cells []) 70 3,sepL (q0 G8 []),row none 0 0 (q0 aA.cells []) 101 2]:=iU.free (bX 70 3)
 have iW:=iV.pf [2]
 obtain⟨rfl,rfl,rfl⟩:=xU (zj hr (show _=(([]:List aA),([]:List cZ),au) from et (ae N) (et (ip ak) (et (ae O) (iN aX)))))
 exact⟨none,0,none,0, [],rfl,iW,rfl,i1,i1⟩
 refine jT (dT ak) (sr (Mz rfl (Az rfl (Az rfl (An rfl (rt (tR (GM (xc rfl rfl rfl rfl) ?_))))))))
 have iX:Own w D bQ [row none 0 0 (q0 aA.cells []) 101 2]:=dZ.free (bX 101 2)
 have iY:Own w D bQ [sepL (q0 G8 []),row none 0 0 (q0 aA.cells []) 101 2]:=iX.sepNil
 have iZ:Own w D bQ [row none 0 0 (q0 aP.cells []) 70 3,sepL (q0 G8 []),row none 0 0 (q0 aA.cells []) 101 2]:=iY.free (bX 70 3)
 have ja:=iZ.pf [2]
 obtain⟨rfl,rfl,rfl⟩:=xU (zj hr (show _=(([]:List aA),([]:List cZ),aj) from et (ae N) (iN ak)))
 exact⟨none,0,none,0, [],rfl,ja,rfl,i1,i1⟩
end
open Ll renaming mk->D4
open _root_.Go.Proofs.Tryz renaming isAgg37->B5,isAgg9->v3,sizeOf37->B4
section
open Go.RowKit
def Ab (c:List aA) (a:aY):(List aA) × cZ:=
 if a.az=1 then bnd (tF c a.aX) λ b=>(c,cZ.mk b.2 b.1 (D4 [])) else if a.az=2 then bnd (yQ c (aA.mk a.aX a.aN)) λ f=>(f,cZ.mk false [] (D4 [])) else if a.az=3 then bnd (ww a.aX) λ g=>bnd (pW c g.1) λ h=>(h,cZ.mk false [] (D4 [])) else if a.az=4 then bnd (qI c (aj.mk a.aO a.aS) a.bO) λ d=>(c,cZ.mk false [] (D4 d)) else bnd (pW c (aj.mk a.aO a.aS)) λ e=>(e,cZ.mk false [] (D4 []))
theorem CU (w D s n0 t b) (a:aY) (r0) (r1:cZ) (H:Own w D w [row s n0 t (q0 aA.cells b) 101 2]) (bA:n0=b.length) (dC:b.length *32<=211106232532992) (dD:(b.length+1) *32<=211106232532992) (hr:Ab b a=(r0,r1)):
    Calls Tryz.prog 25 #[.slice s n0 t, .agg (aY.cells a).toArray] w (dG λ v w'=> ∃ B0 b0 F G,v= .tuple #[.slice B0 r0.length b0, .agg #[.bool r1.dO, .string ⟨u3 r1.aN⟩, .slice F r1.bq.ls.length G]]/\Own w D w' [row B0 r0.length b0 (q0 aA.cells r0) 101 2,row F r1.bq.ls.length G (q0 aA.cells r1.bq.ls) 101 2]/\(r0.length<=b.length+1)):=by
 unfold Ab at hr
 subst bA
 have dE:=H.rowC (i:=0) rfl
 refine cb Tryz.func25 ?_
 refine sr ?_
 refine bW (aY.cells a) 68 H ?_
 intro e dH bB
 refine Az rfl ?_
 refine bW [.bool false, .string ⟨u3 []⟩, .slice none 0 0] 70 bB ?_
 intro dI dJ V
 refine ns (Kz (vP e 3) (Lz (.string ⟨u3 a.aO⟩) V 1 v3 (Kz (vP e 4) (Lz (.string ⟨u3 a.aS⟩) V 1 v3 (Kz (.agg #[.string ⟨u3 a.aO⟩, .string ⟨u3 a.aS⟩]) ?_)))))
 refine bW [.string ⟨u3 []⟩, .string ⟨u3 []⟩] 37 V ?_
 intro dK dL bC
 refine bY [.string ⟨u3 a.aO⟩, .string ⟨u3 a.aS⟩] 0 bC B4 ?_
 intro dM c
 refine nt (Gp (sr (Kz (vP e 0) (Lz (vI a.az) c 2 Tryz.isAgg3 (nt (bo (sr (Kz (.bool (decide (a.az=1))) (An rfl ?_)))))))))
 by_cases h:a.az=1
 refine jT (dT h) (sr (Mz rfl (Kz (vP e 1) (Lz (.string ⟨u3 a.aX⟩) c 2 v3 ?_))))
 obtain⟨⟨j,l⟩,I⟩:∃ q:(List UInt8) × Bool,tF b a.aX=q:=⟨_,rfl⟩
 obtain⟨dN,au,cO,av,ax⟩:=Gr c
 refine cl Tryz.call56 (wX _ _ s b.length t b a.aX j l au (ax _ 3 _ rfl bQ) rfl e8 I) ?_
 rintro _ dO ⟨rfl,ay⟩
 have bD:=av _ _ ay
 refine Mz rfl (Kz (.string ⟨u3 j⟩) (Kz (.bool l) (Az rfl (An rfl (Gp ?_)))))
 have bE:=bD.pk [0,1,3]
 refine Gq (Mz rfl (Mz rfl (Mz rfl (Kz (.agg #[.bool l, .string ⟨u3 j⟩, .slice none 0 0]) (Az rfl ?_)))))
 have bF:=bE.pf [1]
 refine bY [.bool l, .string ⟨u3 j⟩, .slice none 0 0] 0 bF I0 ?_
 intro bG az
 refine nt (rt (bR (tR (GM (fK (vs:= [.slice s b.length t, .agg #[.bool l, .string ⟨u3 j⟩, .slice none 0 0]]) rfl (bT.tmp rfl (bT.cell rfl (GJ (cs:= [.bool l, .string ⟨u3 j⟩, .slice none 0 0]) I2 I0 ((az.cls (i:=0) rfl).lit (k:=0) (m:=3) rfl)) bT.nil)) (Kk rfl)) ?_))))
 have bH:Own w D bG (row none 0 0 (q0 aA.cells []) 101 2::_):=az.free (bX 101 2)
 have bI:=bH.pk [3,0]
 obtain⟨rfl,rfl⟩:=fC (zj hr zq2)
 exact⟨s,t,none,0,rfl,bI,e8⟩
 refine jF (dF h) (sr (Kz (.bool (decide (a.az=2))) (An rfl ?_)))
 by_cases p:a.az=2
 refine jT (dT p) (sr (Mz rfl (Kz (vP e 1) (Lz (.string ⟨u3 a.aX⟩) c 2 v3 (Kz (vP e 2) (Lz (.string ⟨u3 a.aN⟩) c 2 v3 (Kz (.agg #[.string ⟨u3 a.aX⟩, .string ⟨u3 a.aN⟩]) ?_)))))))
 obtain⟨C,J⟩:∃ q,yQ b (aA.mk a.aX a.aN)=q:=⟨_,rfl⟩
 obtain⟨dP,aB,df,aC,aD⟩:=Gr c
 refine cl Tryz.call57 (BZ _ _ s b.length t b (aA.mk a.aX a.aN) C aB (aD _ 3 _ rfl bQ) rfl e8 e8 J) ?_
 rintro _ dQ ⟨aF,aG,rfl,aH,K⟩
 have aI:=aC _ _ aH
 have dh:=aI.rowC (i:=0) rfl
 replace K:C.length<=b.length+1:=K
 refine Kz (.agg #[.bool false, .string ⟨u3 []⟩, .slice none 0 0]) (Az rfl ?_)
 have bJ:=aI.pf [2]
 refine bY [.bool false, .string ⟨u3 []⟩, .slice none 0 0] 0 bJ I0 ?_
 intro bK aJ
 refine nt (rt (bR (tR (GM (fK (vs:= [.slice aF C.length aG, .agg #[.bool false, .string ⟨u3 []⟩, .slice none 0 0]]) rfl (bT.tmp rfl (bT.cell rfl (GJ (cs:= [.bool false, .string ⟨u3 []⟩, .slice none 0 0]) I2 I0 ((aJ.cls (i:=0) rfl).lit (k:=0) (m:=3) rfl)) bT.nil)) (Kk rfl)) ?_))))
 have bL:Own w D bK (row none 0 0 (q0 aA.cells []) 101 2::_):=aJ.free (bX 101 2)
 have bM:=bL.pk [2,0]
 obtain⟨rfl,rfl⟩:=fC (zj hr zq3)
 exact⟨aF,aG,none,0,rfl,bM,e8⟩
 refine jF (dF p) (sr (Kz (.bool (decide (a.az=3))) (An rfl ?_)))
 by_cases u:a.az=3
 refine jT (dT u) (sr (Kz (vP e 1) (Lz (.string ⟨u3 a.aX⟩) c 2 v3 ?_)))
 obtain⟨⟨r,aK⟩,L⟩:∃ q:aj × Int,ww a.aX=q:=⟨_,rfl⟩
 obtain⟨dR,aL,di,aM,dm⟩:=Gr c
 refine cl Tryz.call58 (zZ _ _ a.aX r aK aL L) ?_
 rintro _ dS ⟨rfl,aN⟩
 have bO:=aM _ _ aN
 refine Mz rfl (Kz (.agg (aj.cells r).toArray) (Kz (vI aK) ?_))
 refine bW [.string ⟨u3 []⟩, .string ⟨u3 []⟩] 37 bO ?_
 intro dU dV bP
 refine bY (aj.cells r) 0 bP B4 ?_
 intro dW bS
 refine An rfl (Gp ?_)
 have aO:=bS.px [] [3] []
 refine Gq (Mz rfl (La (aj.cells r) aO 0 B5 B4 ?_))
 obtain⟨E,M⟩:∃ q,pW b r=q:=⟨_,rfl⟩
 obtain⟨dX,aP,dn,aQ,aR⟩:=Gr aO
 refine cl Tryz.call59 (uF _ _ s b.length t b r E aP (aR _ 3 _ rfl bQ) rfl e8 M) ?_
 rintro _ dY ⟨aS,aT,rfl,aU,x⟩
 have aV:=aQ _ _ aU
 have bU:=aV.rowC (i:=0) rfl
 replace x:E.length<=b.length:=x
 refine Kz (.agg #[.bool false, .string ⟨u3 []⟩, .slice none 0 0]) (Az rfl ?_)
 have aW:=aV.pf [3]
 refine bY [.bool false, .string ⟨u3 []⟩, .slice none 0 0] 0 aW I0 ?_
 intro aX N
 refine nt (rt (bR (tR (GM (fK (vs:= [.slice aS E.length aT, .agg #[.bool false, .string ⟨u3 []⟩, .slice none 0 0]]) rfl (bT.tmp rfl (bT.cell rfl (GJ (cs:= [.bool false, .string ⟨u3 []⟩, .slice none 0 0]) I2 I0 ((N.cls (i:=0) rfl).lit (k:=0) (m:=3) rfl)) bT.nil)) (Kk rfl)) ?_))))
 have aZ:Own w D aX (row none 0 0 (q0 aA.cells []) 101 2::_):=N.free (bX 101 2)
 have bf:=aZ.pk [2,0]
 obtain⟨rfl,rfl⟩:=fC (zj hr zq5)
 exact⟨aS,aT,none,0,rfl,bf,e8⟩
 refine jF (dF u) (sr (Kz (.bool (decide (a.az=4))) (An rfl ?_)))
 by_cases n:a.az=4
 refine jT (dT n) (sr (Mz rfl (Mz rfl (La ([.string ⟨u3 a.aO⟩, .string ⟨u3 a.aS⟩]) c 0 B5 B4 (Kz (vP e 5) (Lz (vI a.bO) c 2 Tryz.isAgg3 ?_))))))
 obtain⟨d,y⟩:∃ q,qI b (aj.mk a.aO a.aS) a.bO=q:=⟨_,rfl⟩
 obtain⟨dw,W,bV,X,Y⟩:=Gr c
 refine cl Tryz.call60 (vw _ _ s b.length t b (aj.mk a.aO a.aS) a.bO d W (Y _ 3 _ rfl bQ) rfl e8 y) ?_
 rintro _ dx ⟨f,g,rfl,Z,z⟩
 have O:=X _ _ Z
 have bZ:=O.rowC (i:=0) rfl
 replace z:d.length<=b.length:=z
 refine Kz (.agg #[.bool false, .string ⟨u3 []⟩, .slice f d.length g]) (Az rfl ?_)
 have bg:=O.pf [2]
 refine bY [.bool false, .string ⟨u3 []⟩, .slice f d.length g] 0 bg I0 ?_
 intro dz P
 refine nt (rt (bR (tR (GM (fK (vs:= [.slice s b.length t, .agg #[.bool false, .string ⟨u3 []⟩, .slice f d.length g]]) rfl (bT.tmp rfl (bT.cell rfl (GJ (cs:= [.bool false, .string ⟨u3 []⟩, .slice f d.length g]) I2 I0 ((P.cls (i:=0) rfl).lit (k:=0) (m:=3) rfl)) bT.nil)) (Kk rfl)) ?_))))
 have bi:=P.pk [4,1]
 obtain⟨rfl,rfl⟩:=fC (zj hr zq5)
 exact⟨s,t,f,g,rfl,bi,e8⟩
 refine jF (dF n) (G7 (bN (Gs (Gp ?_))))
 have Q:=c.pk [0,1,3]
 refine Gq (Mz rfl (La ([.string ⟨u3 a.aO⟩, .string ⟨u3 a.aS⟩]) Q 0 B5 B4 ?_))
 obtain⟨o,A⟩:∃ q,pW b (aj.mk a.aO a.aS)=q:=⟨_,rfl⟩
 obtain⟨dA,aa,cu,af,ag⟩:=Gr Q
 refine cl Tryz.call59 (uF _ _ s b.length t b (aj.mk a.aO a.aS) o aa (ag _ 2 _ rfl bQ) rfl e8 A) ?_
 rintro _ dB ⟨R,S,rfl,ah,B⟩
 have T:=af _ _ ah
 have cz:=T.rowC (i:=0) rfl
 replace B:o.length<=b.length:=B
 refine Kz (.agg #[.bool false, .string ⟨u3 []⟩, .slice none 0 0]) (Az rfl ?_)
 have bn:=T.pf [2]
 refine bY [.bool false, .string ⟨u3 []⟩, .slice none 0 0] 0 bn I0 ?_
 intro bq U
 refine nt (rt (GM (fK (vs:= [.slice R o.length S, .agg #[.bool false, .string ⟨u3 []⟩, .slice none 0 0]]) rfl (bT.tmp rfl (bT.cell rfl (GJ (cs:= [.bool false, .string ⟨u3 []⟩, .slice none 0 0]) I2 I0 ((U.cls (i:=0) rfl).lit (k:=0) (m:=3) rfl)) bT.nil)) (Kk rfl)) ?_))
 have bu:Own w D bq (row none 0 0 (q0 aA.cells []) 101 2::_):=U.free (bX 101 2)
 have bv:=bu.pk [2,0]
 obtain⟨rfl,rfl⟩:=fC (zj hr zq5)
 exact⟨R,S,none,0,rfl,bv,e8⟩
def lq:List aY->List aA->List cZ->(List aA) × (List cZ)
  | [],b,c=>(b,c)
  | d::e,b,c=>bnd (Ab b d) λ a=>lq e a.1 (c++ [a.2])
def rH (c:List aA) (l1:List aY):(List aA) × (List cZ) × Int:=
 bnd (tC c) λ a=>if a=0 then bnd (yP l1) λ b=>if b=0 then bnd (lq l1 c []) λ sLrbtbtL=>(sLrbtbtL.1,sLrbtbtL.2,0) else(([]:List aA),([]:List cZ),b) else(([]:List aA),([]:List cZ),a)
theorem wz (w D A0 n0 c0 j S n1 c1 l1 Y Z r2) (H:Own w D w []) (aa:Ro w D λ w'=>bM w' 2 A0 n0 (q0 aA.cells j)) (bD:n0=j.length) (dD:j.length *32<=211106232532992) (F:Ro w D λ w'=>bM w' 6 S n1 (q0 aY.cells l1)) (bE:n1=l1.length) (dE:l1.length *80<=211106232532992) (dH:(j.length+l1.length) *32<=211106232532992) (hr:rH j l1=(Y,Z,r2)):
    Calls Tryz.prog 10 #[.slice A0 n0 c0, .slice S n1 c1] w (dG λ v w'=> ∃ B0 b0 B1 b1 e1,v= .tuple #[.slice B0 Y.length b0, .slice B1 Z.length b1,vI r2]/\Own w D w' [row B0 Y.length b0 (q0 aA.cells Y) 101 2,row B1 Z.length b1 (q0 aP.cells e1) 70 3,sepL (q0 G8 e1)]/\(List.map aP.abs e1=Z)/\(Y.length<=j.length+l1.length)/\(Z.length<=l1.length)):=by
 subst bD bE
 refine cb Tryz.func10 ?_
 refine sr (Az rfl (Az rfl (An rfl (Gp (sr (Mz rfl ?_))))))
 obtain⟨r,n⟩:∃ q,tC j=q:=⟨_,rfl⟩
 obtain⟨dJ,af,ag,ah,cu⟩:=Gr H
 refine cl Tryz.call14 (yh _ _ A0 j.length c0 j r af (ag _ aa) rfl e8 n) ?_
 rintro _ T ⟨rfl,ai⟩
 have aj:=ah _ _ ai
 refine Ar rfl (Mz rfl (fw (.bool (decide (¬ (r=0)))) (GN (e:= !(decide (r=0))) yk decide_not.symm) (nt ?_)))
 by_cases t:r=0
 refine jF (dF (Ko t)) (sk (Gp (sr (Mz rfl ?_))))
 obtain⟨u,x⟩:∃ q,yP l1=q:=⟨_,rfl⟩
 obtain⟨dK,ak,au,av,cz⟩:=Gr aj
 refine cl Tryz.call24 (BX _ _ S l1.length c1 l1 u ak (au _ F) rfl e8 x) ?_
 rintro _ G ⟨rfl,ax⟩
 have ay:=av _ _ ax
 refine Ar rfl (Mz rfl (fw (.bool (decide (¬ (u=0)))) (GN (e:= !(decide (u=0))) yk decide_not.symm) (nt ?_)))
 by_cases I:u=0
 refine jF (dF (Ko I)) (sk (sr (Mz rfl ?_)))
 have az:Own w D G [row none 0 0 (q0 aA.cells []) 101 2]:=ay.free (bX 101 2)
 refine WL.do rfl (GZ (k:=0) (m:=j.length) (iK) az rfl rfl (eT Tryz.underlying25 (az.ro aa) (cB aA.one j)) rfl e8 (s:=j.length) e8 rfl ?_)
 intro U V aB bG
 refine Ar rfl (An rfl (Gp (sr (Mz rfl (Kz (vJ l1.length) (Mn rfl (bo ?_)))))))
 have bH:Own w D aB [sepL (q0 G8 []),row U j.length V (q0 aA.cells j) 101 2]:=bG.sepNil
 have bI:Own w D aB [row none 0 0 (q0 aP.cells []) 70 3,sepL (q0 G8 []),row U j.length V (q0 aA.cells j) 101 2]:=bH.free (bX 70 3)
 have bJ:=bI.pf [2]
 obtain⟨bK,z⟩:=FL λ A (B:Nat) d J (K:Nat) l c (b:Nat) w'=>Own w D w' [row A d.length B (q0 aA.cells d) 101 2,row J c.length K (q0 aP.cells l) 70 3,sepL (q0 G8 l)]/\List.map aP.abs l=c/\b<=l1.length/\d.length<=j.length+b/\c.length=b/\c.length<=b/\lq l1 j []=lq (List.drop b l1) d c
 refine Wp.loop (λ i:(Option Addr) × Nat × (List aA) × (Option Addr) × Nat × (List aP) × (List cZ) × Nat=> [(0, .slice i.1 i.2.2.1.length i.2.1),(9, .slice i.2.2.2.1 i.2.2.2.2.2.2.1.length i.2.2.2.2.1),(28,vJ i.2.2.2.2.2.2.2),(27,vJ l1.length),(26, .slice S l1.length c1),(6,vI 0),(5, .slice none 0 0),(4, .slice none 0 0)]) bK (λ i=>l1.length - i.2.2.2.2.2.2.2) (U,V,j,none,0, [], [],0) ⟨rfl,rfl,rfl,rfl,rfl,rfl,rfl,rfl,trivial⟩ (z.2 ⟨bJ,(show List.map aP.abs []=[]/\0<=l1.length/\j.length<=j.length/\0=0/\0<=0/\lq l1 j []=lq (List.drop 0 l1) j [] from ⟨by exact rfl,e8,e8,e8,e8,rfl⟩)⟩) ?_
 rintro ⟨A,B,d,J,K,l,c,b⟩ dL aC
 show Wp _ _ _ [(0, .slice A d.length B),(9, .slice J c.length K),(28,vJ b),(27,vJ l1.length),(26, .slice S l1.length c1),(6,vI 0),(5, .slice none 0 0),(4, .slice none 0 0)] _ _
 obtain⟨C,o,cK,cO,df,dh,M⟩:=z.1 aC
 have di:=aW o
 refine sr (Kz (.bool (decide ((b:Int) < (l1.length:Int)))) (nt (Gp ?_)))
 by_cases aD:(b:Int) < (l1.length:Int)
 obtain⟨p,N⟩:=dI (ls:=l1) (i:=b) aY.len f5 (C.ro F) f2
 have aF:=drop_at N
 refine jT (dT aD) (sk (Gp (bo (sr (fw (.pointer (some ⟨ab S,ao S+b *6,none⟩)) (GI (nD) rfl rfl ((C.ro F).addr (i:=b) e8) e8) (fw (.agg (aY.cells p).toArray) (GH rfl (GJ (cs:=(aY.cells p)) Tryz.isAgg68 y6 ((C.ro F).elem aY.len N f5))) ?_))))))
 refine bW [vI 0, .string ⟨u3 []⟩, .string ⟨u3 []⟩, .string ⟨u3 []⟩, .string ⟨u3 []⟩,vI 0] 68 C ?_
 intro dM dN bL
 refine bY (aY.cells p) 0 bL y6 ?_
 intro dO aG
 refine ns (Mz rfl (La (aY.cells p) aG 0 Tryz.isAgg68 y6 ?_))
 have bO:=aG.pf [1]
 obtain⟨⟨L,a⟩,O⟩:∃ q:(List aA) × cZ,Ab d p=q:=⟨_,rfl⟩
 obtain⟨dP,aH,dm,aI,dn⟩:=G9 bO
 refine cl Tryz.call25 (CU _ _ A d.length B d p L a aH rfl e8 e8 O) ?_
 rintro _ dQ ⟨aJ,aK,g,h,rfl,aL,P⟩
 have W:=aI _ _ aL
 have dw:=W.rowC (i:=0) rfl
 have dx:=W.rowC (i:=1) rfl
 replace P:L.length<=d.length+1:=P
 refine Mz rfl (Kz (.slice aJ L.length aK) (Kz (.agg #[.bool a.dO, .string ⟨u3 a.aN⟩, .slice g a.bq.ls.length h]) ?_))
 refine bW [.bool false, .string ⟨u3 []⟩, .slice none 0 0] 70 W ?_
 intro dz dA aM
 refine Az rfl ?_
 refine bY [.bool a.dO, .string ⟨u3 a.aN⟩, .slice g a.bq.ls.length h] 0 aM I0 ?_
 intro dB Q
 refine ns (Mz rfl (An rfl (Gq (Mz rfl (La ([.bool a.dO, .string ⟨u3 a.aN⟩, .slice g a.bq.ls.length h]) Q 0 I2 I0 ?_)))))
 refine jE [.bool a.dO, .string ⟨u3 a.aN⟩, .slice g a.bq.ls.length h] 70 3 1 Q ?_
 intro aN dC E
 replace E:=Ha (y:=row aN 1 1 (q0 aP.cells ([(aP.mk a.dO a.aN (L3 g h a.bq.ls))])) 70 3) rfl E
 have R:=E.pf [5,6,3]
 refine WL.do rfl (GZ (k:=c.length) (m:=1) (ui) R rfl rfl (eT Tryz.underlying45 (R.rds (i:=3) rfl) (cB aP.one ([(aP.mk a.dO a.aN (L3 g h a.bq.ls))]))) rfl e8 (s:=List.length (c++ [a])) f4 (t2).symm ?_)
 intro aO aQ aR aS
 have aT:=aS.pf [1,2]
 have aU:Own w D aR (sepL (q0 G8 (l++ [(aP.mk a.dO a.aN (L3 g h a.bq.ls))]))::_):=aT.sepAdd (L2:= [row g a.bq.ls.length h (q0 aA.cells a.bq.ls) 101 2]) (t2 (f:=G8) (xs:=l) (ys:= [(aP.mk a.dO a.aN (L3 g h a.bq.ls))])).symm
 have bP:List.length (c++ [a])=c.length+1:=by simp only [List.length_append,List.length_cons,List.length_nil]
 have bQ:=aW (jy (es:= [(aP.mk a.dO a.aN (L3 g h a.bq.ls))]) (ms:= [a]) o rfl)
 refine Az rfl (WL.nil (bN (Gs (Gq (fw (vJ (b+1)) (Gw (e:=IntKind.i64.wrap ((b:Int)+1)) yk f1) (Mz rfl (WL.nil ?_)))))))
 have aV:=aU.pk [4,1,0]
 exact GL (aJ,aK,L,aO,aQ,(l++ [(aP.mk a.dO a.aN (L3 g h a.bq.ls))]),(c++ [a]),b+1) ⟨rfl,rfl,rfl,rfl,rfl,rfl,rfl,rfl,trivial⟩ (z.2 ⟨aV,by exact(jy (es:= [(aP.mk a.dO a.aN (L3 g h a.bq.ls))]) (ms:= [a]) o rfl),e8,e8,e8,e8,et (M) (et (congrArg (λ q=>lq q d c) aF) (ae O))⟩) (by show l1.length - (b+1) < l1.length - b; omega)
 refine jF (dF aD) (Wp.exit (GK ?_))
 have X:lq l1 j []=(d,c):=et (M) (et (congrArg (λ q=>lq q d c) (eP (ls:=l1) (i:=b) e8)) rfl)
 refine GK (GR (Gs (sr (Mz rfl (Mz rfl (Az rfl (Az rfl (An rfl (rt (GM (xc rfl rfl rfl rfl) ?_))))))))))
 have aX:=C.pf []
 obtain⟨rfl,rfl,rfl⟩:=xU (zj hr (show _=(d,c,0) from et (ae n) (et (ip t) (et (ae x) (et (ip I) (ae X))))))
 exact⟨A,B,J,K,l,rfl,aX,o,i1,i1⟩
 refine jT (dT I) (sr (Mz rfl (Az rfl (Az rfl (An rfl (rt (tR (GM (xc rfl rfl rfl rfl) ?_))))))))
 have aZ:Own w D G [row none 0 0 (q0 aA.cells []) 101 2]:=ay.free (bX 101 2)
 have bf:Own w D G [sepL (q0 G8 []),row none 0 0 (q0 aA.cells []) 101 2]:=aZ.sepNil
 have bg:Own w D G [row none 0 0 (q0 aP.cells []) 70 3,sepL (q0 G8 []),row none 0 0 (q0 aA.cells []) 101 2]:=bf.free (bX 70 3)
 have bi:=bg.pf [2]
 obtain⟨rfl,rfl,rfl⟩:=xU (zj hr (show _=(([]:List aA),([]:List cZ),u) from et (ae n) (et (ip t) (et (ae x) (iN I)))))
 exact⟨none,0,none,0, [],rfl,bi,rfl,i1,i1⟩
 refine jT (dT t) (sr (Mz rfl (Az rfl (Az rfl (An rfl (rt (tR (GM (xc rfl rfl rfl rfl) ?_))))))))
 have bn:Own w D T [row none 0 0 (q0 aA.cells []) 101 2]:=aj.free (bX 101 2)
 have bq:Own w D T [sepL (q0 G8 []),row none 0 0 (q0 aA.cells []) 101 2]:=bn.sepNil
 have bu:Own w D T [row none 0 0 (q0 aP.cells []) 70 3,sepL (q0 G8 []),row none 0 0 (q0 aA.cells []) 101 2]:=bq.free (bX 70 3)
 have bv:=bu.pf [2]
 obtain⟨rfl,rfl,rfl⟩:=xU (zj hr (show _=(([]:List aA),([]:List cZ),r) from et (ae n) (iN t)))
 exact⟨none,0,none,0, [],rfl,bv,rfl,i1,i1⟩
end
end Go.Proofs.YtndamapfnpihpaaGreat
namespace Go.Proofs
set_option maxRecDepth 100000
set_option linter.unusedVariables false
set_option linter.unusedSimpArgs false
set_option linter.unusedSectionVars false
section
open Go.RowKit Go.Maps Go.Sort Go.Shelf
def I1:Go.Shelf.Ren:=⟨λ | 125=>172 | 128=>212 | 129=>213 | n=>n,λ | 46=>200 | 3=>3 | 51=>278 | 53=>32 | 4=>4 | 5=>5 | 9=>9 | n=>n,λ | n=>n⟩
theorem Jc:Go.Proofs.Lays.n125 Tryz.prog I1:= {
  mixed:=by kernel_rfl
  f125:=Tryz.func172.trans (congrArg some (by kernel_rfl))
  f128:=Tryz.func212.trans (congrArg some (by kernel_rfl))
  f129:=Tryz.func213.trans (congrArg some (by kernel_rfl))
  t3:=Tryz.underlying3
  a3:=Tryz.isAgg3
  z3:=Tryz.sizeOf3
  v3:=Tryz.zeroValue3
  t4:=Tryz.underlying4
  a4:=Tryz.isAgg4
  z4:=Tryz.sizeOf4
  v4:=Tryz.zeroValue4
  t5:=Tryz.underlying5
  a5:=Tryz.isAgg5
  z5:=Tryz.sizeOf5
  v5:=Tryz.zeroValue5
  t9:=Tryz.underlying9
  a9:=Tryz.isAgg9
  z9:=Tryz.sizeOf9
  v9:=Tryz.zeroValue9
  t46:=Tryz.underlying200
  a46:=Tryz.isAgg200
  z46:=Tryz.sizeOf200
  v46:=Tryz.zeroValue200
  t51:=Tryz.underlying278
  a51:=Tryz.isAgg278
  z51:=Tryz.sizeOf278
  v51:=Tryz.zeroValue278
  t53:=Tryz.underlying32
  a53:=Tryz.isAgg32
  z53:=Tryz.sizeOf32
  v53:=Tryz.zeroValue32 }
end
end Go.Proofs
namespace Go.Proofs.YtndamapfnpihpaaGreat
set_option maxRecDepth 100000
set_option linter.unusedVariables false
set_option linter.unusedSimpArgs false
set_option linter.unusedSectionVars false
section
open Go.RowKit Go.Maps Go.Sort Go.Shelf
theorem DL (w D) (x:Nat) (H:Own w D w []) (hx:x<=18446744073709551615):
    Calls Tryz.prog 172 #[.int .u64 (x:Int)] w (dG λ v w'=>v= .int .i64 ((bitsLen x:Nat):Int)/\Own w D w' []):=by
  refine(Any.bits_Len Jc (x:Int) w e8 e8).mono ?_
  rintro e w' ⟨rfl,rfl⟩
  refine⟨_,rfl, ?_,H⟩
  rw [Int.toNat_natCast,bitLen_eq x e8]
end
open Int renaming toNat->E0
open IntKind renaming i64->v7
open List renaming flatMap->q0,length_replicate->L4,length_set->J1,set->J0
open _root_.Go.Proofs.Tryz renaming isAgg32->C4,prog->u2
section
open Go.RowKit
def iP (a:Nat):Bool:=
 false
theorem mM (w D a c) (H:Own w D w []) (hr:iP a=c):
    Calls u2 175 #[vU a] w (dG λ v w'=>v= .bool c/\Own w D w' []):=by
 refine cb Tryz.func175 ?_
 refine sr (Ar rfl (Mz rfl (Mz rfl (fw (.bool false) (GN (e:= !(decide (((a:Nat):Int)=((a:Nat):Int)))) yk i5) (An rfl (rt (rs ?_)))))))
 have b:=H.pk []
 obtain rfl:_=false:=zj hr rfl
 exact⟨rfl,b⟩
def lu (c:Nat) (d:Nat):Bool:=
 bnd (iP c) λ a=>if a=true then bnd (iP d) λ b=>if b=true then decide (((c:Nat):Int) < ((d:Nat):Int)) else true else decide (((c:Nat):Int) < ((d:Nat):Int))
theorem rJ (w D e d u) (H:Own w D w []) (hr:lu e d=u):
    Calls u2 125 #[vU e,vU d] w (dG λ v w'=>v= .bool u/\Own w D w' []):=by
 refine cb Tryz.func125 ?_
 refine sr (Ar rfl (Mz rfl ?_))
 obtain⟨h,c⟩:∃ q,iP e=q:=⟨_,rfl⟩
 obtain⟨B,i,x,j,y⟩:=Gr H
 refine cl Tryz.call175 (mM _ _ e h i c) ?_
 rintro _ C ⟨rfl,k⟩
 have l:=j _ _ k
 refine Mz rfl ?_
 rcases Kq (h) with a | a
 refine Hm (v:=vU d) rfl rfl a rfl (Gv rfl) ?_
 obtain⟨g,f⟩:∃ q,iP d=q:=⟨_,rfl⟩
 obtain⟨E,m,z,n,A⟩:=Gr l
 refine H7 rfl rfl a rfl (GV Tryz.call175 rfl (mM _ _ d g m f) ?_)
 rintro _ F ⟨rfl,o⟩
 have p:=n _ _ o
 refine Gz (.bool (!g)) a (fw (.bool (!g)) (Gu rfl a rfl) (Mz rfl ?_))
 rcases Kq (g) with b | b
 refine gw (vU e) (cn b) (Gv rfl) (gw (vU d) (cn b) (Gv rfl) (Gz (.bool (decide (((e:Nat):Int) < ((d:Nat):Int)))) (cn b) (fw (.bool (decide (((e:Nat):Int) < ((d:Nat):Int)))) (Gm rfl (cn b) rfl) (An rfl (rt (rs ?_))))))
 have r:=p.pk []
 obtain rfl:_=decide (((e:Nat):Int) < ((d:Nat):Int)):=zj hr (et (ae c) (et (ip a) (et (ae f) (ip b))))
 exact⟨rfl,r⟩
 refine Sz (cn b) (Sz (cn b) (Sz (cn b) (fw (.bool true) (Gu rfl (cn b) rfl) (An rfl (rt (rs ?_))))))
 have s:=p.pk []
 obtain rfl:_=true:=zj hr (et (ae c) (et (ip a) (et (ae f) (dY b))))
 exact⟨rfl,s⟩
 refine Sz a (Sz a (Sz a (fw (.bool false) (Gm rfl a rfl) (Mz rfl (gw (vU e) rfl (Gv rfl) (gw (vU d) rfl (Gv rfl) (Gz (.bool (decide (((e:Nat):Int) < ((d:Nat):Int)))) rfl (fw (.bool (decide (((e:Nat):Int) < ((d:Nat):Int)))) (Gm rfl rfl rfl) (An rfl (rt (rs ?_)))))))))))
 have t:=l.pk []
 obtain rfl:_=decide (((e:Nat):Int) < ((d:Nat):Int)):=zj hr (et (ae c) (dY a))
 exact⟨rfl,t⟩
def eD (g:Int):Nat->Int->List Nat->(List Nat)
  | 0,a,b=>default
  | f+1,a,b=>if a > g then bnd (List.getD b (E0 a) default) λ c=>bnd (List.getD b (E0 (a - 1)) default) λ d=>bnd (lu c d) λ e=>if e=true then eD g f (a - 1) (J0 (J0 b (E0 a) d) (E0 (a - 1)) c) else b else b
def eF (c:Int) (e:Int):Nat->Int->List Nat->(List Nat)
  | 0,a,b=>default
  | d+1,a,b=>if a < e then bnd (bnd (eD c ((E0 (a - c))+1) a b) λ sLrLstJjL=>sLrLstJjL) λ sJrLstJ=>eF c e d (a+1) sJrLstJ else b
def iD (c:List Nat) (a:Int) (b:Int):(List Nat):=
 bnd (eF a b ((E0 (b - (a+1)))+1) (a+1) c) λ sLrL=>sLrL
theorem oH (w D f n0 r h d j r0) (H:Own w D w [row f n0 r (q0 (eN .u64) h) 32 1]) (ai:n0=h.length) (aT:h.length *8<=211106232532992) (aU:0<=d/\d<=j/\j<=((h.length:Nat):Int)) (hr:iD h d j=r0):
    Calls u2 204 #[.slice f n0 r,vI d,vI j] w (dG λ v w'=>v= .tuple #[]/\Own w D w' [row f n0 r (q0 (eN .u64) r0) 32 1]/\(r0.length=h.length)):=by
 subst ai
 have aV:=H.rowC (i:=0) rfl
 refine cb Tryz.func204 ?_
 refine sr (Mz rfl (fw (vI (d+1)) (Gw (e:=v7.wrap (d+1)) yk i4) (An rfl (bo ?_))))
 have aj:=H.pf []
 obtain⟨ak,u⟩:=xW λ (c:Int) m (x:Nat) w'=>Own w D w' [row f h.length r (q0 (eN .u64) m) 32 1]/\m.length=h.length/\d+1<=c/\E0 (j - c) < x/\eF d j ((E0 (j - (d+1)))+1) (d+1) h=eF d j x c m
 refine Wp.loop (λ i:Int × (List Nat) × Nat=> [(6,vI i.1),(0, .slice f h.length r),(1,vI d),(2,vI j)]) ak (λ i=>i.2.2) (d+1,h,(E0 (j - (d+1)))+1) ⟨rfl,rfl,rfl,rfl,trivial⟩ (u.2 ⟨aj,by first | omega | (simp only [J1] <;> omega) | (simp only [L4]),e8,e8,rfl⟩) ?_
 rintro ⟨c,m,x⟩ aW Q
 show Wp _ _ _ [(6,vI c),(0, .slice f h.length r),(1,vI d),(2,vI j)] _ _
 obtain⟨R,aI,aJ,aK,J⟩:=u.1 Q
 obtain⟨L,S⟩:∃ q,x=q+1:=⟨x - 1,e8⟩
 subst S
 refine Gp (sr (Mz rfl (Mz rfl (Kz (.bool (decide (c < j))) (nt ?_)))))
 by_cases I:c < j
 refine jT (dT I) (sk (Gp ?_))
 obtain⟨au,z⟩:=mP λ A w'=>Own w D w' [row f h.length r (q0 (eN .u64) A) 32 1]/\A.length=h.length/\(bnd (eD d ((E0 (c - d))+1) c m) λ sLrLstJjL=>sLrLstJjL)=A
 refine Iq (λ i:(List Nat)=> [(6,vI c),(0, .slice f h.length r),(1,vI d),(2,vI j)]) au ?_ ?_
 refine bo (sr (Mz rfl (An rfl (bo ?_))))
 have av:=R.pf []
 obtain⟨ax,B⟩:=xW λ (a:Int) g (C:Nat) w'=>Own w D w' [row f h.length r (q0 (eN .u64) g) 32 1]/\g.length=h.length/\(d<=a/\a < j)/\E0 (a - d) < C/\eD d ((E0 (c - d))+1) c m=eD d C a g
 refine Wp.loop (λ i:Int × (List Nat) × Nat=> [(7,vI i.1),(6,vI c),(0, .slice f h.length r),(1,vI d),(2,vI j)]) ax (λ i=>i.2.2) (c,m,(E0 (c - d))+1) ⟨rfl,rfl,rfl,rfl,rfl,trivial⟩ (B.2 ⟨av,by first | omega | (simp only [J1] <;> omega) | (simp only [L4]),e8,e8,rfl⟩) ?_
 rintro ⟨a,g,C⟩ aX T
 show Wp _ _ _ [(7,vI a),(6,vI c),(0, .slice f h.length r),(1,vI d),(2,vI j)] _ _
 obtain⟨ay,aL,aM,aN,E⟩:=B.1 T
 obtain⟨M,U⟩:∃ q,C=q+1:=⟨C - 1,e8⟩
 subst U
 refine Gp (Gp ?_)
 refine Br [] (GD (GD (GD (bH.block (bH.block (GD (GD (bH.block GQ)))))))) ay ?_
 intro aY V
 refine qv 0 rfl rfl (qv 1 rfl rfl (qk (.bool (decide (a > d))) 2 rfl (qv 3 rfl rfl ?_)))
 by_cases b:a > d
 refine GG (v:= .slice f h.length r) (rs:= []) 4 rfl rfl rfl (dT b) e9 (λ _ _=>Gv rfl) (GG (v:=vJ (E0 a)) (rs:= []) 5 rfl rfl rfl (dT b) e9 (λ _ _=>Gw (e:=a) (Gv rfl) e8) ?_)
 obtain⟨s,l⟩:=mK (ls:=g) (i:=E0 a) f2
 refine GG (v:= .pointer (some ⟨ab f,ao f+(E0 a) *1,none⟩)) (rs:= []) 6 rfl rfl rfl (dT b) e9 (λ _ ⟨_,p⟩=>GI (iC) rfl rfl ((p.rds (i:=0) rfl).addr (i:=E0 a) e8) e8) (GG (v:=vU s) (rs:= []) 7 rfl rfl rfl (dT b) e9 (λ _ ⟨_,p⟩=>GH rfl (bS.one C4 (((p.rds (i:=0) rfl).elem gT l f5).at_ (k:=0) rfl))) (GG (v:= .slice f h.length r) (rs:= []) 8 rfl rfl rfl (dT b) e9 (λ _ _=>Gv rfl) (GG (v:=vI a) (rs:= []) 9 rfl rfl rfl (dT b) e9 (λ _ _=>Gv rfl) (GG (v:=vJ (E0 (a - 1))) (rs:= []) 10 rfl rfl rfl (dT b) e9 (λ _ _=>Gw (e:=v7.wrap (a - 1)) yk f1) ?_))))
 obtain⟨n,t⟩:=mK (ls:=g) (i:=E0 (a - 1)) f2
 refine GG (v:= .pointer (some ⟨ab f,ao f+(E0 (a - 1)) *1,none⟩)) (rs:= []) 11 rfl rfl rfl (dT b) e9 (λ _ ⟨_,p⟩=>GI (iC) rfl rfl ((p.rds (i:=0) rfl).addr (i:=E0 (a - 1)) e8) e8) (GG (v:=vU n) (rs:= []) 12 rfl rfl rfl (dT b) e9 (λ _ ⟨_,p⟩=>GH rfl (bS.one C4 (((p.rds (i:=0) rfl).elem gT t f5).at_ (k:=0) rfl))) ?_)
 obtain⟨N,F⟩:∃ q,lu s n=q:=⟨_,rfl⟩
 obtain⟨aZ,W,aO,X,aP⟩:=Gr V
 refine H5 13 rfl rfl rfl (dT b) e9 (GV Tryz.call125 rfl (rJ _ _ s n N W F) ?_)
 rintro _ bf ⟨rfl,Y⟩
 have O:=X _ _ Y
 refine⟨.inr ⟨_,O⟩, ?_⟩
 refine qt (v:= .bool N) 14 rfl (λ _ _=>Gu rfl (dT b) rfl) (qn (Gs ?_))
 rcases Kq (N) with G | G
 refine jT G (sk (Gp (bo ?_)))
 refine Br [15,17] (bH.block (GD (GD (bH.block (bH.block (GD (GD (bH.block GQ)))))))) O ?_
 intro bg az
 refine qv 0 rfl rfl (qt (v:=vJ (E0 a)) 1 rfl (λ _ _=>Gw (e:=a) (Gv rfl) e8) (Hf (v:= .slice f h.length r) 2 rfl e9 (λ _=>Gv rfl) (Hf (v:=vI a) 3 rfl e9 (λ _=>Gv rfl) (Hf (v:=vJ (E0 (a - 1))) 4 rfl e9 (λ _=>Gw (e:=v7.wrap (a - 1)) yk f1) (qv 5 rfl rfl (qv 6 rfl rfl (qt (v:=vJ (E0 (a - 1))) 7 rfl (λ _ _=>Gw (e:=v7.wrap (a - 1)) yk f1) (qt (v:= .pointer (some ⟨ab f,ao f+(E0 (a - 1)) *1,none⟩)) 8 rfl (λ _ ⟨_,p⟩=>GI (iC) rfl rfl ((p.rds (i:=0) rfl).addr (i:=E0 (a - 1)) e8) e8) (qt (v:=vU n) 9 rfl (λ _ ⟨_,p⟩=>GH rfl (bS.one C4 (((p.rds (i:=0) rfl).elem gT t f5).at_ (k:=0) rfl))) (qv 10 rfl rfl (qt (v:=vJ (E0 a)) 11 rfl (λ _ _=>Gw (e:=a) (Gv rfl) e8) (qt (v:= .pointer (some ⟨ab f,ao f+(E0 a) *1,none⟩)) 12 rfl (λ _ ⟨_,p⟩=>GI (iC) rfl rfl ((p.rds (i:=0) rfl).addr (i:=E0 a) e8) e8) (qt (v:=vU s) 13 rfl (λ _ ⟨_,p⟩=>GH rfl (bS.one C4 (((p.rds (i:=0) rfl).elem gT l f5).at_ (k:=0) rfl))) (qt (v:= .pointer (some ⟨ab f,ao f+(E0 a) *1,none⟩)) 14 rfl (λ _ ⟨_,p⟩=>GI (iC) rfl rfl ((p.rds (i:=0) rfl).addr (i:=E0 a) e8) e8) ?_))))))))))))))
 refine qe 15 rfl (Do.storeRow (vs:= [vU n]) (o:=(E0 a) *1+0) (q:=ao f+(E0 a) *1) az rfl e8 rfl Tryz.sizeOf32 rfl rfl (Kk rfl) (jg gT l (Kk rfl)) (jU (y:=n) gT rfl (Kk rfl) l) ?_)
 intro bi P
 refine⟨.inl e9, ?_⟩
 obtain⟨bn,aQ⟩:=mK (ls:=g) (i:=E0 (a - 1)) f2
 obtain⟨bq,aR⟩:=dI (ls:=(J0 g (E0 a) n)) (i:=E0 (a - 1)) gT f5 (P.rds (i:=0) rfl) f2
 refine Hf (v:= .pointer (some ⟨ab f,ao f+(E0 (a - 1)) *1,none⟩)) 16 rfl e9 (λ _=>GI (iC) rfl rfl ((P.rds (i:=0) rfl).addr (i:=E0 (a - 1)) e8) e8) ?_
 obtain⟨bu,K⟩:=mK (ls:=(J0 g (E0 a) n)) (i:=E0 (a - 1)) f2
 refine qe 17 rfl (Do.storeRow (vs:= [vU s]) (o:=(E0 (a - 1)) *1+0) (q:=ao f+(E0 (a - 1)) *1) P rfl e8 rfl Tryz.sizeOf32 rfl rfl (Kk rfl) (jg gT K (Kk rfl)) (jU (y:=s) gT rfl (Kk rfl) K) ?_)
 intro bv aA
 refine⟨.inl e9, ?_⟩
 refine qn (bN (Gs (Gq (Mz rfl (fw (vI (a - 1)) (Gw (e:=v7.wrap (a - 1)) yk i4) (Az rfl (WL.nil ?_)))))))
 have aB:=aA.pf []
 exact GL (a - 1,(J0 (J0 g (E0 a) n) (E0 (a - 1)) s),M) ⟨rfl,rfl,rfl,rfl,rfl,trivial⟩ (B.2 ⟨aB,by first | omega | (simp only [J1] <;> omega) | (simp only [L4]),e8,e8,Eq.trans (E) (Eq.trans (if_pos b) (Eq.trans (ae (bz l)) (Eq.trans (ae (bz t)) (Eq.trans (ae F) (if_pos G)))))⟩) (by show M < M+1; omega)
 refine jF G (Wp.exit (GK (GK (GR (bN ?_)))))
 have aC:=O.pf []
 exact Ia g ⟨rfl,rfl,rfl,rfl,trivial⟩ (z.2 ⟨aC,by first | omega | (simp only [J1] <;> omega) | (simp only [L4]),ae (Eq.trans (E) (Eq.trans (if_pos b) (Eq.trans (ae (bz l)) (Eq.trans (ae (bz t)) (Eq.trans (ae F) (dY G))))))⟩)
 refine Gy (rs:= []) 4 rfl rfl rfl (dF b) e9 (Gy (rs:= []) 5 rfl rfl rfl (dF b) e9 (Gy (rs:= []) 6 rfl rfl rfl (dF b) e9 (Gy (rs:= []) 7 rfl rfl rfl (dF b) e9 (Gy (rs:= []) 8 rfl rfl rfl (dF b) e9 (Gy (rs:= []) 9 rfl rfl rfl (dF b) e9 (Gy (rs:= []) 10 rfl rfl rfl (dF b) e9 (Gy (rs:= []) 11 rfl rfl rfl (dF b) e9 (Gy (rs:= []) 12 rfl rfl rfl (dF b) e9 (Gy (rs:= []) 13 rfl rfl rfl (dF b) e9 (qt (v:= .bool false) 14 rfl (λ _ _=>Gm rfl (dF b) rfl) (qn (Gs (jf (Wp.exit (GK (GK (GR (bN ?_))))))))))))))))))
 have aD:=V.pf []
 exact Ia g ⟨rfl,rfl,rfl,rfl,trivial⟩ (z.2 ⟨aD,by first | omega | (simp only [J1] <;> omega) | (simp only [L4]),ae (Eq.trans (E) (if_neg b))⟩)
 rintro A bA Z
 show Wp _ _ _ [(6,vI c),(0, .slice f h.length r),(1,vI d),(2,vI j)] _ _
 obtain⟨aF,aS,aa⟩:=z.1 Z
 refine Gq (Mz rfl (fw (vI (c+1)) (Gw (e:=v7.wrap (c+1)) yk i4) (Az rfl (WL.nil ?_))))
 have aG:=aF.pf []
 exact GL (c+1,A,L) ⟨rfl,rfl,rfl,rfl,trivial⟩ (u.2 ⟨aG,by first | omega | (simp only [J1] <;> omega) | (simp only [L4]),e8,e8,Eq.trans (J) (Eq.trans (if_pos I) (ae aa))⟩) (by show L < L+1; omega)
 refine jF (dF I) (Wp.exit (GK ?_))
 have af:eF d j ((E0 (j - (d+1)))+1) (d+1) h=m:=et (J) (iN I)
 refine GK (GR (Hq (res0 rfl) ?_))
 have aH:=R.pf []
 obtain rfl:_=m:=zj hr (ae af)
 exact⟨rfl,aH,i7⟩
def jo (b:List Nat) (c:Int) (d:Int) (e:Int):(List Nat):=
 bnd (iD b c d) λ a=>a
theorem qw (w D n o p c a b u r) (H:Own w D w [row n o p (q0 (eN .u64) c) 32 1]) (s:o=c.length) (A:c.length *8<=211106232532992) (B:0<=a/\a<=b/\b<=((c.length:Nat):Int)) (C:b - a<=12) (hr:jo c a b u=r):
    Calls u2 171 #[.slice n o p,vI a,vI b,vI u] w (dG λ v w'=>v= .tuple #[]/\Own w D w' [row n o p (q0 (eN .u64) r) 32 1]/\(r.length=c.length)):=by
 subst s
 have E:=H.rowC (i:=0) rfl
 refine cb Tryz.func171 ?_
 refine sr (Ar rfl (An rfl (bo (IV 200 (bo (sr (Mz rfl (Mz rfl (fw (vI (b - a)) (Gw (e:=v7.wrap (b - a)) yk i4) (An rfl (Gp (sr (Mz rfl (Kz (.bool (decide (b - a<=12))) (nt ?_)))))))))))))))
 have h:(decide (b - a<=12))=true:=(dT e8)
 refine jT h (sr (Mz rfl (Mz rfl (Mz rfl ?_))))
 obtain⟨g,d⟩:∃ q,iD c a b=q:=⟨_,rfl⟩
 obtain⟨F,j,x,k,y⟩:=G9 H
 refine cl Tryz.call204 (oH _ _ n c.length p c a b g j rfl e8 e8 d) ?_
 rintro _ G ⟨rfl,l,f⟩
 have m:=k _ _ l
 have z:=m.rowC (i:=0) rfl
 replace f:g.length=c.length:=f
 refine nt (rt (tR (bR (tR (bR (GM (res0 rfl) ?_))))))
 have t:=m.pf []
 obtain rfl:_=g:=zj hr (ae d)
 exact⟨rfl,t,i7⟩
def gB (b:List Nat):(List Nat):=
 bnd (jo b 0 ((b.length:Nat):Int) ((Go.Sort.bitsLen b.length:Nat):Int)) λ a=>a
theorem nK (w D n o p a r) (H:Own w D w [row n o p (q0 (eN .u64) a) 32 1]) (s:o=a.length) (C:a.length *8<=211106232532992) (E:a.length<=12) (hr:gB a=r):
    Calls u2 122 #[.slice n o p] w (dG λ v w'=>v= .tuple #[]/\Own w D w' [row n o p (q0 (eN .u64) r) 32 1]/\(r.length=a.length)):=by
 subst s
 have F:=H.rowC (i:=0) rfl
 refine cb Tryz.func122 ?_
 refine sr (Mz rfl (Kz (vJ a.length) (An rfl (Gq (Mz rfl (Mz rfl (Mz rfl (fw (vU a.length) (Gw (e:=IntKind.u64.wrap ((a.length:Nat):Int)) yk (IntWalk.u64_in _ e8)) ?_))))))))
 obtain⟨G,f,x,g,y⟩:=Gr H
 refine cl Tryz.call172 (DL _ _ a.length f e8) ?_
 rintro _ I ⟨rfl,h⟩
 have t:=g _ _ h
 obtain⟨d,b⟩:∃ q,jo a 0 ((a.length:Nat):Int) ((Go.Sort.bitsLen a.length:Nat):Int)=q:=⟨_,rfl⟩
 obtain⟨J,j,z,k,A⟩:=G9 t
 refine cl Tryz.call171 (qw _ _ n a.length p a 0 ((a.length:Nat):Int) ((Go.Sort.bitsLen a.length:Nat):Int) d j rfl e8 e8 e8 b) ?_
 rintro _ K ⟨rfl,l,c⟩
 have m:=k _ _ l
 have B:=m.rowC (i:=0) rfl
 replace c:d.length=a.length:=c
 refine WL.nil (Hq (res0 rfl) ?_)
 have u:=m.pf []
 obtain rfl:_=d:=zj hr (ae b)
 exact⟨rfl,u,i7⟩
end
open List renaming drop->r7,getD->v1,map->r8,mem_cons->t7,mem_of_getElem?->C1,not_mem_nil->u4,toArray->u3
open Sum renaming inl->v0,inr->v2
open _root_.Go.Proofs.Tryz renaming isAgg112->L7,isAgg118->L8,isAgg164->L5,isAgg37->B5,isAgg4->F0,isAgg97->M0,sizeOf118->L9,sizeOf164->L6,sizeOf194->M1,sizeOf37->B4
open WL renaming nil->v8
open Wp renaming exit->v9,loop->v4
section
open Go.RowKit
structure ay where
 au:Nat
 aC:Sv aD
 bn:Bool
 bf:aD
def ay.cells (x:ay):List Value:= [.int .u64 ((x.au:Nat):Int), .slice x.aC.A x.aC.ls.length x.aC.c, .bool x.bn, .string ⟨u3 x.bf.aB.aO⟩, .string ⟨u3 x.bf.aB.aS⟩, .bool x.bf.eH]
instance:Bk ay:=⟨λ x _=>bk x.au+(bk x.aC+(bk x.bn+(bk x.bf+(0))))⟩
theorem ay.len:∀ x,(ay.cells x).length=6:=λ _=>rfl
theorem ay.one:∀ x, ∀ u ∈ ay.cells x,u.oneCell'=true:=λ x u hu=>by
 simp only [ay.cells,t7,u4,or_false] at hu
 rcases hu with rfl | rfl | rfl | rfl | rfl | rfl <;> rfl
def JP (w:World) (x:ay):Prop:=(x.au<=18446744073709551615)/\(mZ w 3 40 aD.cells (IP w) x.aC)/\(True)/\(IP w x.bf)
instance:Inhabited ay:=⟨⟨default,default,default,default⟩⟩
structure aK where
 au:Nat
 aC:Ll aD
 bn:Bool
 bf:aD
instance:Inhabited aK:=⟨⟨default,default,default,default⟩⟩
def ay.abs (x:ay):aK:=⟨x.au,⟨x.aC.ls⟩,x.bn,x.bf⟩
def GU (x:ay):List HP:= [row x.aC.A x.aC.ls.length x.aC.c (q0 aD.cells x.aC.ls) 118 3]
def Hd (l:List aK):Prop:=∀ r ∈ l,r.aC.ls.length<=1000000
def dZ (c:Nat) (d:Nat):Int:=
 bnd (iP c) λ b=>bnd (iP d) λ a=>if b=true then if a=true then 0 else(-1) else if a=true then 1 else if(c:Int) < (d:Int) then(-1) else if(c:Int) > (d:Int) then 1 else 0
theorem lU (w D i j C) (H:Own w D w []) (hr:dZ i j=C):
    Calls u2 129 #[vU i,vU j] w (dG λ v w'=>v=vI C/\Own w D w' []):=by
 unfold dZ at hr
 refine cb Tryz.func129 ?_
 refine sr (Ar rfl (Mz rfl ?_))
 obtain⟨l,a⟩:∃ q,iP i=q:=⟨_,rfl⟩
 obtain⟨J,m,E,n,F⟩:=Gr H
 refine cl Tryz.call175 (mM _ _ i l m a) ?_
 rintro _ K ⟨rfl,o⟩
 have t:=n _ _ o
 refine Ar rfl (Mz rfl ?_)
 obtain⟨k,b⟩:∃ q,iP j=q:=⟨_,rfl⟩
 obtain⟨L,p,G,r,I⟩:=Gr t
 refine cl Tryz.call175 (mM _ _ j k p b) ?_
 rintro _ M ⟨rfl,s⟩
 have e:=r _ _ s
 refine An rfl (Gp (sr (Mn rfl ?_)))
 rcases Kq (l) with c | c
 refine jT c (Gp (sr (Mn rfl ?_)))
 rcases Kq (k) with f | f
 refine jT f (sr (An rfl (rt (tR (tR (rs ?_))))))
 have u:=e.pk []
 obtain rfl:=zj hr zq4
 exact⟨rfl,u⟩
 refine jF f (sk (sr (An rfl (rt (tR (rs ?_))))))
 have x:=e.pk []
 obtain rfl:=zj hr zq4
 exact⟨rfl,x⟩
 refine jF c (sk (Gp (sr (Mn rfl ?_))))
 rcases Kq (k) with d | d
 refine jT d (sr (An rfl (rt (tR (rs ?_)))))
 have y:=e.pk []
 obtain rfl:=zj hr zq4
 exact⟨rfl,y⟩
 refine jF d (sk (Gp (sr (Mz rfl (Mz rfl (Kz (.bool (decide ((i:Int) < (j:Int)))) (nt ?_)))))))
 by_cases g:(i:Int) < (j:Int)
 refine jT (dT g) (sr (An rfl (rt (tR (rs ?_)))))
 have z:=e.pk []
 obtain rfl:=zj hr zq5
 exact⟨rfl,z⟩
 refine jF (dF g) (sk (Gp (sr (Mz rfl (Mz rfl (Kz (.bool (decide ((i:Int) > (j:Int)))) (nt ?_)))))))
 by_cases h:(i:Int) > (j:Int)
 refine jT (dT h) (sr (An rfl (rt (tR (rs ?_)))))
 have A:=e.pk []
 obtain rfl:=zj hr zq6
 exact⟨rfl,A⟩
 refine jF (dF h) (sk (sr (An rfl (rt (rs ?_)))))
 have B:=e.pk []
 obtain rfl:=zj hr zq6
 exact⟨rfl,B⟩
theorem ja:Elem u2 112 164 6 80:=mh (z:= .agg #[.int .u64 0, .slice none 0 0, .bool false, .string ⟨u3 []⟩, .string ⟨u3 []⟩, .bool false]) Tryz.underlying112 e9 rfl f5
structure mF where
 ai:Sv ay
def mF.cells (x:mF):List Value:= [.slice x.ai.A x.ai.ls.length x.ai.c]
instance:Bk mF:=⟨λ x _=>bk x.ai+(0)⟩
theorem mF.len:∀ x,(mF.cells x).length=1:=λ _=>rfl
theorem mF.one:∀ x, ∀ u ∈ mF.cells x,u.oneCell'=true:=λ x u hu=>by
 simp only [mF.cells,t7,u4,or_false] at hu
 rcases hu with rfl <;> rfl
def J9 (w:World) (x:mF):Prop:=(mZ w 6 80 ay.cells (JP w) x.ai)
instance:Inhabited mF:=⟨⟨default⟩⟩
structure aZ where
 ai:Ll aK
instance:Inhabited aZ:=⟨⟨default⟩⟩
def mF.abs (x:mF):aZ:=⟨⟨r8 ay.abs x.ai.ls⟩⟩
def JZ (x:mF):List HP:= [row x.ai.A x.ai.ls.length x.ai.c (q0 ay.cells x.ai.ls) 164 6,sepL (q0 GU x.ai.ls)]
def dL (f:List aK) (g:Nat):Nat->Nat->Nat->Nat
  | 0,a,b=>default
  | c+1,a,b=>if(a:Int) < (b:Int) then bnd (v1 f ((a+b) / 2) default) λ d=>bnd (dZ d.au g) λ e=>if e < 0 then dL f g c (((a+b) / 2)+1) b else dL f g c a ((a+b) / 2) else a
def gF (a:List aK) (d:Nat):Int × Bool:=
 bnd (dL a d ((a.length - 0)+1) 0 a.length) λ sLrL=>if(sLrL:Int) < (a.length:Int) then bnd (v1 a sLrL default) λ b=>bnd (dZ b.au d) λ c=>((sLrL:Int),decide (c=0)) else((sLrL:Int),false)
theorem lS (w D z Z Y d0 f o K r1) (H:Own w D w []) (I:r8 ay.abs d0=f) (j:Ro w D λ w'=>bM w' 6 z Z (q0 ay.cells d0)) (L:∀ x ∈ d0,Ro w D (λ w'=>bM w' 3 x.aC.A x.aC.ls.length (q0 aD.cells x.aC.ls))/\(x.aC.ls.length<=x.aC.c/\x.aC.ls.length<=9223372036854775807)) (af:Z=f.length) (aN:f.length *80<=211106232532992) (hr:gF f o=(K,r1)):
    Calls u2 166 #[.slice z Z Y,vU o, .func (.func 167) #[] #[]] w (dG λ v w'=>v= .tuple #[vI K, .bool r1]/\Own w D w' []/\(0<=K/\K<=((f.length:Nat):Int))/\(Bool.toNat r1=0\/K < ((f.length:Nat):Int))):=by
 unfold gF at hr
 subst af
 have aA:=aW I
 refine cb Tryz.func166 ?_
 refine sr (Az rfl (Ar rfl (Mz rfl (Kz (vJ f.length) (Ar rfl (Mz rfl (Az rfl (An rfl (Gp (bo ?_))))))))))
 have ag:=H.pk []
 obtain⟨ah,h⟩:=xW λ (a:Nat) (b:Nat) (p:Nat) w'=>Own w D w' []/\a<=b/\b<=f.length/\b - a < p/\dL f o ((f.length - 0)+1) 0 f.length=dL f o p a b
 refine v4 (λ i:Nat × Nat × Nat=> [(9,vJ i.1),(10,vJ i.2.1),(8,vJ f.length),(7, .bool false),(6,vI 0),(0, .slice z f.length Y),(1,vU o),(2, .func (.func 167) #[] #[])]) ah (λ i=>i.2.2) (0,f.length,(f.length - 0)+1) ⟨rfl,rfl,rfl,rfl,rfl,rfl,rfl,rfl,trivial⟩ (h.2 ⟨ag,e8,e8,e8,rfl⟩) ?_
 rintro ⟨a,b,p⟩ aO M
 show Wp _ _ _ [(9,vJ a),(10,vJ b),(8,vJ f.length),(7, .bool false),(6,vI 0),(0, .slice z f.length Y),(1,vU o),(2, .func (.func 167) #[] #[])] _ _
 obtain⟨g,aB,aC,aF,r⟩:=h.1 M
 obtain⟨l,N⟩:∃ q,p=q+1:=⟨p - 1,e8⟩
 subst N
 refine Gp (sr (Mz rfl (Mz rfl (Kz (.bool (decide ((a:Int) < (b:Int)))) (nt ?_)))))
 by_cases s:(a:Int) < (b:Int)
 refine jT (dT s) (sk (bo (sr (Mz rfl (Mz rfl (fw (vJ (a+b)) (Gw (e:=v7.wrap ((a:Int)+(b:Int))) yk f1) (fw (vU (a+b)) (Gw (e:=IntKind.u64.wrap ((a+b:Nat):Int)) yk (IntWalk.u64_in _ e8)) (fw (vU ((a+b) / 2)) (Gw (e:=Int.fdiv ((a+b:Nat):Int) 2) yk (uw _ 1 _ f5)) (fw (vJ ((a+b) / 2)) (Gw (e:=v7.wrap (((a+b) / 2:Nat):Int)) yk (Kl _ e8)) (Ar rfl (Mz rfl (Mz rfl (Mz rfl ?_)))))))))))))
 obtain⟨m,t⟩:=dI (ls:=d0) (i:=(a+b) / 2) ay.len f5 (g.ro j) f2
 have E:=fO I t
 have aG:=(L _ (C1 t)).2
 refine fw (.pointer (some ⟨ab z,ao z+((a+b) / 2) *6,none⟩)) (GI (ja) rfl rfl ((g.ro j).addr (i:=(a+b) / 2) e8) e8) (fw (.agg (ay.cells m).toArray) (GH rfl (GJ (cs:=(ay.cells m)) L5 L6 ((g.ro j).elem ay.len t f5))) (Mz rfl ?_))
 refine WL.do rfl (Hg Tryz.call167 rfl rfl ?_ (λ _ _ k=>k))
 refine cb Tryz.func167 ?_
 refine sr ?_
 refine bW (ay.cells m) 164 g ?_
 intro ai aP O
 refine Ar rfl (Kz (vP ai 0) (Lz (vU m.au) O 0 C4 (Mz rfl ?_)))
 obtain⟨J,u⟩:∃ q,dZ m.au o=q:=⟨_,rfl⟩
 obtain⟨aQ,P,aH,Q,aI⟩:=Gr O
 refine cl Tryz.call129 (lU _ _ m.au o J P u) ?_
 rintro _ aR ⟨rfl,R⟩
 have S:=Q _ _ R
 refine An rfl (rt (rs (Kz (.bool (decide (J < 0))) (nt ?_))))
 by_cases B:J < 0
 refine jT (dT B) (Gq (Mz rfl (fw (vI ((((a+b) / 2)+1:Nat):Int)) (Gw (e:=v7.wrap ((((a+b) / 2:Nat):Int)+1)) yk f1) (Az rfl (v8 (bN ?_))))))
 have aj:=S.pk []
 exact GL (((a+b) / 2)+1,b,l) ⟨rfl,rfl,rfl,rfl,rfl,rfl,rfl,rfl,trivial⟩ (h.2 ⟨aj,e8,e8,e8,et (r) (et (ip s) (et (ae (bz E)) (et (ae u) (ip B))))⟩) (by show l < l+1; omega)
 refine jF (dF B) (Gq (Mz rfl (Az rfl (v8 (bN ?_)))))
 have ak:=S.pk []
 exact GL (a,(a+b) / 2,l) ⟨rfl,rfl,rfl,rfl,rfl,rfl,rfl,rfl,trivial⟩ (h.2 ⟨ak,e8,e8,e8,et (r) (et (ip s) (et (ae (bz E)) (et (ae u) (iN B))))⟩) (by show l < l+1; omega)
 refine jF (dF s) (v9 (GK ?_))
 have F:dL f o ((f.length - 0)+1) 0 f.length=a:=et (r) (iN s)
 refine GK (GR (Gs (sr (Mz rfl (Mz rfl (Mz rfl (Kz (.bool (decide ((a:Int) < (f.length:Int)))) (Mz rfl ?_))))))))
 by_cases d:(a:Int) < (f.length:Int)
 refine gw (.func (.func 167) #[] #[]) (dT d) (Gv rfl) (gw (.slice z f.length Y) (dT d) (Gv rfl) (gw (vJ a) (dT d) (Gv rfl) ?_))
 obtain⟨n,y⟩:=dI (ls:=d0) (i:=a) ay.len f5 (g.ro j) f2
 have T:=fO I y
 have aJ:=(L _ (C1 y)).2
 refine gw (.pointer (some ⟨ab z,ao z+a *6,none⟩)) (dT d) (GI (ja) rfl rfl ((g.ro j).addr (i:=a) e8) e8) (gw (.agg (ay.cells n).toArray) (dT d) (GH rfl (GJ (cs:=(ay.cells n)) L5 L6 ((g.ro j).elem ay.len y f5))) (gw (vU o) (dT d) (Gv rfl) ?_))
 refine H7 rfl rfl (dT d) rfl (Hg Tryz.call167 rfl rfl ?_ (λ _ _ k=>k))
 refine cb Tryz.func167 ?_
 refine sr ?_
 refine bW (ay.cells n) 164 g ?_
 intro au aS U
 refine Ar rfl (Kz (vP au 0) (Lz (vU n.au) U 0 C4 (Mz rfl ?_)))
 obtain⟨C,G⟩:∃ q,dZ n.au o=q:=⟨_,rfl⟩
 obtain⟨aT,V,aL,W,aM⟩:=Gr U
 refine cl Tryz.call129 (lU _ _ n.au o C V G) ?_
 rintro _ aU ⟨rfl,X⟩
 have av:=W _ _ X
 refine An rfl (rt (rs (Gz (.bool (decide (C=0))) (dT d) (fw (.bool (decide (C=0))) (Gu rfl (dT d) rfl) (Az rfl (An rfl (rt (GM (j6 rfl rfl rfl) ?_))))))))
 have ax:=av.pk []
 obtain⟨rfl,rfl⟩:=fC (zj hr (show _=(((a:Nat):Int),decide (C=0)) from et (ae F) (et (ip d) (et (ae (bz T)) (ae G)))))
 exact⟨rfl,ax,e8,i2⟩
 refine Sz (dF d) (Sz (dF d) (Sz (dF d) (Sz (dF d) (Sz (dF d) (Sz (dF d) (Sz (dF d) (Sz (dF d) (fw (.bool false) (Gm rfl (dF d) rfl) (Az rfl (An rfl (rt (GM (j6 rfl rfl rfl) ?_))))))))))))
 have az:=g.pk []
 obtain⟨rfl,rfl⟩:=fC (zj hr zq2)
 exact⟨rfl,az,e8,i2⟩
def eG (b:aZ) (c:Nat):Int × Bool:=
 bnd (gF b.ai.ls c) λ a=>(a.1,a.2)
theorem lD (w D o) (d:aZ) (a b e u p z) (H:Own w D w [blk o [.slice a d.ai.ls.length b] 114]) (g:r8 ay.abs e=d.ai.ls) (n:Ro w D λ w'=>bM w' 6 a d.ai.ls.length (q0 ay.cells e)) (B:d.ai.ls.length<=b/\d.ai.ls.length<=9223372036854775807) (h:∀ x ∈ e,Ro w D (λ w'=>bM w' 3 x.aC.A x.aC.ls.length (q0 aD.cells x.aC.ls))/\(x.aC.ls.length<=x.aC.c/\x.aC.ls.length<=9223372036854775807)) (J:d.ai.ls.length<=1000000) (hr:eG d u=(p,z)):
    Calls u2 114 #[vP o 0,vU u] w (dG λ v w'=>v= .tuple #[vI p, .bool z]/\Own w D w' [blk o [.slice a d.ai.ls.length b] 114]/\(0<=p/\p<=((d.ai.ls.length:Nat):Int))/\(Bool.toNat z=0\/p < ((d.ai.ls.length:Nat):Int))):=by
 unfold eG at hr
 have y:=aW g
 refine cb Tryz.func114 ?_
 refine sr (Az rfl (Ar rfl (Mz rfl (Kz (vP o 0) (Kz (vP o 0) (Lz (.slice a d.ai.ls.length b) H 0 L7 (Mz rfl ?_)))))))
 obtain⟨⟨f,i⟩,j⟩:∃ q:Int × Bool,gF d.ai.ls u=q:=⟨_,rfl⟩
 obtain⟨K,r,k,s,F⟩:=Gr H
 refine cl Tryz.call166 (lS _ _ a d.ai.ls.length b e d.ai.ls u f i r g (k _ n) (λ G I=>⟨k _ (h G I).1,(h G I).2⟩) rfl e8 j) ?_
 rintro _ L ⟨rfl,t,l,m⟩
 have C:=s _ _ t
 replace l:0<=f/\f<=(d.ai.ls.length:Int):=l
 replace m:Bool.toNat i=0\/f < (d.ai.ls.length:Int):=m
 refine Kz (vI f) (Kz (.bool i) (Az rfl (An rfl (rt (GM (j6 rfl rfl rfl) ?_)))))
 have E:=C.pf []
 obtain⟨rfl,rfl⟩:=fC (zj hr zq1)
 exact⟨rfl,E,e8,i2⟩
def gH (c:aZ) (d:Nat):Bool:=
 bnd (eG c d) λ a=>if a.2=true then bnd (v1 c.ai.ls (E0 a.1) default) λ b=>b.bn else false
theorem um (w D y) (j:aZ) (b f h G M) (H:Own w D w [blk y [.slice b j.ai.ls.length f] 114]) (l:r8 ay.abs h=j.ai.ls) (g:Ro w D λ w'=>bM w' 6 b j.ai.ls.length (q0 ay.cells h)) (J:j.ai.ls.length<=f/\j.ai.ls.length<=9223372036854775807) (m:∀ x ∈ h,Ro w D (λ w'=>bM w' 3 x.aC.A x.aC.ls.length (q0 aD.cells x.aC.ls))/\(x.aC.ls.length<=x.aC.c/\x.aC.ls.length<=9223372036854775807)) (R:j.ai.ls.length<=1000000) (hr:gH j G=M):
    Calls u2 68 #[vP y 0,vU G] w (dG λ v w'=>v= .bool M/\Own w D w' [blk y [.slice b j.ai.ls.length f] 114]):=by
 unfold gH at hr
 have I:=aW l
 refine cb Tryz.func68 ?_
 refine sr (Ar rfl (Mz rfl (Mz rfl ?_)))
 obtain⟨⟨d,n⟩,p⟩:∃ q:Int × Bool,eG j G=q:=⟨_,rfl⟩
 obtain⟨S,B,s,C,N⟩:=G9 H
 refine cl Tryz.call114 (lD _ _ y j b f h G d n B l (s _ g) e8 (λ O P=>⟨s _ (m O P).1,(m O P).2⟩) f9 p) ?_
 rintro _ T ⟨rfl,E,t,u⟩
 have o:=C _ _ E
 replace t:0<=d/\d<=(j.ai.ls.length:Int):=t
 replace u:Bool.toNat n=0\/d < (j.ai.ls.length:Int):=u
 refine Mz rfl (Kz (vI d) (Kz (.bool n) (Az rfl (Ar rfl (Mz rfl (Mz rfl ?_))))))
 rcases Kq (n) with a | a
 have h34t:Bool.toNat n=1:=by rw [a]; rfl
 refine Hm (v:=vP y 0) rfl rfl a rfl (Gv rfl) (Gz (vP y 0) a (Gz (vP y 0) a (Gl (.slice b j.ai.ls.length f) a o 0 L7 (Hm (v:=vJ (E0 d)) rfl rfl a rfl (Gw (e:=d) (Gv rfl) e8) ?_))))
 obtain⟨z,r⟩:=dI (ls:=h) (i:=E0 d) ay.len f5 (o.ro g) f2
 have F:=fO l r
 have Q:=(m _ (C1 r)).2
 refine Hm (v:= .pointer (some ⟨ab b,ao b+(E0 d) *6,none⟩)) rfl rfl a rfl (GI (ja) rfl rfl ((o.ro g).addr (i:=E0 d) e8) e8) (Gz (.pointer (some ⟨ab b,ao b+(E0 d) *6+2,none⟩)) a (Hm (v:= .bool z.bn) rfl rfl a rfl (GH rfl (bS.one F0 (((o.ro g).elem ay.len r f5).at_ (k:=2) rfl))) (fw (.bool z.bn) (Gu rfl a rfl) (An rfl (rt (rs ?_))))))
 have K:=o.pf []
 obtain rfl:=zj hr zq3
 exact⟨rfl,K⟩
 have h34t:Bool.toNat n=0:=by rw [a]; rfl
 refine Sz a (Sz a (Sz a (Sz a (Sz a (Sz a (Sz a (Sz a (fw (.bool false) (Gm rfl a rfl) (An rfl (rt (rs ?_)))))))))))
 have L:=o.pf []
 obtain rfl:=zj hr zq2
 exact⟨rfl,L⟩
def dS (a:aD):List aD->Nat->Unit ⊕ Int
  | [],b=>v0 ()
  | c::d,b=>bnd (pU c.aB a.aB) λ e=>if e=true then if c.eH=true then v2 (b:Int) else if a.eH=true then dS a d (b+1) else v2 (b:Int) else dS a d (b+1)
def kC (b:List aD) (a:aD):Int:=
 lp (dS a b 0) λ _=>(-1)
theorem oI (w D x I J g d) (a:aD) (W) (H:Own w D w [blk d (aD.cells a) 118]) (t:Ro w D λ w'=>bM w' 3 x I (q0 aD.cells g)) (K:I=g.length) (aa:g.length<=9223372036854775807) (hr:kC g a=W):
    Calls u2 168 #[.slice x I J, .func (.func 116) #[] #[vP d 0]] w (dG λ v w'=>v=vI W/\Own w D w' [blk d (aD.cells a) 118]):=by
 subst K
 refine cb Tryz.func168 ?_
 refine sr (An rfl (Gp (sr (Mz rfl (Kz (vJ g.length) (Mn rfl (bo ?_)))))))
 have L:=H.pf []
 obtain⟨M,m⟩:=mP λ (b:Nat) w'=>Own w D w' [blk d (aD.cells a) 118]/\b<=g.length/\dS a g 0=dS a (r7 b g) b
 refine v4 (λ i:Nat=> [(4,vI 0),(8,vJ i),(7,vJ g.length),(0, .slice x g.length J),(1, .func (.func 116) #[] #[vP d 0])]) M (λ i=>g.length - i) 0 ⟨rfl,rfl,rfl,rfl,rfl,trivial⟩ (m.2 ⟨L,e8,rfl⟩) ?_
 rintro b af y
 show Wp _ _ _ [(4,vI 0),(8,vJ b),(7,vJ g.length),(0, .slice x g.length J),(1, .func (.func 116) #[] #[vP d 0])] _ _
 obtain⟨p,X,j⟩:=m.1 y
 refine sr (Kz (.bool (decide ((b:Int) < (g.length:Int)))) (nt (Gp ?_)))
 by_cases z:(b:Int) < (g.length:Int)
 obtain⟨h,s⟩:=dI (ls:=g) (i:=b) aD.len f5 (p.ro t) f2
 have n:=drop_at s
 refine jT (dT z) (sk (Gp (bo (sr (Mz rfl (Ar rfl (Mz rfl (Mz rfl (Mz rfl (fw (.pointer (some ⟨ab x,ao x+b *3,none⟩)) (GI (uk) rfl rfl ((p.ro t).addr (i:=b) e8) e8) (fw (.agg (aD.cells h).toArray) (GH rfl (GJ (cs:=(aD.cells h)) L8 L9 ((p.ro t).elem aD.len s f5))) ?_)))))))))))
 refine WL.do rfl (Hg Tryz.call116 rfl rfl ?_ (λ _ _ k=>k))
 refine cb Tryz.func116 ?_
 refine sr ?_
 refine bW (aD.cells h) 118 p ?_
 intro A ag u
 refine Ar rfl (Kz (vP A 0) (La (aj.cells h.aB) u 0 B5 B4 (Kz (vP d 0) (La (aj.cells a.aB) u 1 B5 B4 ?_))))
 obtain⟨B,l⟩:∃ q,pU h.aB a.aB=q:=⟨_,rfl⟩
 obtain⟨ah,C,Y,E,Z⟩:=Gr u
 refine cl Tryz.call117 (uA _ _ h.aB a.aB B C l) ?_
 rintro _ ai ⟨rfl,F⟩
 have o:=E _ _ F
 refine Mz rfl ?_
 rcases Kq (B) with c | c
 refine Gz (vP A 2) c (Gl (.bool h.eH) c o 0 F0 (Hm (v:= .bool h.eH) rfl rfl c rfl (Gv rfl) ?_))
 rcases Kq (h.eH) with f | f
 refine Sz f (Sz f (Sz f (Hm (v:= .bool true) rfl rfl c rfl (Gu rfl f rfl) (fw (.bool true) (Gu rfl c rfl) (An rfl (rt (rs (nt (jt (Gp ?_))))))))))
 have N:=o.pk [1]
 refine Gq (Mz rfl (An rfl (rt (bR (tR (tR (bR (tR (rs ?_)))))))))
 have O:=N.pf []
 obtain rfl:_=(b:Int):=zj hr (iG (et (j) (et (congrArg (λ q=>dS a q b) n) (et (ae l) (et (ip c) (ip f))))))
 exact⟨rfl,O⟩
 refine Gz (vP d 2) f (Gl (.bool a.eH) f o 1 F0 (Gz (.bool (!a.eH)) f (Hm (v:= .bool (!a.eH)) rfl rfl c rfl (Gm rfl f rfl) (fw (.bool (!a.eH)) (Gu rfl c rfl) (An rfl (rt (rs (nt ?_))))))))
 rcases Kq (a.eH) with r | r
 refine jF (cn r) (G7 (bN (Gs ?_)))
 have P:=o.pk [1]
 refine Gq (fw (vJ (b+1)) (Gw (e:=v7.wrap ((b:Int)+1)) yk f1) (Mz rfl (v8 ?_)))
 have Q:=P.pf []
 exact GL (b+1) ⟨rfl,rfl,rfl,rfl,rfl,trivial⟩ (m.2 ⟨Q,e8,et (j) (et (congrArg (λ q=>dS a q b) n) (et (ae l) (et (ip c) (et (dY f) (ip r)))))⟩) (by show g.length - (b+1) < g.length - b; omega)
 refine jT (cn r) (Gp ?_)
 have R:=o.pk [1]
 refine Gq (Mz rfl (An rfl (rt (bR (tR (tR (bR (tR (rs ?_)))))))))
 have S:=R.pf []
 obtain rfl:_=(b:Int):=zj hr (iG (et (j) (et (congrArg (λ q=>dS a q b) n) (et (ae l) (et (ip c) (et (dY f) (dY r)))))))
 exact⟨rfl,S⟩
 refine Sz c (Sz c (Sz c (GA rfl rfl rfl (GA rfl rfl rfl (GA rfl rfl rfl (Sz c (fw (.bool false) (Gm rfl c rfl) (An rfl (rt (rs (nt (jf (G7 (bN (Gs ?_)))))))))))))))
 have T:=o.pk [1]
 refine Gq (fw (vJ (b+1)) (Gw (e:=v7.wrap ((b:Int)+1)) yk f1) (Mz rfl (v8 ?_)))
 have U:=T.pf []
 exact GL (b+1) ⟨rfl,rfl,rfl,rfl,rfl,trivial⟩ (m.2 ⟨U,e8,et (j) (et (congrArg (λ q=>dS a q b) n) (et (ae l) (dY c)))⟩) (by show g.length - (b+1) < g.length - b; omega)
 refine jF (dF z) (v9 (GK ?_))
 have G:dS a g 0=v0 ():=et (j) (et (congrArg (λ q=>dS a q b) (eP (ls:=g) (i:=b) e8)) rfl)
 refine GK (GR (Gs (sr (An rfl (rt (rs ?_))))))
 have V:=p.pf []
 obtain rfl:_=(-1):=zj hr (kZ G)
 exact⟨rfl,V⟩
def jM (c:List aD) (a:aD):Bool:=
 bnd (kC c a) λ b=>decide (b >= 0)
theorem nV (w D j k p d b) (a:aD) (r) (H:Own w D w [blk b (aD.cells a) 118]) (l:Ro w D λ w'=>bM w' 3 j k (q0 aD.cells d)) (m:k=d.length) (t:d.length<=9223372036854775807) (hr:jM d a=r):
    Calls u2 115 #[.slice j k p, .func (.func 116) #[] #[vP b 0]] w (dG λ v w'=>v= .bool r/\Own w D w' [blk b (aD.cells a) 118]):=by
 unfold jM at hr
 subst m
 refine cb Tryz.func115 ?_
 refine sr (Ar rfl (Mz rfl (Mz rfl ?_)))
 obtain⟨e,c⟩:∃ q,kC d a=q:=⟨_,rfl⟩
 obtain⟨u,f,g,h,s⟩:=G9 H
 refine cl Tryz.call168 (oI _ _ j d.length p d b a e f (g _ l) rfl e8 c) ?_
 rintro _ x ⟨rfl,i⟩
 have n:=h _ _ i
 refine Kz (.bool (decide (e >= 0))) (An rfl (rt (rs ?_)))
 have o:=n.pf []
 obtain rfl:=zj hr zq1
 exact⟨rfl,o⟩
def kG (d:aZ) (e:Nat) (f:aD):Bool:=
 bnd (eG d e) λ a=>if a.2=true then bnd (v1 d.ai.ls (E0 a.1) default) λ b=>bnd (jM b.aC.ls f) λ c=>c else false
theorem wB (w D B) (m:aZ) (b f j P) (E:aD) (Y) (H:Own w D w [blk B [.slice b m.ai.ls.length f] 114]) (n:r8 ay.abs j=m.ai.ls) (g:Ro w D λ w'=>bM w' 6 b m.ai.ls.length (q0 ay.cells j)) (R:m.ai.ls.length<=f/\m.ai.ls.length<=9223372036854775807) (h:∀ x ∈ j,Ro w D (λ w'=>bM w' 3 x.aC.A x.aC.ls.length (q0 aD.cells x.aC.ls))/\(x.aC.ls.length<=x.aC.c/\x.aC.ls.length<=9223372036854775807)) (ai:m.ai.ls.length<=1000000) (hr:kG m P E=Y):
    Calls u2 69 #[vP B 0,vU P, .agg (aD.cells E).toArray] w (dG λ v w'=>v= .bool Y/\Own w D w' [blk B [.slice b m.ai.ls.length f] 114]):=by
 unfold kG at hr
 have Q:=aW n
 refine cb Tryz.func69 ?_
 refine sr ?_
 refine bW (aD.cells E) 118 H ?_
 intro F aj S
 refine Ar rfl (Mz rfl (Mz rfl ?_))
 have T:=S.pb [0]
 obtain⟨⟨d,p⟩,s⟩:∃ q:Int × Bool,eG m P=q:=⟨_,rfl⟩
 obtain⟨ak,G,t,I,Z⟩:=G9 T
 refine cl Tryz.call114 (lD _ _ B m b f j P d p G n (t _ g) e8 (λ x9 h9=>⟨t _ (h x9 h9).1,(h x9 h9).2⟩) f9 s) ?_
 rintro _ au ⟨rfl,J,u,y⟩
 have r:=I _ _ J
 replace u:0<=d/\d<=(m.ai.ls.length:Int):=u
 replace y:Bool.toNat p=0\/d < (m.ai.ls.length:Int):=y
 refine Mz rfl (Kz (vI d) (Kz (.bool p) (Az rfl (Ar rfl (Mz rfl (Mz rfl ?_))))))
 rcases Kq (p) with a | a
 have h38t:Bool.toNat p=1:=by rw [a]; rfl
 refine Hm (v:=vP B 0) rfl rfl a rfl (Gv rfl) (Gz (vP B 0) a (Gz (vP B 0) a (Gl (.slice b m.ai.ls.length f) a r 0 L7 (Hm (v:=vJ (E0 d)) rfl rfl a rfl (Gw (e:=d) (Gv rfl) e8) ?_))))
 obtain⟨l,o⟩:=dI (ls:=j) (i:=E0 d) ay.len f5 (r.ro g) f2
 have K:=fO n o
 have ag:=(h _ (C1 o)).2
 refine Hm (v:= .pointer (some ⟨ab b,ao b+(E0 d) *6,none⟩)) rfl rfl a rfl (GI (ja) rfl rfl ((r.ro g).addr (i:=E0 d) e8) e8) (Gz (.pointer (some ⟨ab b,ao b+(E0 d) *6+1,none⟩)) a (Hm (v:= .slice l.aC.A l.aC.ls.length l.aC.c) rfl rfl a rfl (GH rfl (bS.one M0 (((r.ro g).elem ay.len o f5).at_ (k:=1) rfl))) (Gz (.func (.func 116) #[] #[vP F 0]) a ?_)))
 have U:=r.pb [0]
 obtain⟨C,z⟩:∃ q,jM l.aC.ls E=q:=⟨_,rfl⟩
 obtain⟨av,L,M,N,ah⟩:=G9 U
 refine H7 rfl rfl a rfl (GV Tryz.call115 rfl (nV _ _ l.aC.A l.aC.ls.length l.aC.c l.aC.ls F E C L (M _ (h _ (C1 o)).1) rfl e8 z) ?_)
 rintro _ ax ⟨rfl,O⟩
 have V:=N _ _ O
 refine fw (.bool C) (Gu rfl a rfl) (An rfl (rt (rs ?_)))
 have W:=V.pk [1]
 obtain rfl:_=C:=zj hr (et (ae s) (et (ip a) (et (ae (bz K)) (ae z))))
 exact⟨rfl,W⟩
 have h38t:Bool.toNat p=0:=by rw [a]; rfl
 refine Sz a (Sz a (Sz a (Sz a (Sz a (Sz a (Sz a (Sz a (Sz a (Sz a (fw (.bool false) (Gm rfl a rfl) (An rfl (rt (rs ?_)))))))))))))
 have X:=r.pk [0]
 obtain rfl:=zj hr zq2
 exact⟨rfl,X⟩
def gN:List aK->Int->Int
  | [],a=>a
  | b::c,a=>if b.bn=true then gN c (v7.wrap ((v7.wrap (a+(b.aC.ls.length:Int)))+1)) else gN c (v7.wrap (a+(b.aC.ls.length:Int)))
def l8 (a:aZ):Int:=
 bnd (gN a.ai.ls 0) λ sLrL=>sLrL
theorem uS (w D y) (d:aZ) (b h k R) (H:Own w D w [blk y [.slice b d.ai.ls.length h] 114]) (m:r8 ay.abs k=d.ai.ls) (j:Ro w D λ w'=>bM w' 6 b d.ai.ls.length (q0 ay.cells k)) (I:d.ai.ls.length<=h/\d.ai.ls.length<=9223372036854775807) (u:∀ x ∈ k,Ro w D (λ w'=>bM w' 3 x.aC.A x.aC.ls.length (q0 aD.cells x.aC.ls))/\(x.aC.ls.length<=x.aC.c/\x.aC.ls.length<=9223372036854775807)) (U:d.ai.ls.length<=1000000) (hr:l8 d=R):
    Calls u2 70 #[vP y 0] w (dG λ v w'=>v=vI R/\Own w D w' [blk y [.slice b d.ai.ls.length h] 114]):=by
 unfold l8 at hr
 have G:=aW m
 refine cb Tryz.func70 ?_
 refine sr (Ar rfl (An rfl (Gp (sr (Mz rfl (Kz (vP y 0) (Kz (vP y 0) (Lz (.slice b d.ai.ls.length h) H 0 L7 (Kz (vJ d.ai.ls.length) (Mn rfl (bo ?_)))))))))))
 have J:=H.pf []
 obtain⟨K,l⟩:=ER λ (g:Int) (a:Nat) w'=>Own w D w' [blk y [.slice b d.ai.ls.length h] 114]/\a<=d.ai.ls.length/\gN d.ai.ls 0=gN (r7 a d.ai.ls) g
 refine v4 (λ i:Int × Nat=> [(3,vI i.1),(11,vJ i.2),(10,vJ d.ai.ls.length),(9, .slice b d.ai.ls.length h),(2,vI 0)]) K (λ i=>d.ai.ls.length - i.2) (0,0) ⟨rfl,rfl,rfl,rfl,rfl,trivial⟩ (l.2 ⟨J,e8,rfl⟩) ?_
 rintro ⟨g,a⟩ V z
 show Wp _ _ _ [(3,vI g),(11,vJ a),(10,vJ d.ai.ls.length),(9, .slice b d.ai.ls.length h),(2,vI 0)] _ _
 obtain⟨n,S,o⟩:=l.1 z
 refine sr (Kz (.bool (decide ((a:Int) < (d.ai.ls.length:Int)))) (nt (Gp ?_)))
 by_cases B:(a:Int) < (d.ai.ls.length:Int)
 obtain⟨f,p⟩:=dI (ls:=k) (i:=a) ay.len f5 (n.ro j) f2
 have C:=fO m p
 have T:=(u _ (C1 p)).2
 have t:=drop_at C
 refine jT (dT B) (sk (Gp (bo (sr (fw (.pointer (some ⟨ab b,ao b+a *6,none⟩)) (GI (ja) rfl rfl ((n.ro j).addr (i:=a) e8) e8) (fw (.agg (ay.cells f).toArray) (GH rfl (GJ (cs:=(ay.cells f)) L5 L6 ((n.ro j).elem ay.len p f5))) ?_))))))
 refine bW [.int .u64 0, .slice none 0 0, .bool false, .string ⟨u3 []⟩, .string ⟨u3 []⟩, .bool false] 164 n ?_
 intro E W L
 refine bY (ay.cells f) 0 L L6 ?_
 intro X s
 refine ns (Mz rfl (Kz (vP E 1) (Lz (.slice f.aC.A f.aC.ls.length f.aC.c) s 0 M0 (Kz (vJ f.aC.ls.length) (Kz (vI (v7.wrap (g+(f.aC.ls.length:Int)))) (Ar rfl (Kz (vP E 2) (Lz (.bool f.bn) s 0 F0 (nt ?_)))))))))
 rcases Kq (f.bn) with r | r
 refine jT r ?_
 have M:=s.pk [1]
 refine Gq (Mz rfl (Kz (vI (v7.wrap ((v7.wrap (g+(f.aC.ls.length:Int)))+1))) (Az rfl (v8 (bN (Gs (Gq (fw (vJ (a+1)) (Gw (e:=v7.wrap ((a:Int)+1)) yk f1) (Mz rfl (v8 ?_))))))))))
 have N:=M.pf []
 exact GL (v7.wrap ((v7.wrap (g+(f.aC.ls.length:Int)))+1),a+1) ⟨rfl,rfl,rfl,rfl,rfl,trivial⟩ (l.2 ⟨N,e8,et (o) (et (congrArg (λ q=>gN q g) t) (ip r))⟩) (by show d.ai.ls.length - (a+1) < d.ai.ls.length - a; omega)
 refine jF r (G7 (bN (Gs ?_)))
 have O:=s.pk [1]
 refine Gq (fw (vJ (a+1)) (Gw (e:=v7.wrap ((a:Int)+1)) yk f1) (Mz rfl (v8 ?_)))
 have P:=O.pf []
 exact GL (v7.wrap (g+(f.aC.ls.length:Int)),a+1) ⟨rfl,rfl,rfl,rfl,rfl,trivial⟩ (l.2 ⟨P,e8,et (o) (et (congrArg (λ q=>gN q g) t) (dY r))⟩) (by show d.ai.ls.length - (a+1) < d.ai.ls.length - a; omega)
 refine jF (dF B) (v9 (GK ?_))
 have F:gN d.ai.ls 0=g:=et (o) (et (congrArg (λ q=>gN q g) (eP (ls:=d.ai.ls) (i:=a) e8)) rfl)
 refine GK (GR (Gs (sr (Mz rfl (An rfl (rt (rs ?_)))))))
 have Q:=n.pf []
 obtain rfl:=zj hr zq1
 exact⟨rfl,Q⟩
def dE (p1c0i0:aD) (p1c0i1:Nat) (a:aK):List aD->Nat->Unit ⊕ Int
  | [],b=>v0 ()
  | d::c,b=>bnd (kF p1c0i0.aB d.aB) λ e=>if(a.au:Int)=(p1c0i1:Int) then dE p1c0i0 p1c0i1 a c (b+1) else if e.2=true then if p1c0i0.eH=true then v2 (b:Int) else if d.eH=true then v2 (b:Int) else dE p1c0i0 p1c0i1 a c (b+1) else dE p1c0i0 p1c0i1 a c (b+1)
def ku (b:List aD) (p1c0i0:aD) (p1c0i1:Nat) (a:aK):Int:=
 lp (dE p1c0i0 p1c0i1 a b 0) λ _=>(-1)
theorem ou (w D F Q R f g1c0i0) (p1c0i0:aD) (g1c0i1 p1c0i1 m j) (a:aK) (g h r0) (H:Own w D w [blk g1c0i0 (aD.cells p1c0i0) 118,blk g1c0i1 [.int .u64 ((p1c0i1:Nat):Int)] 32,blk m [.func (.func 169) #[] #[.pointer (some ⟨g1c0i0,0,none⟩), .pointer (some ⟨g1c0i1,0,none⟩)]] 153,blk j [.int .u64 ((a.au:Nat):Int), .slice g a.aC.ls.length h, .bool a.bn, .string ⟨u3 a.bf.aB.aO⟩, .string ⟨u3 a.bf.aB.aS⟩, .bool a.bf.eH] 164]) (B:Ro w D λ w'=>bM w' 3 F Q (q0 aD.cells f)) (S:Q=f.length) (aC:f.length<=9223372036854775807) (G:Ro w D λ w'=>bM w' 3 g a.aC.ls.length (q0 aD.cells a.aC.ls)) (I:a.aC.ls.length<=h/\a.aC.ls.length<=9223372036854775807) (hr:ku f p1c0i0 p1c0i1 a=r0):
    Calls u2 168 #[.slice F Q R, .func (.func 119) #[] #[vP m 0,vP j 0]] w (dG λ v w'=>v=vI r0/\Own w D w' [blk g1c0i0 (aD.cells p1c0i0) 118,blk g1c0i1 [vU p1c0i1] 32,blk m [.func (.func 169) #[] #[vP g1c0i0 0,vP g1c0i1 0]] 153,blk j [vU a.au, .slice g a.aC.ls.length h, .bool a.bn, .string ⟨u3 a.bf.aB.aO⟩, .string ⟨u3 a.bf.aB.aS⟩, .bool a.bf.eH] 164]):=by
 subst S
 refine cb Tryz.func168 ?_
 refine sr (An rfl (Gp (sr (Mz rfl (Kz (vJ f.length) (Mn rfl (bo ?_)))))))
 have T:=H.pf []
 obtain⟨U,r⟩:=mP λ (b:Nat) w'=>Own w D w' [blk g1c0i0 (aD.cells p1c0i0) 118,blk g1c0i1 [vU p1c0i1] 32,blk m [.func (.func 169) #[] #[vP g1c0i0 0,vP g1c0i1 0]] 153,blk j [vU a.au, .slice g a.aC.ls.length h, .bool a.bn, .string ⟨u3 a.bf.aB.aO⟩, .string ⟨u3 a.bf.aB.aS⟩, .bool a.bf.eH] 164]/\b<=f.length/\dE p1c0i0 p1c0i1 a f 0=dE p1c0i0 p1c0i1 a (r7 b f) b
 refine v4 (λ i:Nat=> [(4,vI 0),(8,vJ i),(7,vJ f.length),(0, .slice F f.length R),(1, .func (.func 119) #[] #[vP m 0,vP j 0])]) U (λ i=>f.length - i) 0 ⟨rfl,rfl,rfl,rfl,rfl,trivial⟩ (r.2 ⟨T,e8,rfl⟩) ?_
 rintro b aF J
 show Wp _ _ _ [(4,vI 0),(8,vJ b),(7,vJ f.length),(0, .slice F f.length R),(1, .func (.func 119) #[] #[vP m 0,vP j 0])] _ _
 obtain⟨u,az,n⟩:=r.1 J
 refine sr (Kz (.bool (decide ((b:Int) < (f.length:Int)))) (nt (Gp ?_)))
 by_cases K:(b:Int) < (f.length:Int)
 obtain⟨d,A⟩:=dI (ls:=f) (i:=b) aD.len f5 (u.ro B) f2
 have s:=drop_at A
 refine jT (dT K) (sk (Gp (bo (sr (Mz rfl (Ar rfl (Mz rfl (Mz rfl (Mz rfl (fw (.pointer (some ⟨ab F,ao F+b *3,none⟩)) (GI (uk) rfl rfl ((u.ro B).addr (i:=b) e8) e8) (fw (.agg (aD.cells d).toArray) (GH rfl (GJ (cs:=(aD.cells d)) L8 L9 ((u.ro B).elem aD.len A f5))) ?_)))))))))))
 refine WL.do rfl (Hg Tryz.call119 rfl rfl ?_ (λ _ _ k=>k))
 refine cb Tryz.func119 ?_
 refine sr ?_
 refine bW (aD.cells d) 118 u ?_
 intro aG aH z
 refine Ar rfl (Lz (.func (.func 169) #[] #[vP g1c0i0 0,vP g1c0i1 0]) z 3 Tryz.isAgg153 (Kz (vP j 0) (Lz (vU a.au) z 4 C4 (La (aD.cells d) z 0 L8 L9 ?_))))
 refine WL.do rfl (Hg Tryz.call169 rfl rfl ?_ (λ _ _ k=>k))
 refine cb Tryz.func169 ?_
 refine sr ?_
 refine bW (aD.cells d) 118 z ?_
 intro L aI C
 refine Ar rfl (Kz (vP g1c0i0 0) (La (aj.cells p1c0i0.aB) C 2 B5 B4 (Kz (vP L 0) (La (aj.cells d.aB) C 0 B5 B4 ?_))))
 obtain⟨⟨E,x⟩,o⟩:∃ q:aj × Bool,kF p1c0i0.aB d.aB=q:=⟨_,rfl⟩
 obtain⟨aJ,M,aA,N,aB⟩:=Gr C
 refine cl Tryz.call152 (oU _ _ p1c0i0.aB d.aB E x M o) ?_
 rintro _ aL ⟨rfl,O⟩
 have V:=N _ _ O
 refine Mz rfl (Kz (.agg (aj.cells E).toArray) (Kz (.bool x) ?_))
 refine bW [.string ⟨u3 []⟩, .string ⟨u3 []⟩] 37 V ?_
 intro aM aN W
 refine bY (aj.cells E) 0 W B4 ?_
 intro aO X
 refine An rfl (Gp ?_)
 have t:=X.px [] [0] []
 refine Gq (Mz rfl (Lz (vU p1c0i1) t 3 C4 (fw (.bool (decide (¬ ((a.au:Int)=(p1c0i1:Int))))) (GN (e:= !(decide ((a.au:Int)=(p1c0i1:Int)))) yk decide_not.symm) (Mz rfl ?_))))
 by_cases p:(a.au:Int)=(p1c0i1:Int)
 refine Sk rfl rfl (dF (Ko p)) rfl (fw (.bool false) (Gm rfl (dF (Ko p)) rfl) (Mz rfl (Sz rfl (Sz rfl (Sz rfl (GA rfl rfl rfl (GA rfl rfl rfl (Sz rfl (fw (.bool false) (Gm rfl rfl rfl) (An rfl (rt (rs (An rfl (rt (rs (nt (jf (G7 (bN (Gs ?_))))))))))))))))))))
 have Y:=t.pk [2,3,4,5]
 refine Gq (fw (vJ (b+1)) (Gw (e:=v7.wrap ((b:Int)+1)) yk f1) (Mz rfl (v8 ?_)))
 have Z:=Y.pf []
 exact GL (b+1) ⟨rfl,rfl,rfl,rfl,rfl,trivial⟩ (r.2 ⟨Z,e8,et (n) (et (congrArg (λ q=>dE p1c0i0 p1c0i1 a q b) s) (et (ae o) (ip p)))⟩) (by show f.length - (b+1) < f.length - b; omega)
 refine gw (.bool x) (dT p) (Gv rfl) (fw (.bool x) (Gu rfl (dT p) rfl) (Mz rfl ?_))
 rcases Kq (x) with c | c
 refine Gz (vP g1c0i0 2) c (Gl (.bool p1c0i0.eH) c t 2 F0 (Hm (v:= .bool p1c0i0.eH) rfl rfl c rfl (Gv rfl) ?_))
 rcases Kq (p1c0i0.eH) with l | l
 refine Sz l (Sz l (Hm (v:= .bool true) rfl rfl c rfl (Gu rfl l rfl) (fw (.bool true) (Gu rfl c rfl) (An rfl (rt (rs (An rfl (rt (rs (nt (jt (Gp ?_))))))))))))
 have aa:=t.pk [2,3,4,5]
 refine Gq (Mz rfl (An rfl (rt (bR (tR (tR (bR (tR (rs ?_)))))))))
 have af:=aa.pf []
 obtain rfl:_=(b:Int):=zj hr (iG (et (n) (et (congrArg (λ q=>dE p1c0i0 p1c0i1 a q b) s) (et (ae o) (et (iN p) (et (ip c) (ip l)))))))
 exact⟨rfl,af⟩
 refine Gz (vP L 2) l (Gl (.bool d.eH) l t 0 F0 (Hm (v:= .bool d.eH) rfl rfl c rfl (Gm rfl l rfl) (fw (.bool d.eH) (Gu rfl c rfl) (An rfl (rt (rs (An rfl (rt (rs (nt ?_))))))))))
 rcases Kq (d.eH) with y | y
 refine jT y (Gp ?_)
 have ag:=t.pk [2,3,4,5]
 refine Gq (Mz rfl (An rfl (rt (bR (tR (tR (bR (tR (rs ?_)))))))))
 have ah:=ag.pf []
 obtain rfl:_=(b:Int):=zj hr (iG (et (n) (et (congrArg (λ q=>dE p1c0i0 p1c0i1 a q b) s) (et (ae o) (et (iN p) (et (ip c) (et (dY l) (ip y))))))))
 exact⟨rfl,ah⟩
 refine jF y (G7 (bN (Gs ?_)))
 have ai:=t.pk [2,3,4,5]
 refine Gq (fw (vJ (b+1)) (Gw (e:=v7.wrap ((b:Int)+1)) yk f1) (Mz rfl (v8 ?_)))
 have ak:=ai.pf []
 exact GL (b+1) ⟨rfl,rfl,rfl,rfl,rfl,trivial⟩ (r.2 ⟨ak,e8,et (n) (et (congrArg (λ q=>dE p1c0i0 p1c0i1 a q b) s) (et (ae o) (et (iN p) (et (ip c) (et (dY l) (dY y))))))⟩) (by show f.length - (b+1) < f.length - b; omega)
 refine Sz c (Sz c (Sz c (GA rfl rfl rfl (GA rfl rfl rfl (Sz c (fw (.bool false) (Gm rfl c rfl) (An rfl (rt (rs (An rfl (rt (rs (nt (jf (G7 (bN (Gs ?_)))))))))))))))))
 have au:=t.pk [2,3,4,5]
 refine Gq (fw (vJ (b+1)) (Gw (e:=v7.wrap ((b:Int)+1)) yk f1) (Mz rfl (v8 ?_)))
 have av:=au.pf []
 exact GL (b+1) ⟨rfl,rfl,rfl,rfl,rfl,trivial⟩ (r.2 ⟨av,e8,et (n) (et (congrArg (λ q=>dE p1c0i0 p1c0i1 a q b) s) (et (ae o) (et (iN p) (dY c))))⟩) (by show f.length - (b+1) < f.length - b; omega)
 refine jF (dF K) (v9 (GK ?_))
 have P:dE p1c0i0 p1c0i1 a f 0=v0 ():=et (n) (et (congrArg (λ q=>dE p1c0i0 p1c0i1 a q b) (eP (ls:=f) (i:=b) e8)) rfl)
 refine GK (GR (Gs (sr (An rfl (rt (rs ?_))))))
 have ax:=u.pf []
 obtain rfl:_=(-1):=zj hr (kZ P)
 exact⟨rfl,ax⟩
def jK (c:List aD) (p1c0i0:aD) (p1c0i1:Nat) (a:aK):Bool:=
 bnd (ku c p1c0i0 p1c0i1 a) λ b=>decide (b >= 0)
theorem nO (w D o p x i g1c0i0) (p1c0i0:aD) (g1c0i1 p1c0i1 d e) (a:aK) (c b y) (H:Own w D w [blk g1c0i0 (aD.cells p1c0i0) 118,blk g1c0i1 [.int .u64 ((p1c0i1:Nat):Int)] 32,blk d [.func (.func 169) #[] #[.pointer (some ⟨g1c0i0,0,none⟩), .pointer (some ⟨g1c0i1,0,none⟩)]] 153,blk e [.int .u64 ((a.au:Nat):Int), .slice c a.aC.ls.length b, .bool a.bn, .string ⟨u3 a.bf.aB.aO⟩, .string ⟨u3 a.bf.aB.aS⟩, .bool a.bf.eH] 164]) (r:Ro w D λ w'=>bM w' 3 o p (q0 aD.cells i)) (s:p=i.length) (A:i.length<=9223372036854775807) (f:Ro w D λ w'=>bM w' 3 c a.aC.ls.length (q0 aD.cells a.aC.ls)) (k:a.aC.ls.length<=b/\a.aC.ls.length<=9223372036854775807) (hr:jK i p1c0i0 p1c0i1 a=y):
    Calls u2 115 #[.slice o p x, .func (.func 119) #[] #[vP d 0,vP e 0]] w (dG λ v w'=>v= .bool y/\Own w D w' [blk g1c0i0 (aD.cells p1c0i0) 118,blk g1c0i1 [vU p1c0i1] 32,blk d [.func (.func 169) #[] #[vP g1c0i0 0,vP g1c0i1 0]] 153,blk e [vU a.au, .slice c a.aC.ls.length b, .bool a.bn, .string ⟨u3 a.bf.aB.aO⟩, .string ⟨u3 a.bf.aB.aS⟩, .bool a.bf.eH] 164]):=by
 unfold jK at hr
 subst s
 refine cb Tryz.func115 ?_
 refine sr (Ar rfl (Mz rfl (Mz rfl ?_)))
 obtain⟨j,g⟩:∃ q,ku i p1c0i0 p1c0i1 a=q:=⟨_,rfl⟩
 obtain⟨B,l,h,m,z⟩:=Ip H
 refine cl Tryz.call168 (ou _ _ o i.length x i g1c0i0 p1c0i0 g1c0i1 p1c0i1 d e a c b j l (h _ r) rfl e8 (h _ f) e8 g) ?_
 rintro _ C ⟨rfl,n⟩
 have t:=m _ _ n
 refine Kz (.bool (decide (j >= 0))) (An rfl (rt (rs ?_)))
 have u:=t.pf []
 obtain rfl:=zj hr zq1
 exact⟨rfl,u⟩
def fP (e:Nat) (f:aD):List aK->List Nat->(List Nat)
  | [],b=>b
  | a::c,b=>bnd (jK a.aC.ls f e (aK.mk a.au (Ll.mk a.aC.ls) a.bn a.bf)) λ d=>if d=true then fP e f c (b++ [a.au]) else fP e f c b
def dX (a:aZ) (b:Nat) (c:aD):(List Nat):=
 bnd (fP b c a.ai.ls []) λ sLrL=>sLrL
theorem pX (w D Q) (f:aZ) (g h p r) (l:aD) (r0) (H:Own w D w [blk Q [.slice g f.ai.ls.length h] 114]) (u:r8 ay.abs p=f.ai.ls) (n:Ro w D λ w'=>bM w' 6 g f.ai.ls.length (q0 ay.cells p)) (aj:f.ai.ls.length<=h/\f.ai.ls.length<=9223372036854775807) (o:∀ x ∈ p,Ro w D (λ w'=>bM w' 3 x.aC.A x.aC.ls.length (q0 aD.cells x.aC.ls))/\(x.aC.ls.length<=x.aC.c/\x.aC.ls.length<=9223372036854775807)) (bg:f.ai.ls.length<=1000000) (hr:dX f r l=r0):
    Calls u2 71 #[vP Q 0,vU r, .agg (aD.cells l).toArray] w (dG λ v w'=> ∃ B0 b0,v= .slice B0 r0.length b0/\Own w D w' [row B0 r0.length b0 (q0 (eN .u64) r0) 32 1,blk Q [.slice g f.ai.ls.length h] 114]):=by
 unfold dX at hr
 have ai:=aW u
 refine cb Tryz.func71 ?_
 refine sr ?_
 refine bW (aD.cells l) 118 H ?_
 intro bi bn R
 refine Ar rfl (Mz rfl (La (aD.cells l) R 0 L8 L9 ?_))
 refine WL.do rfl (GV Tryz.call118 rfl ?_ (λ _ _ k=>k))
 refine cb Tryz.func118 ?_
 refine sr ?_
 refine bW [vU r] 32 R ?_
 intro z bq ak
 refine bW (aD.cells l) 118 ak ?_
 intro B bu au
 refine Ar rfl (Kz (.func (.func 169) #[] #[vP B 0,vP z 0]) (An rfl (rt (rs ?_))))
 refine bW [.nilFunc] 153 au ?_
 intro C bv av
 refine bY [.func (.func 169) #[] #[vP B 0,vP z 0]] 0 av Tryz.sizeOf153 ?_
 intro ax az
 refine nt (Gp ?_)
 have S:=az.px [] [3] []
 refine Gq (An rfl (Gp (sr (Mz rfl (Kz (vP Q 0) (Kz (vP Q 0) (Lz (.slice g f.ai.ls.length h) S 3 L7 (Kz (vJ f.ai.ls.length) (Mn rfl (bo ?_))))))))))
 have aA:Own w D ax (row none 0 0 (q0 (eN .u64) []) 32 1::_):=S.free (bX 32 1)
 have aB:=aA.pb [0]
 obtain⟨aC,t⟩:=vk λ E (F:Nat) d (b:Nat) w'=>Own w D w' [blk C [.func (.func 169) #[] #[vP B 0,vP z 0]] 153,blk B (aD.cells l) 118,blk z [vU r] 32,blk Q [.slice g f.ai.ls.length h] 114,row E d.length F (q0 (eN .u64) d) 32 1]/\b<=f.ai.ls.length/\d.length<=b/\fP r l f.ai.ls []=fP r l (r7 b f.ai.ls) d
 refine v4 (λ i:(Option Addr) × Nat × (List Nat) × Nat=> [(8, .slice i.1 i.2.2.1.length i.2.1),(19,vJ i.2.2.2),(18,vJ f.ai.ls.length),(17, .slice g f.ai.ls.length h),(7,vP C 0),(6, .slice none 0 0)]) aC (λ i=>f.ai.ls.length - i.2.2.2) (none,0, [],0) ⟨rfl,rfl,rfl,rfl,rfl,rfl,trivial⟩ (t.2 ⟨aB,(show 0<=f.ai.ls.length/\0<=0/\fP r l f.ai.ls []=fP r l (r7 0 f.ai.ls) [] from ⟨e8,e8,rfl⟩)⟩) ?_
 rintro ⟨E,F,d,b⟩ bz T
 show Wp _ _ _ [(8, .slice E d.length F),(19,vJ b),(18,vJ f.ai.ls.length),(17, .slice g f.ai.ls.length h),(7,vP C 0),(6, .slice none 0 0)] _ _
 obtain⟨G,aU,aV,I⟩:=t.1 T
 refine sr (Kz (.bool (decide ((b:Int) < (f.ai.ls.length:Int)))) (nt (Gp ?_)))
 by_cases U:(b:Int) < (f.ai.ls.length:Int)
 obtain⟨a,j⟩:=dI (ls:=p) (i:=b) ay.len f5 (G.ro n) f2
 have V:=fO u j
 have aX:=(o _ (C1 j)).2
 have M:=drop_at V
 refine jT (dT U) (sk (Gp (bo (sr (fw (.pointer (some ⟨ab g,ao g+b *6,none⟩)) (GI (ja) rfl rfl ((G.ro n).addr (i:=b) e8) e8) (fw (.agg (ay.cells a).toArray) (GH rfl (GJ (cs:=(ay.cells a)) L5 L6 ((G.ro n).elem ay.len j f5))) ?_))))))
 refine bW [.int .u64 0, .slice none 0 0, .bool false, .string ⟨u3 []⟩, .string ⟨u3 []⟩, .bool false] 164 G ?_
 intro L bA aF
 refine bY (ay.cells a) 0 aF L6 ?_
 intro bB W
 refine ns (Kz (vP L 1) (Lz (.slice a.aC.A a.aC.ls.length a.aC.c) W 0 M0 (Kz (.func (.func 119) #[] #[vP C 0,vP L 0]) ?_)))
 have aG:=W.pf [2,3,1]
 obtain⟨X,J⟩:∃ q,jK a.aC.ls l r (aK.mk a.au (Ll.mk a.aC.ls) a.bn a.bf)=q:=⟨_,rfl⟩
 obtain⟨bC,Y,N,Z,aY⟩:=Ip aG
 refine cl Tryz.call115 (nO _ _ a.aC.A a.aC.ls.length a.aC.c a.aC.ls B l z r C L (aK.mk a.au (Ll.mk a.aC.ls) a.bn a.bf) a.aC.A a.aC.c X Y (N _ (o _ (C1 j)).1) rfl e8 (N _ (o _ (C1 j)).1) e8 J) ?_
 rintro _ bD ⟨rfl,aa⟩
 have O:=Z _ _ aa
 refine nt ?_
 rcases Kq (X) with K | K
 refine jT K (Gq (Mz rfl (Kz (vP L 0) (Lz (vU a.au) O 3 C4 ?_))))
 refine jE [vU a.au] 32 1 1 O ?_
 intro aH bE P
 replace P:=Ha (y:=row aH 1 1 (q0 (eN .u64) ([a.au])) 32 1) rfl P
 have af:=P.pf [6]
 refine WL.do rfl (GZ (k:=d.length) (m:=1) (iC) af rfl rfl (eT Tryz.underlying35 (af.rds (i:=1) rfl) (cB lZ ([a.au]))) rfl e8 (s:=List.length (d++ [a.au])) f4 (List.flatMap_append).symm ?_)
 intro aI aJ bF aL
 have bf:List.length (d++ [a.au])=d.length+1:=by simp only [List.length_append,List.length_cons,List.length_nil]
 refine Az rfl (v8 (bN (Gs ?_)))
 have aM:=aL.px [] [1,5] []
 refine Gq (fw (vJ (b+1)) (Gw (e:=v7.wrap ((b:Int)+1)) yk f1) (Mz rfl (v8 ?_)))
 have aN:=aM.px [3] [] [0]
 exact GL (aI,aJ,(d++ [a.au]),b+1) ⟨rfl,rfl,rfl,rfl,rfl,rfl,trivial⟩ (t.2 ⟨aN,e8,e8,et (I) (et (congrArg (λ q=>fP r l q d) M) (et (ae J) (ip K)))⟩) (by show f.ai.ls.length - (b+1) < f.ai.ls.length - b; omega)
 refine jF K (G7 (bN (Gs ?_)))
 have aO:=O.px [] [3] []
 refine Gq (fw (vJ (b+1)) (Gw (e:=v7.wrap ((b:Int)+1)) yk f1) (Mz rfl (v8 ?_)))
 have aP:=aO.pf [2]
 exact GL (E,F,d,b+1) ⟨rfl,rfl,rfl,rfl,rfl,rfl,trivial⟩ (t.2 ⟨aP,e8,e8,et (I) (et (congrArg (λ q=>fP r l q d) M) (et (ae J) (dY K)))⟩) (by show f.ai.ls.length - (b+1) < f.ai.ls.length - b; omega)
 refine jF (dF U) (v9 (GK ?_))
 have ag:fP r l f.ai.ls []=d:=et (I) (et (congrArg (λ q=>fP r l q d) (eP (ls:=f.ai.ls) (i:=b) e8)) rfl)
 refine GK (GR (Gs (Gp ?_)))
 have aQ:=G.pk [3,4]
 refine Gq (Mz rfl (An rfl (rt (rs ?_))))
 have aR:=aQ.pb [0]
 obtain rfl:=zj hr zq1
 exact⟨E,F,rfl,aR⟩
structure lI where
 aV:Nat
 nA:aD
def lI.cells (x:lI):List Value:= [.int .u64 ((x.aV:Nat):Int), .string ⟨u3 x.nA.aB.aO⟩, .string ⟨u3 x.nA.aB.aS⟩, .bool x.nA.eH]
instance:Bk lI:=⟨λ x _=>bk x.aV+(bk x.nA+(0))⟩
theorem lI.len:∀ x,(lI.cells x).length=4:=λ _=>rfl
theorem lI.one:∀ x, ∀ u ∈ lI.cells x,u.oneCell'=true:=λ x u hu=>by
 simp only [lI.cells,t7,u4,or_false] at hu
 rcases hu with rfl | rfl | rfl | rfl <;> rfl
def Ki (w:World) (x:lI):Prop:=(x.aV<=18446744073709551615)/\(IP w x.nA)
instance:Inhabited lI:=⟨⟨default,default⟩⟩
def gI (d:aZ):List aK->Unit ⊕ (lI × Bool)
  | []=>v0 ()
  | a::b=>if a.bn=true then bnd (dX d a.au a.bf) λ c=>if(c.length:Int)=0 then v2 (lI.mk a.au a.bf,true) else gI d b else gI d b
def jX (a:aZ):lI × Bool:=
 lp (gI a a.ai.ls) λ _=>(lI.mk 0 (aD.mk (aj.mk [] []) false),false)
theorem vC (w D E) (f:aZ) (g h l) (r0:lI) (r1) (H:Own w D w [blk E [.slice g f.ai.ls.length h] 114]) (n:r8 ay.abs l=f.ai.ls) (j:Ro w D λ w'=>bM w' 6 g f.ai.ls.length (q0 ay.cells l)) (W:f.ai.ls.length<=h/\f.ai.ls.length<=9223372036854775807) (o:∀ x ∈ l,Ro w D (λ w'=>bM w' 3 x.aC.A x.aC.ls.length (q0 aD.cells x.aC.ls))/\(x.aC.ls.length<=x.aC.c/\x.aC.ls.length<=9223372036854775807)) (aI:f.ai.ls.length<=1000000) (hr:jX f=(r0,r1)):
    Calls u2 121 #[vP E 0] w (dG λ v w'=>v= .tuple #[.agg (lI.cells r0).toArray, .bool r1]/\Own w D w' [blk E [.slice g f.ai.ls.length h] 114]):=by
 have V:=aW n
 refine cb Tryz.func121 ?_
 refine sr ?_
 refine bW [.int .u64 0, .string ⟨u3 []⟩, .string ⟨u3 []⟩, .bool false] 194 H ?_
 intro I aJ L
 refine An rfl (Gp (sr (Mz rfl (Kz (vP E 0) (Kz (vP E 0) (Lz (.slice g f.ai.ls.length h) L 1 L7 (Kz (vJ f.ai.ls.length) (Mn rfl (bo ?_)))))))))
 have X:=L.pf []
 obtain⟨Y,p⟩:=mP λ (d:Nat) w'=>Own w D w' [blk I [.int .u64 0, .string ⟨u3 []⟩, .string ⟨u3 []⟩, .bool false] 194,blk E [.slice g f.ai.ls.length h] 114]/\d<=f.ai.ls.length/\gI f f.ai.ls=gI f (r7 d f.ai.ls)
 refine v4 (λ i:Nat=> [(3, .bool false),(11,vJ i),(10,vJ f.ai.ls.length),(9, .slice g f.ai.ls.length h),(2,vP I 0),(0,vP E 0)]) Y (λ i=>f.ai.ls.length - i) 0 ⟨rfl,rfl,rfl,rfl,rfl,rfl,trivial⟩ (p.2 ⟨X,e8,rfl⟩) ?_
 rintro d aK M
 show Wp _ _ _ [(3, .bool false),(11,vJ d),(10,vJ f.ai.ls.length),(9, .slice g f.ai.ls.length h),(2,vP I 0),(0,vP E 0)] _ _
 obtain⟨s,aA,r⟩:=p.1 M
 refine sr (Kz (.bool (decide ((d:Int) < (f.ai.ls.length:Int)))) (nt (Gp ?_)))
 by_cases N:(d:Int) < (f.ai.ls.length:Int)
 obtain⟨a,t⟩:=dI (ls:=l) (i:=d) ay.len f5 (s.ro j) f2
 have O:=fO n t
 have aB:=(o _ (C1 t)).2
 have u:=drop_at O
 refine jT (dT N) (sk (Gp (bo (sr (fw (.pointer (some ⟨ab g,ao g+d *6,none⟩)) (GI (ja) rfl rfl ((s.ro j).addr (i:=d) e8) e8) (fw (.agg (ay.cells a).toArray) (GH rfl (GJ (cs:=(ay.cells a)) L5 L6 ((s.ro j).elem ay.len t f5))) ?_))))))
 refine bW [.int .u64 0, .slice none 0 0, .bool false, .string ⟨u3 []⟩, .string ⟨u3 []⟩, .bool false] 164 s ?_
 intro y aL Z
 refine bY (ay.cells a) 0 Z L6 ?_
 intro aM z
 refine ns (Kz (vP y 2) (Lz (.bool a.bn) z 0 F0 (Mz rfl ?_)))
 rcases Kq (a.bn) with b | b
 refine Hm (v:=vP E 0) rfl rfl b rfl (Gv rfl) (Gz (vP y 0) b (Gl (vU a.au) b z 0 C4 (Gz (vP y 3) b (Ga (aD.cells a.bf) b z 0 L8 L9 ?_))))
 have aa:=z.pf [2]
 obtain⟨B,C⟩:∃ q,dX f a.au a.bf=q:=⟨_,rfl⟩
 obtain⟨aN,P,G,Q,aC⟩:=G9 aa
 refine H7 rfl rfl b rfl (GV Tryz.call71 rfl (pX _ _ E f g h l a.au a.bf B P n (G _ j) e8 (λ x9 h9=>⟨G _ (o x9 h9).1,(o x9 h9).2⟩) f9 C) ?_)
 rintro _ aO ⟨aP,aQ,rfl,R⟩
 have J:=Q _ _ R
 have aH:=J.rowC (i:=0) rfl
 refine Gz (vJ B.length) b (Gz (.bool (decide ((B.length:Int)=0))) b (fw (.bool (decide ((B.length:Int)=0))) (Gu rfl b rfl) (nt ?_)))
 by_cases F:(B.length:Int)=0
 refine jT (dT F) (Gp ?_)
 have K:=J.pk [1,2,3]
 refine Gq (Kz (vP y 0) (Lz (vU a.au) K 1 C4 (Kz (vP y 3) (La (aD.cells a.bf) K 1 L8 L9 (Kz (.agg #[vU a.au, .string ⟨u3 a.bf.aB.aO⟩, .string ⟨u3 a.bf.aB.aS⟩, .bool a.bf.eH]) ?_)))))
 have af:=K.pf [2]
 refine bY [vU a.au, .string ⟨u3 a.bf.aB.aO⟩, .string ⟨u3 a.bf.aB.aS⟩, .bool a.bf.eH] 0 af M1 ?_
 intro aR S
 refine An rfl (rt (bR (tR (tR (bR (tR (GM (fK (vs:= [.agg #[vU a.au, .string ⟨u3 a.bf.aB.aO⟩, .string ⟨u3 a.bf.aB.aS⟩, .bool a.bf.eH], .bool true]) rfl (bT.cell rfl (GJ (cs:= [vU a.au, .string ⟨u3 a.bf.aB.aO⟩, .string ⟨u3 a.bf.aB.aS⟩, .bool a.bf.eH]) Tryz.isAgg194 M1 ((S.cls (i:=0) rfl).lit (k:=0) (m:=4) rfl)) (bT.tmp rfl bT.nil)) (Kk rfl)) ?_)))))))
 have ag:=S.pk [1]
 obtain⟨rfl,rfl⟩:=fC (zj hr (show _=(lI.mk a.au a.bf,true) from iG (et (r) (et (congrArg (λ q=>gI f q) u) (et (ip b) (et (ae C) (ip F)))))))
 exact⟨rfl,ag⟩
 refine jF (dF F) (G7 (bN (Gs ?_)))
 have ah:=J.pk [1,3]
 refine Gq (fw (vJ (d+1)) (Gw (e:=v7.wrap ((d:Int)+1)) yk f1) (Mz rfl (v8 ?_)))
 have ai:=ah.pb [0]
 exact GL (d+1) ⟨rfl,rfl,rfl,rfl,rfl,rfl,trivial⟩ (p.2 ⟨ai,e8,et (r) (et (congrArg (λ q=>gI f q) u) (et (ip b) (et (ae C) (iN F))))⟩) (by show f.ai.ls.length - (d+1) < f.ai.ls.length - d; omega)
 refine Sz b (Sz b (Sz b (Sz b (Sz b (Sz b (Sz b (Sz b (fw (.bool false) (Gm rfl b rfl) (nt (jf (G7 (bN (Gs ?_)))))))))))))
 have ak:=z.pk [1,2]
 refine Gq (fw (vJ (d+1)) (Gw (e:=v7.wrap ((d:Int)+1)) yk f1) (Mz rfl (v8 ?_)))
 have au:=ak.pf []
 exact GL (d+1) ⟨rfl,rfl,rfl,rfl,rfl,rfl,trivial⟩ (p.2 ⟨au,e8,et (r) (et (congrArg (λ q=>gI f q) u) (dY b))⟩) (by show f.ai.ls.length - (d+1) < f.ai.ls.length - d; omega)
 refine jF (dF N) (v9 (GK ?_))
 have T:gI f f.ai.ls=v0 ():=et (r) (et (congrArg (λ q=>gI f q) (eP (ls:=f.ai.ls) (i:=d) e8)) rfl)
 refine GK (GR (Gs (sr (Kz (.agg #[.int .u64 0, .string ⟨u3 []⟩, .string ⟨u3 []⟩, .bool false]) ?_))))
 refine bY [.int .u64 0, .string ⟨u3 []⟩, .string ⟨u3 []⟩, .bool false] 0 s M1 ?_
 intro aS U
 refine An rfl (rt (GM (fK (vs:= [.agg #[.int .u64 0, .string ⟨u3 []⟩, .string ⟨u3 []⟩, .bool false], .bool false]) rfl (bT.cell rfl (GJ (cs:= [.int .u64 0, .string ⟨u3 []⟩, .string ⟨u3 []⟩, .bool false]) Tryz.isAgg194 M1 ((U.cls (i:=0) rfl).lit (k:=0) (m:=4) rfl)) (bT.tmp rfl bT.nil)) (Kk rfl)) ?_))
 have av:=U.pk [1]
 obtain⟨rfl,rfl⟩:=fC (zj hr (show _=(lI.mk 0 (aD.mk (aj.mk [] []) false),false) from kZ T))
 exact⟨rfl,av⟩
end
end Go.Proofs.YtndamapfnpihpaaGreat
