/- The layers told, part 6. Conditions: none beyond each law's own. -/
import Derived.Lib.Hide
import Derived.Test.YtbkagebjhbphaaaGreatJe
namespace Go.Proofs.YtbkagebjhbphaaaGreat
set_option maxRecDepth 100000
set_option linter.unusedVariables false
set_option linter.unusedSimpArgs false
set_option linter.unusedSectionVars false
open Int renaming toNat->C6
open IntKind renaming i64->C3
open List renaming drop->r4,flatMap->q4,flatMap_append->r5,getD->B8,length->s0,length_append->o2,length_cons->s1,length_nil->E7,take->r3,toArray->v6
open Sum renaming inl->B7,inr->B9
open Sv renaming mk->G3
open _root_.Go.Proofs.Tryz renaming call36->U4,call38->U7,call67->U5,call70->V1,isAgg3->C2,isAgg38->N0,isAgg39->R6,isAgg58->D4,isAgg70->V2,isAgg72->M8,isAgg89->U6,isAgg9->C0,prog->v5,sizeOf38->M9,sizeOf39->U9,sizeOf58->V0,sizeOf70->U8,sizeOf72->M7,sizeOf89->P3,underlying39->F2,underlying58->y4,underlying9->v9
open WL renaming nil->C4
open Wp renaming exit->C5,loop->C1
section
open Go.RowKit
def iO (a:List UInt8):Int:=
 if(a.length:Int) < 1 then 20 else if(a.length:Int) > 12 then 20 else 0
theorem mg (w D b d) (H:Own w D w []) (hr:iO b=d):
    Calls v5 67 #[.string ⟨v6 b⟩] w (dA λ v w'=>v=vI d/\Own w D w' []/\(¬ (d=0)\/(1<=b.length/\b.length<=12))):=by
 unfold iO at hr
 refine cb Tryz.func67 ?_
 refine sr (An rfl (Ik (sr (Mz rfl (Kz (vJ b.length) (Kz (.bool (decide ((b.length:Int) < 1))) (Mz rfl ?_)))))))
 by_cases a:(b.length:Int) < 1
 refine Sz (dT a) (Sz (dT a) (Sz (dT a) (fw (.bool true) (Iw rfl (dT a) rfl) (nt (jt (sr (An rfl (rt (tR (rs ?_))))))))))
 have e:=H.pk []
 obtain rfl:=zj hr zq1
 exact⟨rfl,e,e6⟩
 refine gw (.string ⟨v6 b⟩) (dF a) (IA rfl) (Gz (vJ b.length) (dF a) (Gz (.bool (decide ((b.length:Int) > 12))) (dF a) (fw (.bool (decide ((b.length:Int) > 12))) (Io rfl (dF a) rfl) (nt ?_))))
 by_cases c:(b.length:Int) > 12
 refine jT (dT c) (sr (An rfl (rt (tR (rs ?_)))))
 have f:=H.pk []
 obtain rfl:=zj hr zq2
 exact⟨rfl,f,e6⟩
 refine jF (dF c) (sk (sr (An rfl (rt (rs ?_)))))
 have g:=H.pk []
 obtain rfl:=zj hr zq2
 exact⟨rfl,g,e6⟩
def gF (a:aL):Int:=
 if(a.aJ.length:Int) > 12 then 21 else if(a.aR.length:Int) > 12 then 21 else if a.aR≠[] then if a.aR<=a.aJ then 21 else 0 else 0
theorem lZ (w D) (d:aL) (n) (H:Own w D w []) (hr:gF d=n):
    Calls v5 36 #[.agg (aL.cells d).toArray] w (dA λ v w'=>v=vI n/\Own w D w' []):=by
 unfold gF at hr
 refine cb Tryz.func36 ?_
 refine sr ?_
 refine dn (aL.cells d) 38 H ?_
 intro g o f
 refine An rfl (Ik (sr (Kz (vP g 0) (Lz (.string ⟨v6 d.aJ⟩) f 0 C0 (Kz (vJ d.aJ.length) (Kz (.bool (decide ((d.aJ.length:Int) > 12))) (Mz rfl ?_)))))))
 by_cases b:(d.aJ.length:Int) > 12
 refine Sz (dT b) (Sz (dT b) (Sz (dT b) (Sz (dT b) (fw (.bool true) (Iw rfl (dT b) rfl) (Mz rfl (Sz rfl (Sz rfl (Sz rfl (Sz rfl (IG rfl rfl rfl (IG rfl rfl rfl (IG rfl rfl rfl (IG rfl rfl rfl (IG rfl rfl rfl (Sz rfl (fw (.bool true) (Iw rfl rfl rfl) (nt (jt (sr (An rfl (rt (tR (rs ?_)))))))))))))))))))))))
 have i:=f.pk []
 obtain rfl:=zj hr zq1
 exact⟨rfl,i⟩
 refine Gz (vP g 1) (dF b) (Gl (.string ⟨v6 d.aR⟩) (dF b) f 0 C0 (Gz (vJ d.aR.length) (dF b) (Gz (.bool (decide ((d.aR.length:Int) > 12))) (dF b) (fw (.bool (decide ((d.aR.length:Int) > 12))) (Io rfl (dF b) rfl) (Mz rfl ?_)))))
 by_cases a:(d.aR.length:Int) > 12
 refine Sz (dT a) (Sz (dT a) (Sz (dT a) (Sz (dT a) (IG rfl rfl rfl (IG rfl rfl rfl (IG rfl rfl rfl (IG rfl rfl rfl (IG rfl rfl rfl (Sz (dT a) (fw (.bool true) (Iw rfl (dT a) rfl) (nt (jt (sr (An rfl (rt (tR (rs ?_)))))))))))))))))
 have j:=f.pk []
 obtain rfl:=zj hr zq2
 exact⟨rfl,j⟩
 refine Gz (vP g 1) (dF a) (Gl (.string ⟨v6 d.aR⟩) (dF a) f 0 C0 (gw (.bool (decide (d.aR≠[]))) (dF a) (I6 rfl rfl) (gw (.bool (decide (d.aR≠[]))) (dF a) (IA rfl) ?_)))
 by_cases c:d.aR≠[]
 refine Gz (vP g 0) (dT c) (Gl (.string ⟨v6 d.aJ⟩) (dT c) f 0 C0 (Gz (vP g 1) (dT c) (Gl (.string ⟨v6 d.aR⟩) (dT c) f 0 C0 (gw (.bool (decide (d.aR<=d.aJ))) (dT c) (IM (e:= !(Op.bytesLess d.aJ d.aR)) (JL rfl rfl) (zz _ _)) (gw (.bool (decide (d.aR<=d.aJ))) (dF a) (Iw rfl (dT c) rfl) (fw (.bool (decide (d.aR<=d.aJ))) (Io rfl (dF a) rfl) (nt ?_)))))))
 by_cases h:d.aR<=d.aJ
 refine jT (dT h) (sr (An rfl (rt (tR (rs ?_)))))
 have k:=f.pk []
 obtain rfl:=zj hr zq4
 exact⟨rfl,k⟩
 refine jF (dF h) (sk (sr (An rfl (rt (rs ?_)))))
 have l:=f.pk []
 obtain rfl:=zj hr zq4
 exact⟨rfl,l⟩
 refine Sz (dF c) (Sz (dF c) (Sz (dF c) (Sz (dF c) (Sz (dF c) (gw (.bool false) (dF a) (Io rfl (dF c) rfl) (fw (.bool false) (Io rfl (dF a) rfl) (nt (jf (sk (sr (An rfl (rt (rs ?_)))))))))))))
 have m:=f.pk []
 obtain rfl:=zj hr zq3
 exact⟨rfl,m⟩
def uK (c:aL) (d:List UInt8):Bool:=
 bnd (gF c) λ a=>if a=0 then bnd (iO d) λ b=>if b=0 then if c.aJ<=d then if c.aR=[] then true else decide (d < c.aR) else false else false else false
theorem Cz (w D) (f:aL) (h F) (H:Own w D w []) (hr:uK f h=F):
    Calls v5 110 #[.agg (aL.cells f).toArray, .string ⟨v6 h⟩] w (dA λ v w'=>v= .bool F/\Own w D w' []):=by
 unfold uK at hr
 refine cb Tryz.func110 ?_
 refine sr ?_
 refine dn (aL.cells f) 38 H ?_
 intro m L o
 refine Ar rfl (La (aL.cells f) o 0 N0 M9 ?_)
 obtain⟨n,g⟩:∃ q,gF f=q:=⟨_,rfl⟩
 obtain⟨M,p,G,r,I⟩:=Iu o
 refine cl U4 (lZ _ _ f n p g) ?_
 rintro _ N ⟨rfl,s⟩
 have t:=r _ _ s
 refine Kz (.bool (decide (n=0))) (Mz rfl ?_)
 by_cases c:n=0
 refine gw (.string ⟨v6 h⟩) (dT c) (IA rfl) ?_
 obtain⟨k,i⟩:∃ q,iO h=q:=⟨_,rfl⟩
 obtain⟨O,u,J,x,K⟩:=Iu t
 refine pW (dT c) U5 (mg _ _ h k u i) ?_
 rintro _ P ⟨rfl,y,l⟩
 have j:=x _ _ y
 replace l: ¬ (k=0)\/(1<=h.length/\h.length<=12):=l
 refine Gz (.bool (decide (k=0))) (dT c) (fw (.bool (decide (k=0))) (Iw rfl (dT c) rfl) (Mz rfl ?_))
 by_cases b:k=0
 refine gw (.string ⟨v6 h⟩) (dT b) (IA rfl) (Gz (vP m 0) (dT b) (Gl (.string ⟨v6 f.aJ⟩) (dT b) j 0 C0 (gw (.bool (decide (f.aJ<=h))) (dT b) (IM (e:= !(Op.bytesLess h f.aJ)) (JL rfl rfl) (zz _ _)) (fw (.bool (decide (f.aJ<=h))) (Iw rfl (dT b) rfl) (Mz rfl ?_)))))
 by_cases a:f.aJ<=h
 refine Gz (vP m 1) (dT a) (Gl (.string ⟨v6 f.aR⟩) (dT a) j 0 C0 (gw (.bool (decide (f.aR=[]))) (dT a) (JC rfl rfl) (gw (.bool (decide (f.aR=[]))) (dT a) (IA rfl) ?_)))
 by_cases d:f.aR=[]
 refine Sz (dT d) (Sz (dT d) (Sz (dT d) (Sz (dT d) (gw (.bool true) (dT a) (Iw rfl (dT d) rfl) (fw (.bool true) (Iw rfl (dT a) rfl) (An rfl (rt (rs ?_))))))))
 have z:=j.pk []
 obtain rfl:=zj hr zq6
 exact⟨rfl,z⟩
 refine gw (.string ⟨v6 h⟩) (dF d) (IA rfl) (Gz (vP m 1) (dF d) (Gl (.string ⟨v6 f.aR⟩) (dF d) j 0 C0 (gw (.bool (decide (h < f.aR))) (dF d) (IM (e:=Op.bytesLess h f.aR) (JK rfl rfl) (wz _ _)) (gw (.bool (decide (h < f.aR))) (dT a) (Io rfl (dF d) rfl) (fw (.bool (decide (h < f.aR))) (Iw rfl (dT a) rfl) (An rfl (rt (rs ?_))))))))
 have A:=j.pk []
 obtain rfl:=zj hr zq6
 exact⟨rfl,A⟩
 refine Sz (dF a) (Sz (dF a) (Sz (dF a) (Sz (dF a) (IG rfl rfl rfl (IG rfl rfl rfl (IG rfl rfl rfl (IG rfl rfl rfl (Sz (dF a) (fw (.bool false) (Io rfl (dF a) rfl) (An rfl (rt (rs ?_))))))))))))
 have B:=j.pk []
 obtain rfl:=zj hr zq5
 exact⟨rfl,B⟩
 refine Sz (dF b) (Sz (dF b) (Sz (dF b) (Sz (dF b) (fw (.bool false) (Io rfl (dF b) rfl) (Mz rfl (Sz rfl (Sz rfl (Sz rfl (Sz rfl (IG rfl rfl rfl (IG rfl rfl rfl (IG rfl rfl rfl (IG rfl rfl rfl (Sz rfl (fw (.bool false) (Io rfl rfl rfl) (An rfl (rt (rs ?_))))))))))))))))))
 have C:=j.pk []
 obtain rfl:=zj hr zq4
 exact⟨rfl,C⟩
 refine Sz (dF c) (Sz (dF c) (Sz (dF c) (fw (.bool false) (Io rfl (dF c) rfl) (Mz rfl (Sz rfl (Sz rfl (Sz rfl (Sz rfl (fw (.bool false) (Io rfl rfl rfl) (Mz rfl (Sz rfl (Sz rfl (Sz rfl (Sz rfl (IG rfl rfl rfl (IG rfl rfl rfl (IG rfl rfl rfl (IG rfl rfl rfl (Sz rfl (fw (.bool false) (Io rfl rfl rfl) (An rfl (rt (rs ?_)))))))))))))))))))))))
 have E:=t.pk []
 obtain rfl:=zj hr zq2
 exact⟨rfl,E⟩
def om (a:List UInt8) (b:List UInt8):Bool:=
 if a≠[] then if b=[] then true else decide (a < b) else false
theorem wo (w D d c i) (H:Own w D w []) (hr:om d c=i):
    Calls v5 71 #[.string ⟨v6 d⟩, .string ⟨v6 c⟩] w (dA λ v w'=>v= .bool i/\Own w D w' []):=by
 unfold om at hr
 refine cb Tryz.func71 ?_
 refine sr (Ar rfl (Mz rfl (fw (.bool (decide (d≠[]))) (I6 rfl rfl) (Mz rfl ?_))))
 by_cases a:d≠[]
 refine gw (.string ⟨v6 c⟩) (dT a) (IA rfl) (gw (.bool (decide (c=[]))) (dT a) (JC rfl rfl) (gw (.bool (decide (c=[]))) (dT a) (IA rfl) ?_))
 by_cases b:c=[]
 refine Sz (dT b) (Sz (dT b) (Sz (dT b) (gw (.bool true) (dT a) (Iw rfl (dT b) rfl) (fw (.bool true) (Iw rfl (dT a) rfl) (An rfl (rt (rs ?_)))))))
 have f:=H.pk []
 obtain rfl:=zj hr zq2
 exact⟨rfl,f⟩
 refine gw (.string ⟨v6 d⟩) (dF b) (IA rfl) (gw (.string ⟨v6 c⟩) (dF b) (IA rfl) (gw (.bool (decide (d < c))) (dF b) (IM (e:=Op.bytesLess d c) (JK rfl rfl) (wz _ _)) (gw (.bool (decide (d < c))) (dT a) (Io rfl (dF b) rfl) (fw (.bool (decide (d < c))) (Iw rfl (dT a) rfl) (An rfl (rt (rs ?_)))))))
 have g:=H.pk []
 obtain rfl:=zj hr zq2
 exact⟨rfl,g⟩
 refine Sz (dF a) (Sz (dF a) (Sz (dF a) (IG rfl rfl rfl (IG rfl rfl rfl (IG rfl rfl rfl (Sz (dF a) (fw (.bool false) (Io rfl (dF a) rfl) (An rfl (rt (rs ?_))))))))))
 have h:=H.pk []
 obtain rfl:=zj hr zq1
 exact⟨rfl,h⟩
def ng (a:aL) (b:aL):aL × Bool:=
 bnd (gF a) λ c=>if c=0 then bnd (gF b) λ d=>if d=0 then bnd (om b.aR a.aR) λ e=>bnd (if e=true then b.aR else a.aR) λ sJrbtbtbJ=>if sJrbtbtbJ≠[] then if sJrbtbtbJ<=(jK a.aJ b.aJ) then(aL.mk [] [],false) else(aL.mk (jK a.aJ b.aJ) sJrbtbtbJ,true) else(aL.mk (jK a.aJ b.aJ) sJrbtbtbJ,true) else(aL.mk [] [],false) else(aL.mk [] [],false)
theorem ut (w D) (d:aL) (c:aL) (r0:aL) (r1) (H:Own w D w []) (hr:ng d c=(r0,r1)):
    Calls v5 70 #[.agg (aL.cells d).toArray, .agg (aL.cells c).toArray] w (dA λ v w'=>v= .tuple #[.agg (aL.cells r0).toArray, .bool r1]/\Own w D w' []):=by
 unfold ng at hr
 refine cb Tryz.func70 ?_
 refine sr ?_
 refine dn (aL.cells d) 38 H ?_
 intro I aU aA
 refine dn (aL.cells c) 38 aA ?_
 intro y aV aB
 refine dn [.string ⟨v6 []⟩, .string ⟨v6 []⟩] 38 aB ?_
 intro J aW O
 refine An rfl (Ik (sr (La (aL.cells d) O 2 N0 M9 ?_)))
 obtain⟨z,h⟩:∃ q,gF d=q:=⟨_,rfl⟩
 obtain⟨aX,P,aG,Q,aH⟩:=Iu O
 refine cl U4 (lZ _ _ d z P h) ?_
 rintro _ aY ⟨rfl,R⟩
 have K:=Q _ _ R
 refine fw (.bool (decide (¬ (z=0)))) (IM (e:= !(decide (z=0))) yk decide_not.symm) (Mz rfl ?_)
 by_cases f:z=0
 refine gw (.agg (aL.cells c).toArray) (dF (Lr f)) (IB rfl (IJ (cs:=(aL.cells c)) N0 M9 ((K.cls (i:=1) rfl).lit (k:=0) (m:=2) rfl))) ?_
 obtain⟨u,j⟩:∃ q,gF c=q:=⟨_,rfl⟩
 obtain⟨aZ,S,aI,T,aJ⟩:=Iu K
 refine pW (dF (Lr f)) U4 (lZ _ _ c u S j) ?_
 rintro _ bf ⟨rfl,U⟩
 have x:=T _ _ U
 refine gw (.bool (decide (¬ (u=0)))) (dF (Lr f)) (IM (e:= !(decide (u=0))) yk decide_not.symm) (fw (.bool (decide (¬ (u=0)))) (Io rfl (dF (Lr f)) rfl) (nt ?_))
 by_cases t:u=0
 refine jF (dF (Lr t)) (sk (sr (Kz (vP I 0) (Lz (.string ⟨v6 d.aJ⟩) x 2 C0 (Kz (vP y 0) (Lz (.string ⟨v6 c.aJ⟩) x 1 C0 (fw (.string ⟨v6 (jK d.aJ c.aJ)⟩) (J4 rfl) (Kz (vP I 1) (Lz (.string ⟨v6 d.aR⟩) x 2 C0 (Kz (.agg #[.string ⟨v6 (jK d.aJ c.aJ)⟩, .string ⟨v6 d.aR⟩]) ?_))))))))))
 refine dn [.string ⟨v6 []⟩, .string ⟨v6 []⟩] 38 x ?_
 intro n bg aC
 refine df [.string ⟨v6 (jK d.aJ c.aJ)⟩, .string ⟨v6 d.aR⟩] 0 aC M9 ?_
 intro bi L
 refine nt (Ik (sr (Kz (vP y 1) (Lz (.string ⟨v6 c.aR⟩) L 2 C0 (Kz (vP I 1) (Lz (.string ⟨v6 d.aR⟩) L 3 C0 ?_))))))
 obtain⟨M,r⟩:∃ q,om c.aR d.aR=q:=⟨_,rfl⟩
 obtain⟨bn,V,aK,W,aM⟩:=Iu L
 refine cl Tryz.call71 (wo _ _ c.aR d.aR M V r) ?_
 rintro _ bq ⟨rfl,X⟩
 have Y:=W _ _ X
 refine nt ?_
 obtain⟨Z,o⟩:=lF λ a w'=>Own w D w' [blk n [.string ⟨v6 (jK d.aJ c.aJ)⟩, .string ⟨v6 a⟩] 38,blk J [.string ⟨v6 []⟩, .string ⟨v6 []⟩] 38,blk y (aL.cells c) 38]/\(if M=true then c.aR else d.aR)=a
 refine Jg (λ i:(List UInt8)=> [(6,vP n 0),(5, .bool false),(4,vP J 0)]) Z ?_ ?_
 rcases Ls (M) with l | l
 refine jT l ?_
 have A:=Y.pk [0,1,2]
 refine Il (Kz (vP y 1) (Lz (.string ⟨v6 c.aR⟩) A 2 C0 (Kz (vP n 1) ?_)))
 refine df [.string ⟨v6 c.aR⟩] 1 A Tryz.sizeOf9 ?_
 intro aN aa
 refine C4 ?_
 have af:=aa.pf []
 exact I8 c.aR ⟨rfl,rfl,rfl,trivial⟩ (o.2 ⟨af,ip l⟩)
 refine jF l (IU ?_)
 have ag:=Y.pk [0,1,2]
 exact I8 d.aR ⟨rfl,rfl,rfl,trivial⟩ (o.2 ⟨ag,fP l⟩)
 rintro a aO N
 obtain⟨ah,p⟩:=o.1 N
 refine Ik (Ik ?_)
 have g:=ah.pk [0,1]
 refine Il (Kz (vP n 1) (Lz (.string ⟨v6 a⟩) g 0 C0 (fw (.bool (decide (a≠[]))) (I6 rfl rfl) (Mz rfl ?_))))
 by_cases b:a≠[]
 refine Gz (vP n 0) (dT b) (Gl (.string ⟨v6 (jK d.aJ c.aJ)⟩) (dT b) g 0 C0 (Gz (vP n 1) (dT b) (Gl (.string ⟨v6 a⟩) (dT b) g 0 C0 (gw (.bool (decide (a<=(jK d.aJ c.aJ)))) (dT b) (IM (e:= !(Op.bytesLess (jK d.aJ c.aJ) a)) (JL rfl rfl) (zz _ _)) (fw (.bool (decide (a<=(jK d.aJ c.aJ)))) (Iw rfl (dT b) rfl) (nt ?_))))))
 by_cases s:a<=(jK d.aJ c.aJ)
 refine jT (dT s) (sr (Kz (.agg #[.string ⟨v6 []⟩, .string ⟨v6 []⟩]) ?_))
 have ai:=g.pb [0]
 refine df [.string ⟨v6 []⟩, .string ⟨v6 []⟩] 0 ai M9 ?_
 intro aP B
 refine An rfl (rt (tR (Fin.res (jb (vs:= [.agg #[.string ⟨v6 []⟩, .string ⟨v6 []⟩], .bool false]) rfl (cK.cell rfl (IJ (cs:= [.string ⟨v6 []⟩, .string ⟨v6 []⟩]) N0 M9 ((B.cls (i:=0) rfl).lit (k:=0) (m:=2) rfl)) (cK.tmp rfl cK.nil)) (Lj rfl)) ?_)))
 have aj:=B.pk []
 obtain⟨rfl,rfl⟩:=fD (zj hr zq8)
 exact⟨rfl,aj⟩
 refine jF (dF s) (sk (sr (La ([.string ⟨v6 (jK d.aJ c.aJ)⟩, .string ⟨v6 a⟩]) g 0 N0 M9 ?_)))
 have ak:=g.pb [0]
 refine df [.string ⟨v6 (jK d.aJ c.aJ)⟩, .string ⟨v6 a⟩] 0 ak M9 ?_
 intro aQ C
 refine An rfl (rt (Fin.res (jb (vs:= [.agg #[.string ⟨v6 (jK d.aJ c.aJ)⟩, .string ⟨v6 a⟩], .bool true]) rfl (cK.cell rfl (IJ (cs:= [.string ⟨v6 (jK d.aJ c.aJ)⟩, .string ⟨v6 a⟩]) N0 M9 ((C.cls (i:=0) rfl).lit (k:=0) (m:=2) rfl)) (cK.tmp rfl cK.nil)) (Lj rfl)) ?_))
 have au:=C.pk []
 obtain⟨rfl,rfl⟩:=fD (zj hr zq8)
 exact⟨rfl,au⟩
 refine Sz (dF b) (Sz (dF b) (Sz (dF b) (Sz (dF b) (Sz (dF b) (fw (.bool false) (Io rfl (dF b) rfl) (nt (jf (sk (sr (La ([.string ⟨v6 (jK d.aJ c.aJ)⟩, .string ⟨v6 a⟩]) g 0 N0 M9 ?_))))))))))
 have av:=g.pb [0]
 refine df [.string ⟨v6 (jK d.aJ c.aJ)⟩, .string ⟨v6 a⟩] 0 av M9 ?_
 intro aR E
 refine An rfl (rt (Fin.res (jb (vs:= [.agg #[.string ⟨v6 (jK d.aJ c.aJ)⟩, .string ⟨v6 a⟩], .bool true]) rfl (cK.cell rfl (IJ (cs:= [.string ⟨v6 (jK d.aJ c.aJ)⟩, .string ⟨v6 a⟩]) N0 M9 ((E.cls (i:=0) rfl).lit (k:=0) (m:=2) rfl)) (cK.tmp rfl cK.nil)) (Lj rfl)) ?_))
 have ax:=E.pk []
 obtain⟨rfl,rfl⟩:=fD (zj hr zq7)
 exact⟨rfl,ax⟩
 refine jT (dT t) (sr (Kz (.agg #[.string ⟨v6 []⟩, .string ⟨v6 []⟩]) ?_))
 refine df [.string ⟨v6 []⟩, .string ⟨v6 []⟩] 0 x M9 ?_
 intro aS F
 refine An rfl (rt (tR (Fin.res (jb (vs:= [.agg #[.string ⟨v6 []⟩, .string ⟨v6 []⟩], .bool false]) rfl (cK.cell rfl (IJ (cs:= [.string ⟨v6 []⟩, .string ⟨v6 []⟩]) N0 M9 ((F.cls (i:=0) rfl).lit (k:=0) (m:=2) rfl)) (cK.tmp rfl cK.nil)) (Lj rfl)) ?_)))
 have ay:=F.pk []
 obtain⟨rfl,rfl⟩:=fD (zj hr zq4)
 exact⟨rfl,ay⟩
 refine Sz (dT f) (Sz (dT f) (Sz (dT f) (fw (.bool true) (Iw rfl (dT f) rfl) (nt (jt (sr (Kz (.agg #[.string ⟨v6 []⟩, .string ⟨v6 []⟩]) ?_)))))))
 refine df [.string ⟨v6 []⟩, .string ⟨v6 []⟩] 0 K M9 ?_
 intro aT G
 refine An rfl (rt (tR (Fin.res (jb (vs:= [.agg #[.string ⟨v6 []⟩, .string ⟨v6 []⟩], .bool false]) rfl (cK.cell rfl (IJ (cs:= [.string ⟨v6 []⟩, .string ⟨v6 []⟩]) N0 M9 ((G.cls (i:=0) rfl).lit (k:=0) (m:=2) rfl)) (cK.tmp rfl cK.nil)) (Lj rfl)) ?_)))
 have az:=G.pk []
 obtain⟨rfl,rfl⟩:=fD (zj hr zq2)
 exact⟨rfl,az⟩
def nz (d:aL) (e:aL):Bool:=
 bnd (gF d) λ a=>if a=0 then bnd (gF e) λ b=>if b=0 then if d.aJ<=e.aJ then bnd (om d.aR e.aR) λ c=> !c else false else false else false
theorem zy (w D) (f:aL) (g:aL) (L) (H:Own w D w []) (hr:nz f g=L):
    Calls v5 37 #[.agg (aL.cells f).toArray, .agg (aL.cells g).toArray] w (dA λ v w'=>v= .bool L/\Own w D w' []):=by
 unfold nz at hr
 refine cb Tryz.func37 ?_
 refine sr ?_
 refine dn (aL.cells f) 38 H ?_
 intro o S E
 refine dn (aL.cells g) 38 E ?_
 intro p T r
 refine Ar rfl (La (aL.cells f) r 1 N0 M9 ?_)
 obtain⟨m,d⟩:∃ q,gF f=q:=⟨_,rfl⟩
 obtain⟨U,s,M,t,N⟩:=Iu r
 refine cl U4 (lZ _ _ f m s d) ?_
 rintro _ V ⟨rfl,u⟩
 have n:=t _ _ u
 refine Kz (.bool (decide (m=0))) (Mz rfl ?_)
 by_cases c:m=0
 refine Ga (aL.cells g) (dT c) n 0 N0 M9 ?_
 obtain⟨j,i⟩:∃ q,gF g=q:=⟨_,rfl⟩
 obtain⟨W,x,O,y,P⟩:=Iu n
 refine pW (dT c) U4 (lZ _ _ g j x i) ?_
 rintro _ X ⟨rfl,z⟩
 have h:=y _ _ z
 refine Gz (.bool (decide (j=0))) (dT c) (fw (.bool (decide (j=0))) (Iw rfl (dT c) rfl) (Mz rfl ?_))
 by_cases b:j=0
 refine Gz (vP o 0) (dT b) (Gl (.string ⟨v6 f.aJ⟩) (dT b) h 1 C0 (Gz (vP p 0) (dT b) (Gl (.string ⟨v6 g.aJ⟩) (dT b) h 0 C0 (gw (.bool (decide (f.aJ<=g.aJ))) (dT b) (IM (e:=Op.bytesLess f.aJ g.aJ || decide (f.aJ=g.aJ)) (JD rfl rfl) (xI _ _)) (fw (.bool (decide (f.aJ<=g.aJ))) (Iw rfl (dT b) rfl) (Mz rfl ?_))))))
 by_cases a:f.aJ<=g.aJ
 refine Gz (vP o 1) (dT a) (Gl (.string ⟨v6 f.aR⟩) (dT a) h 1 C0 (Gz (vP p 1) (dT a) (Gl (.string ⟨v6 g.aR⟩) (dT a) h 0 C0 ?_)))
 obtain⟨k,l⟩:∃ q,om f.aR g.aR=q:=⟨_,rfl⟩
 obtain⟨Y,A,Q,B,R⟩:=Iu h
 refine pW (dT a) Tryz.call71 (wo _ _ f.aR g.aR k A l) ?_
 rintro _ Z ⟨rfl,C⟩
 have F:=B _ _ C
 refine Gz (.bool (!k)) (dT a) (fw (.bool (!k)) (Iw rfl (dT a) rfl) (An rfl (rt (rs ?_))))
 have G:=F.pk []
 obtain rfl:=zj hr zq6
 exact⟨rfl,G⟩
 refine Sz (dF a) (Sz (dF a) (Sz (dF a) (Sz (dF a) (Sz (dF a) (Sz (dF a) (fw (.bool false) (Io rfl (dF a) rfl) (An rfl (rt (rs ?_)))))))))
 have I:=h.pk []
 obtain rfl:=zj hr zq5
 exact⟨rfl,I⟩
 refine Sz (dF b) (Sz (dF b) (Sz (dF b) (Sz (dF b) (Sz (dF b) (fw (.bool false) (Io rfl (dF b) rfl) (Mz rfl (Sz rfl (Sz rfl (Sz rfl (Sz rfl (Sz rfl (Sz rfl (fw (.bool false) (Io rfl rfl rfl) (An rfl (rt (rs ?_))))))))))))))))
 have J:=h.pk []
 obtain rfl:=zj hr zq4
 exact⟨rfl,J⟩
 refine Sz (dF c) (Sz (dF c) (Sz (dF c) (fw (.bool false) (Io rfl (dF c) rfl) (Mz rfl (Sz rfl (Sz rfl (Sz rfl (Sz rfl (Sz rfl (fw (.bool false) (Io rfl rfl rfl) (Mz rfl (Sz rfl (Sz rfl (Sz rfl (Sz rfl (Sz rfl (Sz rfl (fw (.bool false) (Io rfl rfl rfl) (An rfl (rt (rs ?_)))))))))))))))))))))
 have K:=n.pk []
 obtain rfl:=zj hr zq2
 exact⟨rfl,K⟩
def ni (d:List UInt8):Nat->Nat->Nat
  | 0,a=>default
  | c+1,a=>if(a:Int) > 0 then bnd (B8 d (a - 1) default) λ b=>if(b.toNat:Int)=255 then ni d c (a - 1) else a else a
def rT (a:List UInt8):aL × Int:=
 bnd (iO a) λ b=>if b=0 then if(a.length:Int) < 12 then(aL.mk a (a++([0])),0) else bnd (bnd (ni a (12+1) 12) λ sLrbtfJjL=>sLrbtfJjL) λ sJrbtfJ=>if(sJrbtfJ:Int)=0 then(aL.mk a [],0) else bnd (B8 a (sJrbtfJ - 1) default) λ c=>(aL.mk a ((r3 (sJrbtfJ - 1) a)++([(c+(1:UInt8))])),0) else(aL.mk [] [],b)
theorem AZ (w D c) (r0:aL) (r1) (H:Own w D w []) (hr:rT c=(r0,r1)):
    Calls v5 35 #[.string ⟨v6 c⟩] w (dA λ v w'=>v= .tuple #[.agg (aL.cells r0).toArray,vI r1]/\Own w D w' []):=by
 unfold rT at hr
 refine cb Tryz.func35 ?_
 refine sr ?_
 refine dn [.string ⟨v6 []⟩, .string ⟨v6 []⟩] 38 H ?_
 intro B aR ay
 refine An rfl (Ik (sr (Mz rfl ?_)))
 obtain⟨n,g⟩:∃ q,iO c=q:=⟨_,rfl⟩
 obtain⟨aS,T,aH,U,aI⟩:=Iu ay
 refine cl U5 (mg _ _ c n T g) ?_
 rintro _ aU ⟨rfl,V,L⟩
 have P:=U _ _ V
 replace L: ¬ (n=0)\/(1<=c.length/\c.length<=12):=L
 refine Ar rfl (Mz rfl (fw (.bool (decide (¬ (n=0)))) (IM (e:= !(decide (n=0))) yk decide_not.symm) (nt ?_)))
 by_cases C:n=0
 refine jF (dF (Lr C)) (sk (Ik (sr (Mz rfl (Kz (vJ c.length) (Kz (.bool (decide ((c.length:Int) < 12))) (nt ?_)))))))
 by_cases E:(c.length:Int) < 12
 refine jT (decide_eq_true E) (sr (Mz rfl (Mz rfl (fw (.string ⟨v6 (c++([0]))⟩) (J3 rfl rfl i4) (Kz (.agg #[.string ⟨v6 c⟩, .string ⟨v6 (c++([0]))⟩]) ?_)))))
 refine df [.string ⟨v6 c⟩, .string ⟨v6 (c++([0]))⟩] 0 P M9 ?_
 intro aV W
 refine An rfl (rt (tR (Fin.res (jb (vs:= [.agg #[.string ⟨v6 c⟩, .string ⟨v6 (c++([0]))⟩],vI 0]) rfl (cK.cell rfl (IJ (cs:= [.string ⟨v6 c⟩, .string ⟨v6 (c++([0]))⟩]) N0 M9 ((W.cls (i:=0) rfl).lit (k:=0) (m:=2) rfl)) (cK.tmp rfl cK.nil)) (Lj rfl)) ?_)))
 have az:=W.pk []
 obtain⟨rfl,rfl⟩:=fD (zj hr zq3)
 exact⟨rfl,az⟩
 refine jF (dF E) (sk (sr (An rfl (Ik ?_))))
 obtain⟨X,p⟩:=lF λ (a:Nat) w'=>Own w D w' [blk B [.string ⟨v6 []⟩, .string ⟨v6 []⟩] 38]/\a<=9223372036854775807/\a<=c.length/\(bnd (ni c (12+1) 12) λ sLrbtfJjL=>sLrbtfJjL)=a
 refine Jg (λ i:Nat=> [(5,vJ i),(3,vI 0),(2,vP B 0),(0, .string ⟨v6 c⟩)]) X ?_ ?_
 refine bo ?_
 have Y:=P.pf []
 obtain⟨Z,r⟩:=FI λ (b:Nat) (h:Nat) w'=>Own w D w' [blk B [.string ⟨v6 []⟩, .string ⟨v6 []⟩] 38]/\b<=c.length/\b < h/\ni c (12+1) 12=ni c h b
 refine C1 (λ i:Nat × Nat=> [(5,vJ i.1),(3,vI 0),(2,vP B 0),(0, .string ⟨v6 c⟩)]) Z (λ i=>i.2) (12,12+1) ⟨rfl,rfl,rfl,rfl,trivial⟩ (r.2 ⟨Y,e6,e6,rfl⟩) ?_
 rintro ⟨b,h⟩ aJ Q
 obtain⟨F,aA,aB,s⟩:=r.1 Q
 obtain⟨G,R⟩:∃ q,h=q+1:=⟨h - 1,e6⟩
 subst R
 refine Ik (sr (Mz rfl (Kz (.bool (decide ((b:Int) > 0))) (Mz rfl ?_))))
 by_cases d:(b:Int) > 0
 refine gw (.string ⟨v6 c⟩) (dT d) (IA rfl) (gw (vJ b) (dT d) (IA rfl) (gw (vJ (b - 1)) (dT d) (Ir (e:=C3.wrap ((b:Int) - 1)) yk f0) ?_))
 obtain⟨x,u⟩:=iG (ls:=c) (i:=b - 1) e6
 refine gw (.int .u8 (x.toNat:Int)) (dT d) (JS v9 rfl rfl u) (Gz (.bool (decide ((x.toNat:Int)=255))) (dT d) (fw (.bool (decide ((x.toNat:Int)=255))) (Iw rfl (dT d) rfl) (nt ?_)))
 by_cases z:(x.toNat:Int)=255
 refine jT (dT z) (sk (bo (Il (Mz rfl (fw (vJ (b - 1)) (Ir (e:=C3.wrap ((b:Int) - 1)) yk f0) (Az rfl (C4 (bN ?_))))))))
 have aa:=F.pf []
 exact II (b - 1,G) ⟨rfl,rfl,rfl,rfl,trivial⟩ (r.2 ⟨aa,e6,e6,et (s) (et (ip d) (et (ae (aT u)) (ip z)))⟩) (by show G < G+1; omega)
 refine jF (dF z) (C5 (IC (IC (IK ?_))))
 have af:=F.pf []
 exact I8 b ⟨rfl,rfl,rfl,rfl,trivial⟩ (p.2 ⟨af,e6,e6,ae (et (s) (et (ip d) (et (ae (aT u)) (iN z))))⟩)
 refine Sz (dF d) (Sz (dF d) (Sz (dF d) (Sz (dF d) (Sz (dF d) (fw (.bool false) (Io rfl (dF d) rfl) (nt (jf (C5 (IC (IC (IK ?_)))))))))))
 have ag:=F.pf []
 exact I8 b ⟨rfl,rfl,rfl,rfl,trivial⟩ (p.2 ⟨ag,e6,e6,ae (et (s) (iN d))⟩)
 rintro a aK S
 obtain⟨M,aC,aD,I⟩:=p.1 S
 refine Ik (sr (Mz rfl (Kz (.bool (decide ((a:Int)=0))) (nt ?_))))
 by_cases A:(a:Int)=0
 refine jT (dT A) (sr (Mz rfl (Kz (.agg #[.string ⟨v6 c⟩, .string ⟨v6 []⟩]) ?_)))
 refine df [.string ⟨v6 c⟩, .string ⟨v6 []⟩] 0 M M9 ?_
 intro aM N
 refine An rfl (rt (tR (Fin.res (jb (vs:= [.agg #[.string ⟨v6 c⟩, .string ⟨v6 []⟩],vI 0]) rfl (cK.cell rfl (IJ (cs:= [.string ⟨v6 c⟩, .string ⟨v6 []⟩]) N0 M9 ((N.cls (i:=0) rfl).lit (k:=0) (m:=2) rfl)) (cK.tmp rfl cK.nil)) (Lj rfl)) ?_)))
 have ah:=N.pk []
 obtain⟨rfl,rfl⟩:=fD (zj hr zq5)
 exact⟨rfl,ah⟩
 refine jF (dF A) (sk (Ik ?_))
 refine G9 [] (IE IQ) M ?_
 intro aN ai
 refine qv 0 rfl rfl (qv 1 rfl rfl (qv 2 rfl rfl (qt (v:=vJ (a - 1)) 3 rfl (λ _ _=>Ir (e:=C3.wrap ((a:Int) - 1)) yk f0) (qt (v:= .string ⟨v6 (r3 (a - 1) c)⟩) 4 rfl (λ _ _=>KO v9 rfl rfl i4) (qv 5 rfl rfl (qv 6 rfl rfl (qt (v:=vJ (a - 1)) 7 rfl (λ _ _=>Ir (e:=C3.wrap ((a:Int) - 1)) yk f0) ?_)))))))
 obtain⟨f,J⟩:=iG (ls:=c) (i:=a - 1) e6
 refine qt (v:= .int .u8 (f.toNat:Int)) 8 rfl (λ _ _=>JS v9 rfl rfl J) (qt (v:= .int .u8 (((f+(1:UInt8)).toNat:Nat):Int)) 9 rfl (λ _ _=>Ir (e:=IntKind.u8.wrap ((f.toNat:Int)+1)) yk (FC f (1:UInt8))) ?_)
 refine qd 10 rfl (Jq (cs:= [.int .u8 (((f+(1:UInt8)).toNat:Nat):Int)]) (t:=5) (sz:=1) (m:=1) ai rfl rfl (λ _=>by kernel_rfl) rfl f2 ?_)
 intro aj aO j
 replace j:=IX (y:=row aj 1 1 (q4 eB ([(f+(1:UInt8))])) 5 1) rfl j
 refine⟨.inr ⟨_,j⟩, ?_⟩
 refine Ib j (qt (v:= .string ⟨v6 ([(f+(1:UInt8))])⟩) 11 rfl (λ _ ⟨_,H9⟩=>JE (l:= [(f+(1:UInt8))]) Tryz.underlying134 Tryz.underlying5 v9 (H9.rds (i:=0) rfl) rfl) (qt (v:= .string ⟨v6 ((r3 (a - 1) c)++([(f+(1:UInt8))]))⟩) 12 rfl (λ _ _=>J3 rfl rfl i4) (qk (.agg #[.string ⟨v6 c⟩, .string ⟨v6 ((r3 (a - 1) c)++([(f+(1:UInt8))]))⟩]) 13 rfl ?_)))
 have ak:=j.pb [0]
 refine qe 14 rfl (Do.store (vs:= [.string ⟨v6 c⟩, .string ⟨v6 ((r3 (a - 1) c)++([(f+(1:UInt8))]))⟩]) (o:=0) ak rfl rfl M9 rfl rfl rfl rfl ?_)
 intro aP au
 have K:=au.pb [0]
 refine⟨.inr ⟨_,K⟩, ?_⟩
 refine qa 15 rfl rfl (qn (Iq (rt (Fin.res (jb (vs:= [.agg #[.string ⟨v6 c⟩, .string ⟨v6 ((r3 (a - 1) c)++([(f+(1:UInt8))]))⟩],vI 0]) rfl (cK.cell rfl (IJ (cs:= [.string ⟨v6 c⟩, .string ⟨v6 ((r3 (a - 1) c)++([(f+(1:UInt8))]))⟩]) N0 M9 ((K.cls (i:=1) rfl).lit (k:=0) (m:=2) rfl)) (cK.tmp rfl cK.nil)) (Lj rfl)) ?_))))
 have av:=K.pk []
 obtain⟨rfl,rfl⟩:=fD (zj hr zq6)
 exact⟨rfl,av⟩
 refine jT (dT C) (sr (Kz (.agg #[.string ⟨v6 []⟩, .string ⟨v6 []⟩]) (Mz rfl ?_)))
 refine df [.string ⟨v6 []⟩, .string ⟨v6 []⟩] 0 P M9 ?_
 intro aQ O
 refine An rfl (rt (tR (Fin.res (jb (vs:= [.agg #[.string ⟨v6 []⟩, .string ⟨v6 []⟩],vI n]) rfl (cK.cell rfl (IJ (cs:= [.string ⟨v6 []⟩, .string ⟨v6 []⟩]) N0 M9 ((O.cls (i:=0) rfl).lit (k:=0) (m:=2) rfl)) (cK.tmp rfl cK.nil)) (Lj rfl)) ?_)))
 have ax:=O.pk []
 obtain⟨rfl,rfl⟩:=fD (zj hr zq2)
 exact⟨rfl,ax⟩
def kQ (a:aN):Int:=
 if a.av=1 then if a.aJ≠[] then 40 else if a.aR≠[] then 40 else if a.aG≠[] then 40 else if a.aV=0 then bnd (iO a.aZ) λ d=>if d=0 then if(a.aG.length:Int) > 16 then 2 else 0 else 20 else 40 else if a.av=2 then if a.aJ≠[] then 40 else if a.aR≠[] then 40 else if a.aV=0 then bnd (iO a.aZ) λ e=>if e=0 then if(a.aG.length:Int) > 16 then 2 else 0 else 20 else 40 else if a.av=4 then if a.aZ≠[] then 40 else if a.aG≠[] then 40 else if(a.aG.length:Int) > 16 then 2 else bnd (gF (aL.mk a.aJ a.aR)) λ f=>if f=0 then if a.aV < 1 then 1 else if a.aV > 4 then 1 else 0 else 21 else if a.av=3 then if a.aJ≠[] then 40 else if a.aR≠[] then 40 else if a.aG≠[] then 40 else if a.aV=0 then bnd (iO a.aZ) λ b=>if b=0 then if(a.aG.length:Int) > 16 then 2 else 0 else 20 else 40 else if a.av=5 then if a.aZ≠[] then 40 else if a.aG≠[] then 40 else if a.aV=0 then if(a.aG.length:Int) > 16 then 2 else bnd (gF (aL.mk a.aJ a.aR)) λ c=>if c=0 then 0 else 21 else 40 else 40
theorem uL (w D) (a:aN) (r0) (H:Own w D w []) (hr:kQ a=r0):
    Calls v5 34 #[.agg (aN.cells a).toArray] w (dA λ v w'=>v=vI r0/\Own w D w' []/\(¬ (r0=0)\/(1<=a.av/\a.av<=5))):=by
 unfold kQ at hr
 refine cb Tryz.func34 ?_
 refine sr ?_
 refine dn (aN.cells a) 72 H ?_
 intro d dJ b
 refine Ar rfl (Kz (vP d 0) (Lz (vI a.av) b 0 C2 (Kz (.bool (decide (a.av=1))) (Mz rfl ?_))))
 by_cases g:a.av=1
 refine Sz (dT g) (Sz (dT g) (Sz (dT g) (fw (.bool true) (Iw rfl (dT g) rfl) (Mz rfl (Sz rfl (Sz rfl (Sz rfl (fw (.bool true) (Iw rfl rfl rfl) (Ar rfl (Kz (vP d 0) (Lz (vI a.av) b 0 C2 (Kz (.bool (decide (a.av=4))) (Mz rfl ?_)))))))))))))
 have z:(decide (a.av=4))=false:=(dF e6)
 refine Gz (vP d 0) z (Gl (vI a.av) z b 0 C2 (Gz (.bool (decide (a.av=5))) z (fw (.bool (decide (a.av=5))) (Io rfl z rfl) (An rfl (Ik (sr (Mz rfl (Kz (.bool false) (Mz rfl (Sz rfl (Sz rfl (fw (.bool false) (Io rfl rfl rfl) (Mz rfl (gw (.bool true) rfl (IA rfl) (gw (.bool true) rfl (IA rfl) (Gz (vP d 3) rfl (Gl (.string ⟨v6 a.aJ⟩) rfl b 0 C0 (gw (.bool (decide (a.aJ≠[]))) rfl (I6 rfl rfl) (gw (.bool (decide (a.aJ≠[]))) rfl (IA rfl) ?_)))))))))))))))))))
 by_cases B:a.aJ≠[]
 refine Sz (dT B) (Sz (dT B) (Sz (dT B) (gw (.bool true) rfl (Iw rfl (dT B) rfl) (gw (.bool true) rfl (Iw rfl rfl rfl) (fw (.bool true) (Io rfl rfl rfl) (Mz rfl (Sz rfl (Sz rfl (IG rfl rfl rfl (IG rfl rfl rfl (IG rfl rfl rfl (Sz rfl (fw (.bool true) (Iw rfl rfl rfl) (Mz rfl (Sz rfl (Sz rfl (Sz rfl (Sz rfl (IG rfl rfl rfl (IG rfl rfl rfl (IG rfl rfl rfl (Sz rfl (fw (.bool true) (Iw rfl rfl rfl) (Mz rfl (Sz rfl (Sz rfl (Sz rfl (Sz rfl (IG rfl rfl rfl (IG rfl rfl rfl (IG rfl rfl rfl (Sz rfl (fw (.bool true) (Iw rfl rfl rfl) (nt (jt (sr (Az rfl ?_)))))))))))))))))))))))))))))))))))))
 refine nt (rt (tR (rs ?_)))
 have bQ:=b.pk []
 obtain rfl:=zj hr zq2
 exact⟨rfl,bQ,e6⟩
 refine Gz (vP d 4) (dF B) (Gl (.string ⟨v6 a.aR⟩) (dF B) b 0 C0 (gw (.bool (decide (a.aR≠[]))) (dF B) (I6 rfl rfl) (gw (.bool (decide (a.aR≠[]))) rfl (Io rfl (dF B) rfl) (gw (.bool (decide (a.aR≠[]))) rfl (Iw rfl rfl rfl) (fw (.bool (decide (a.aR≠[]))) (Io rfl rfl rfl) (Mz rfl ?_))))))
 by_cases C:a.aR≠[]
 refine Sz (dT C) (Sz (dT C) (IG rfl rfl rfl (IG rfl rfl rfl (IG rfl rfl rfl (Sz (dT C) (fw (.bool true) (Iw rfl (dT C) rfl) (Mz rfl (Sz rfl (Sz rfl (Sz rfl (Sz rfl (IG rfl rfl rfl (IG rfl rfl rfl (IG rfl rfl rfl (Sz rfl (fw (.bool true) (Iw rfl rfl rfl) (Mz rfl (Sz rfl (Sz rfl (Sz rfl (Sz rfl (IG rfl rfl rfl (IG rfl rfl rfl (IG rfl rfl rfl (Sz rfl (fw (.bool true) (Iw rfl rfl rfl) (nt (jt (sr (An rfl (rt (tR (rs ?_)))))))))))))))))))))))))))))))))
 have bR:=b.pk []
 obtain rfl:=zj hr zq3
 exact⟨rfl,bR,e6⟩
 refine gw (.bool (decide (a.av=5))) (dF C) (IA rfl) (gw (.bool (decide (a.av=5))) (dF C) (IA rfl) ?_)
 have r:(decide (a.av=5))=false:=(dF e6)
 refine Sz r (Sz r (Sz r (gw (.bool false) (dF C) (Io rfl r rfl) (fw (.bool false) (Io rfl (dF C) rfl) (Mz rfl (Gz (vP d 0) rfl (Gl (vI a.av) rfl b 0 C2 (gw (.bool (decide (¬ (a.av=2)))) rfl (IM (e:= !(decide (a.av=2))) yk decide_not.symm) (gw (.bool (decide (¬ (a.av=2)))) rfl (IA rfl) ?_)))))))))
 have Y:(decide (¬ (a.av=2)))=true:=(dT e6)
 refine Gz (vP d 2) Y (Gl (.string ⟨v6 a.aG⟩) Y b 0 C0 (I7 (v:= .bool (decide (a.aG≠[]))) rfl rfl Y rfl (I6 rfl rfl) (gw (.bool (decide (a.aG≠[]))) rfl (Iw rfl Y rfl) (fw (.bool (decide (a.aG≠[]))) (Io rfl rfl rfl) (Mz rfl ?_)))))
 by_cases u:a.aG≠[]
 refine Sz (dT u) (Sz (dT u) (Sz (dT u) (Sz (dT u) (IG rfl rfl rfl (IG rfl rfl rfl (IG rfl rfl rfl (Sz (dT u) (fw (.bool true) (Iw rfl (dT u) rfl) (nt (jt (sr (An rfl (rt (tR (rs ?_)))))))))))))))
 have bS:=b.pk []
 obtain rfl:=zj hr zq4
 exact⟨rfl,bS,e6⟩
 refine Gz (vP d 0) (dF u) (Gl (vI a.av) (dF u) b 0 C2 (gw (.bool (decide (¬ (a.av=4)))) (dF u) (IM (e:= !(decide (a.av=4))) yk decide_not.symm) (gw (.bool (decide (¬ (a.av=4)))) (dF u) (IA rfl) ?_)))
 have Z:(decide (¬ (a.av=4)))=true:=(dT e6)
 refine Gz (vP d 5) Z (Gl (vI a.aV) Z b 0 C2 (I7 (v:= .bool (decide (¬ (a.aV=0)))) rfl rfl Z rfl (IM (e:= !(decide (a.aV=0))) yk decide_not.symm) (gw (.bool (decide (¬ (a.aV=0)))) (dF u) (Iw rfl Z rfl) (fw (.bool (decide (¬ (a.aV=0)))) (Io rfl (dF u) rfl) (nt ?_)))))
 by_cases ax:a.aV=0
 refine jF (dF (Lr ax)) (sk (Ik (sr (Mz rfl (Mz rfl (Gz (vP d 1) rfl (Gl (.string ⟨v6 a.aZ⟩) rfl b 0 C0 ?_)))))))
 obtain⟨ay,aa⟩:∃ q,iO a.aZ=q:=⟨_,rfl⟩
 obtain⟨dK,aW,dw,aX,dx⟩:=Iu b
 refine pW rfl U5 (mg _ _ a.aZ ay aW aa) ?_
 rintro _ dL ⟨rfl,aY,aO⟩
 have aB:=aX _ _ aY
 replace aO: ¬ (ay=0)\/(1<=a.aZ.length/\a.aZ.length<=12):=aO
 refine gw (.bool (decide (¬ (ay=0)))) rfl (IM (e:= !(decide (ay=0))) yk decide_not.symm) (fw (.bool (decide (¬ (ay=0)))) (Iw rfl rfl rfl) (nt ?_))
 by_cases aC:ay=0
 refine jF (dF (Lr aC)) (sk (Ik (sr (Kz (vP d 2) (Lz (.string ⟨v6 a.aG⟩) aB 0 C0 (Kz (vJ a.aG.length) (Kz (.bool (decide ((a.aG.length:Int) > 16))) (nt ?_))))))))
 by_cases aK:(a.aG.length:Int) > 16
 refine jT (dT aK) (sr (An rfl (rt (tR (rs ?_)))))
 have bT:=aB.pk []
 obtain rfl:=zj hr zq8
 exact⟨rfl,bT,e6⟩
 refine jF (dF aK) (sk (Ik (sr (Mz rfl (Mz rfl (Sz r (Sz r (Sz r (Sz r (Sz r (Sz r (Sz r (fw (.bool false) (Io rfl r rfl) (nt (jf (sk (Ik (sr (Kz (vP d 0) (Lz (vI a.av) aB 0 C2 (Kz (.bool (decide (a.av=4))) (Mz rfl (Sz z (Sz z (Sz z (Sz z (IG rfl rfl rfl (IG rfl rfl rfl (IG rfl rfl rfl (Sz z (fw (.bool false) (Io rfl z rfl) (nt (jf ?_)))))))))))))))))))))))))))))))))
 refine sk (sr (An rfl (rt (rs ?_))))
 have bU:=aB.pk []
 obtain rfl:=zj hr zq8
 exact⟨rfl,bU,e6⟩
 refine jT (dT aC) (sr (An rfl (rt (tR (rs ?_)))))
 have bV:=aB.pk []
 obtain rfl:=zj hr zq7
 exact⟨rfl,bV,e6⟩
 refine jT (dT ax) (sr (An rfl (rt (tR (rs ?_)))))
 have bW:=b.pk []
 obtain rfl:=zj hr zq5
 exact⟨rfl,bW,e6⟩
 refine Gz (vP d 0) (dF g) (Gl (vI a.av) (dF g) b 0 C2 (Gz (.bool (decide (a.av=2))) (dF g) (fw (.bool (decide (a.av=2))) (Io rfl (dF g) rfl) (Mz rfl ?_))))
 by_cases i:a.av=2
 refine Sz (dT i) (Sz (dT i) (Sz (dT i) (fw (.bool true) (Iw rfl (dT i) rfl) (Ar rfl (Kz (vP d 0) (Lz (vI a.av) b 0 C2 (Kz (.bool (decide (a.av=4))) (Mz rfl ?_))))))))
 have A:(decide (a.av=4))=false:=(dF e6)
 refine Gz (vP d 0) A (Gl (vI a.av) A b 0 C2 (Gz (.bool (decide (a.av=5))) A (fw (.bool (decide (a.av=5))) (Io rfl A rfl) (An rfl (Ik (sr (Mz rfl (Kz (.bool false) (Mz rfl (Sz rfl (Sz rfl (fw (.bool false) (Io rfl rfl rfl) (Mz rfl (gw (.bool true) rfl (IA rfl) (gw (.bool true) rfl (IA rfl) (Gz (vP d 3) rfl (Gl (.string ⟨v6 a.aJ⟩) rfl b 0 C0 (gw (.bool (decide (a.aJ≠[]))) rfl (I6 rfl rfl) (gw (.bool (decide (a.aJ≠[]))) rfl (IA rfl) ?_)))))))))))))))))))
 by_cases E:a.aJ≠[]
 refine Sz (dT E) (Sz (dT E) (Sz (dT E) (gw (.bool true) rfl (Iw rfl (dT E) rfl) (gw (.bool true) rfl (Iw rfl rfl rfl) (fw (.bool true) (Io rfl rfl rfl) (Mz rfl (Sz rfl (Sz rfl (IG rfl rfl rfl (IG rfl rfl rfl (IG rfl rfl rfl (Sz rfl (fw (.bool true) (Iw rfl rfl rfl) (Mz rfl (Sz rfl (Sz rfl (Sz rfl (Sz rfl (IG rfl rfl rfl (IG rfl rfl rfl (IG rfl rfl rfl (Sz rfl (fw (.bool true) (Iw rfl rfl rfl) (Mz rfl (Sz rfl (Sz rfl (Sz rfl (Sz rfl (IG rfl rfl rfl (IG rfl rfl rfl (IG rfl rfl rfl (Sz rfl (fw (.bool true) (Iw rfl rfl rfl) (nt (jt (sr (Az rfl ?_)))))))))))))))))))))))))))))))))))))
 refine nt (rt (tR (rs ?_)))
 have bX:=b.pk []
 obtain rfl:=zj hr zq3
 exact⟨rfl,bX,e6⟩
 refine Gz (vP d 4) (dF E) (Gl (.string ⟨v6 a.aR⟩) (dF E) b 0 C0 (gw (.bool (decide (a.aR≠[]))) (dF E) (I6 rfl rfl) (gw (.bool (decide (a.aR≠[]))) rfl (Io rfl (dF E) rfl) (gw (.bool (decide (a.aR≠[]))) rfl (Iw rfl rfl rfl) (fw (.bool (decide (a.aR≠[]))) (Io rfl rfl rfl) (Mz rfl ?_))))))
 by_cases F:a.aR≠[]
 refine Sz (dT F) (Sz (dT F) (IG rfl rfl rfl (IG rfl rfl rfl (IG rfl rfl rfl (Sz (dT F) (fw (.bool true) (Iw rfl (dT F) rfl) (Mz rfl (Sz rfl (Sz rfl (Sz rfl (Sz rfl (IG rfl rfl rfl (IG rfl rfl rfl (IG rfl rfl rfl (Sz rfl (fw (.bool true) (Iw rfl rfl rfl) (Mz rfl (Sz rfl (Sz rfl (Sz rfl (Sz rfl (IG rfl rfl rfl (IG rfl rfl rfl (IG rfl rfl rfl (Sz rfl (fw (.bool true) (Iw rfl rfl rfl) (nt (jt (sr (An rfl (rt (tR (rs ?_)))))))))))))))))))))))))))))))))
 have bY:=b.pk []
 obtain rfl:=zj hr zq4
 exact⟨rfl,bY,e6⟩
 refine gw (.bool (decide (a.av=5))) (dF F) (IA rfl) (gw (.bool (decide (a.av=5))) (dF F) (IA rfl) ?_)
 have s:(decide (a.av=5))=false:=(dF e6)
 refine Sz s (Sz s (Sz s (gw (.bool false) (dF F) (Io rfl s rfl) (fw (.bool false) (Io rfl (dF F) rfl) (Mz rfl (Gz (vP d 0) rfl (Gl (vI a.av) rfl b 0 C2 (gw (.bool (decide (¬ (a.av=2)))) rfl (IM (e:= !(decide (a.av=2))) yk decide_not.symm) (gw (.bool (decide (¬ (a.av=2)))) rfl (IA rfl) ?_)))))))))
 have af:(decide (¬ (a.av=2)))=false:=(dF e6)
 refine Sz af (Sz af (Sz af (gw (.bool false) rfl (Io rfl af rfl) (fw (.bool false) (Io rfl rfl rfl) (Mz rfl (Gz (vP d 0) rfl (Gl (vI a.av) rfl b 0 C2 (gw (.bool (decide (¬ (a.av=4)))) rfl (IM (e:= !(decide (a.av=4))) yk decide_not.symm) (gw (.bool (decide (¬ (a.av=4)))) rfl (IA rfl) ?_)))))))))
 have ag:(decide (¬ (a.av=4)))=true:=(dT e6)
 refine Gz (vP d 5) ag (Gl (vI a.aV) ag b 0 C2 (I7 (v:= .bool (decide (¬ (a.aV=0)))) rfl rfl ag rfl (IM (e:= !(decide (a.aV=0))) yk decide_not.symm) (gw (.bool (decide (¬ (a.aV=0)))) rfl (Iw rfl ag rfl) (fw (.bool (decide (¬ (a.aV=0)))) (Io rfl rfl rfl) (nt ?_)))))
 by_cases az:a.aV=0
 refine jF (dF (Lr az)) (sk (Ik (sr (Mz rfl (Mz rfl (Gz (vP d 1) rfl (Gl (.string ⟨v6 a.aZ⟩) rfl b 0 C0 ?_)))))))
 obtain⟨aA,ah⟩:∃ q,iO a.aZ=q:=⟨_,rfl⟩
 obtain⟨dM,aZ,dz,bf,dB⟩:=Iu b
 refine pW rfl U5 (mg _ _ a.aZ aA aZ ah) ?_
 rintro _ dN ⟨rfl,bg,aP⟩
 have aD:=bf _ _ bg
 replace aP: ¬ (aA=0)\/(1<=a.aZ.length/\a.aZ.length<=12):=aP
 refine gw (.bool (decide (¬ (aA=0)))) rfl (IM (e:= !(decide (aA=0))) yk decide_not.symm) (fw (.bool (decide (¬ (aA=0)))) (Iw rfl rfl rfl) (nt ?_))
 by_cases aF:aA=0
 refine jF (dF (Lr aF)) (sk (Ik (sr (Kz (vP d 2) (Lz (.string ⟨v6 a.aG⟩) aD 0 C0 (Kz (vJ a.aG.length) (Kz (.bool (decide ((a.aG.length:Int) > 16))) (nt ?_))))))))
 by_cases aM:(a.aG.length:Int) > 16
 refine jT (dT aM) (sr (An rfl (rt (tR (rs ?_)))))
 have bZ:=aD.pk []
 obtain rfl:=zj hr zq8
 exact⟨rfl,bZ,e6⟩
 refine jF (dF aM) (sk (Ik (sr (Mz rfl (Mz rfl (Sz s (Sz s (Sz s (Sz s (Sz s (Sz s (Sz s (fw (.bool false) (Io rfl s rfl) (nt (jf (sk (Ik (sr (Kz (vP d 0) (Lz (vI a.av) aD 0 C2 (Kz (.bool (decide (a.av=4))) (Mz rfl (Sz A (Sz A (Sz A (Sz A (IG rfl rfl rfl (IG rfl rfl rfl (IG rfl rfl rfl (Sz A (fw (.bool false) (Io rfl A rfl) (nt (jf ?_)))))))))))))))))))))))))))))))))
 refine sk (sr (An rfl (rt (rs ?_))))
 have cu:=aD.pk []
 obtain rfl:=zj hr zq8
 exact⟨rfl,cu,e6⟩
 refine jT (dT aF) (sr (An rfl (rt (tR (rs ?_)))))
 have cz:=aD.pk []
 obtain rfl:=zj hr zq7
 exact⟨rfl,cz,e6⟩
 refine jT (dT az) (sr (An rfl (rt (tR (rs ?_)))))
 have cB:=b.pk []
 obtain rfl:=zj hr zq5
 exact⟨rfl,cB,e6⟩
 refine Gz (vP d 0) (dF i) (Gl (vI a.av) (dF i) b 0 C2 (Gz (.bool (decide (a.av=3))) (dF i) (fw (.bool (decide (a.av=3))) (Io rfl (dF i) rfl) (Ar rfl (Kz (vP d 0) (Lz (vI a.av) b 0 C2 (Kz (.bool (decide (a.av=4))) (Mz rfl ?_))))))))
 by_cases f:a.av=4
 refine Sz (dT f) (Sz (dT f) (Sz (dT f) (fw (.bool true) (Iw rfl (dT f) rfl) (An rfl (Ik (sr (Mz rfl (fw (.bool (decide (¬ (a.av=3)))) (IM (e:= !(decide (a.av=3))) yk decide_not.symm) (Mz rfl ?_)))))))))
 have aG:(decide (¬ (a.av=3)))=true:=(dT e6)
 refine I7 (v:= .bool true) rfl rfl aG rfl (IA rfl) (Gz (.bool false) aG (fw (.bool false) (Iw rfl aG rfl) (Mz rfl (gw (.bool (decide (a.av=3))) rfl (IA rfl) (gw (.bool (decide (a.av=3))) rfl (IA rfl) ?_)))))
 have x:(decide (a.av=3))=false:=(dF e6)
 refine Sz x (Sz x (Sz x (Sz x (IG rfl rfl rfl (IG rfl rfl rfl (IG rfl rfl rfl (Sz x (gw (.bool false) rfl (Io rfl x rfl) (fw (.bool false) (Io rfl rfl rfl) (Mz rfl (gw (.bool true) rfl (IA rfl) (gw (.bool true) rfl (IA rfl) (Gz (vP d 1) rfl (Gl (.string ⟨v6 a.aZ⟩) rfl b 0 C0 (gw (.bool (decide (a.aZ≠[]))) rfl (I6 rfl rfl) (gw (.bool (decide (a.aZ≠[]))) rfl (Iw rfl rfl rfl) (fw (.bool (decide (a.aZ≠[]))) (Io rfl rfl rfl) (Mz rfl ?_))))))))))))))))))
 by_cases p:a.aZ≠[]
 refine Sz (dT p) (Sz (dT p) (Sz (dT p) (Sz (dT p) (IG rfl rfl rfl (IG rfl rfl rfl (IG rfl rfl rfl (Sz (dT p) (fw (.bool true) (Iw rfl (dT p) rfl) (Mz rfl (Sz rfl (Sz rfl (Sz rfl (Sz rfl (IG rfl rfl rfl (IG rfl rfl rfl (IG rfl rfl rfl (Sz rfl (fw (.bool true) (Iw rfl rfl rfl) (nt (jt (sr (An rfl (rt (tR (rs ?_)))))))))))))))))))))))))
 have cK:=b.pk []
 obtain rfl:=zj hr zq4
 exact⟨rfl,cK,e6⟩
 refine Gz (vP d 0) (dF p) (Gl (vI a.av) (dF p) b 0 C2 (gw (.bool (decide (¬ (a.av=2)))) (dF p) (IM (e:= !(decide (a.av=2))) yk decide_not.symm) (gw (.bool (decide (¬ (a.av=2)))) (dF p) (IA rfl) ?_)))
 have ai:(decide (¬ (a.av=2)))=true:=(dT e6)
 refine Gz (vP d 2) ai (Gl (.string ⟨v6 a.aG⟩) ai b 0 C0 (I7 (v:= .bool (decide (a.aG≠[]))) rfl rfl ai rfl (I6 rfl rfl) (gw (.bool (decide (a.aG≠[]))) (dF p) (Iw rfl ai rfl) (fw (.bool (decide (a.aG≠[]))) (Io rfl (dF p) rfl) (Mz rfl ?_)))))
 by_cases t:a.aG≠[]
 refine Sz (dT t) (Sz (dT t) (Sz (dT t) (Sz (dT t) (IG rfl rfl rfl (IG rfl rfl rfl (IG rfl rfl rfl (Sz (dT t) (fw (.bool true) (Iw rfl (dT t) rfl) (nt (jt (sr (An rfl (rt (tR (rs ?_)))))))))))))))
 have cO:=b.pk []
 obtain rfl:=zj hr zq5
 exact⟨rfl,cO,e6⟩
 refine Gz (vP d 0) (dF t) (Gl (vI a.av) (dF t) b 0 C2 (gw (.bool (decide (¬ (a.av=4)))) (dF t) (IM (e:= !(decide (a.av=4))) yk decide_not.symm) (gw (.bool (decide (¬ (a.av=4)))) (dF t) (IA rfl) ?_)))
 have aj:(decide (¬ (a.av=4)))=false:=(dF e6)
 refine Sz aj (Sz aj (Sz aj (gw (.bool false) (dF t) (Io rfl aj rfl) (fw (.bool false) (Io rfl (dF t) rfl) (nt (jf (sk (Ik (sr (Mz rfl (Mz rfl (Sz x (Sz x (Sz x (Sz x (fw (.bool false) (Io rfl x rfl) (nt (jf (sk (Ik (sr (Kz (vP d 2) (Lz (.string ⟨v6 a.aG⟩) b 0 C0 (Kz (vJ a.aG.length) (Kz (.bool (decide ((a.aG.length:Int) > 16))) (nt ?_))))))))))))))))))))))))))
 by_cases W:(a.aG.length:Int) > 16
 refine jT (dT W) (sr (An rfl (rt (tR (rs ?_)))))
 have cZ:=b.pk []
 obtain rfl:=zj hr zq6
 exact⟨rfl,cZ,e6⟩
 refine jF (dF W) (sk (Ik (sr (Mz rfl (Mz rfl (Gz (vP d 3) rfl (Gl (.string ⟨v6 a.aJ⟩) rfl b 0 C0 (Gz (vP d 4) rfl (Gl (.string ⟨v6 a.aR⟩) rfl b 0 C0 (Gz (.agg #[.string ⟨v6 a.aJ⟩, .string ⟨v6 a.aR⟩]) rfl ?_))))))))))
 obtain⟨aH,R⟩:∃ q,gF (aL.mk a.aJ a.aR)=q:=⟨_,rfl⟩
 obtain⟨dO,bi,dC,bn,dD⟩:=Iu b
 refine pW rfl U4 (lZ _ _ (aL.mk a.aJ a.aR) aH bi R) ?_
 rintro _ dP ⟨rfl,bq⟩
 have G:=bn _ _ bq
 refine gw (.bool (decide (¬ (aH=0)))) rfl (IM (e:= !(decide (aH=0))) yk decide_not.symm) (fw (.bool (decide (¬ (aH=0)))) (Iw rfl rfl rfl) (nt ?_))
 by_cases I:aH=0
 refine jF (dF (Lr I)) (sk (Ik (sr (Kz (vP d 0) (Lz (vI a.av) G 0 C2 (Kz (.bool (decide (a.av=4))) (Mz rfl (Gz (vP d 5) (dT f) (Gl (vI a.aV) (dT f) G 0 C2 (Gz (.bool (decide (a.aV < 1))) (dT f) (gw (.bool (decide (a.aV < 1))) (dT f) (IA rfl) ?_)))))))))))
 by_cases y:a.aV < 1
 refine Sz (dT y) (Sz (dT y) (Sz (dT y) (gw (.bool true) (dT f) (Iw rfl (dT y) rfl) (fw (.bool true) (Iw rfl (dT f) rfl) (nt (jt (sr (An rfl (rt (tR (rs ?_)))))))))))
 have bu:=G.pk []
 obtain rfl:=zj hr zq9
 exact⟨rfl,bu,e6⟩
 refine Gz (vP d 5) (dF y) (Gl (vI a.aV) (dF y) G 0 C2 (Gz (.bool (decide (a.aV > 4))) (dF y) (gw (.bool (decide (a.aV > 4))) (dT f) (Io rfl (dF y) rfl) (fw (.bool (decide (a.aV > 4))) (Iw rfl (dT f) rfl) (nt ?_)))))
 by_cases ak:a.aV > 4
 refine jT (dT ak) (sr (An rfl (rt (tR (rs ?_)))))
 have bv:=G.pk []
 obtain rfl:=zj hr zq10
 exact⟨rfl,bv,e6⟩
 refine jF (dF ak) (sk (sr (An rfl (rt (rs ?_)))))
 have bz:=G.pk []
 obtain rfl:=zj hr zq10
 exact⟨rfl,bz,e6⟩
 refine jT (dT I) (sr (An rfl (rt (tR (rs ?_)))))
 have bA:=G.pk []
 obtain rfl:=zj hr zq8
 exact⟨rfl,bA,e6⟩
 refine Gz (vP d 0) (dF f) (Gl (vI a.av) (dF f) b 0 C2 (Gz (.bool (decide (a.av=5))) (dF f) (fw (.bool (decide (a.av=5))) (Io rfl (dF f) rfl) (An rfl (Ik (sr (Mz rfl (fw (.bool (decide (¬ (a.av=3)))) (IM (e:= !(decide (a.av=3))) yk decide_not.symm) (Mz rfl ?_)))))))))
 by_cases c:a.av=3
 refine Sk rfl rfl (dF (Lr c)) rfl (Sk rfl rfl (dF (Lr c)) rfl (fw (.bool false) (Io rfl (dF (Lr c)) rfl) (Mz rfl (gw (.bool (decide (a.av=3))) rfl (IA rfl) (gw (.bool (decide (a.av=3))) rfl (IA rfl) (Gz (vP d 3) (dT c) (Gl (.string ⟨v6 a.aJ⟩) (dT c) b 0 C0 (gw (.bool (decide (a.aJ≠[]))) (dT c) (I6 rfl rfl) (gw (.bool (decide (a.aJ≠[]))) (dT c) (IA rfl) ?_)))))))))
 by_cases n:a.aJ≠[]
 refine Sz (dT n) (Sz (dT n) (Sz (dT n) (gw (.bool true) (dT c) (Iw rfl (dT n) rfl) (gw (.bool true) rfl (Iw rfl (dT c) rfl) (fw (.bool true) (Io rfl rfl rfl) (Mz rfl (Sz rfl (Sz rfl (IG rfl rfl rfl (IG rfl rfl rfl (IG rfl rfl rfl (Sz rfl (fw (.bool true) (Iw rfl rfl rfl) (Mz rfl (Sz rfl (Sz rfl (Sz rfl (Sz rfl (IG rfl rfl rfl (IG rfl rfl rfl (IG rfl rfl rfl (Sz rfl (fw (.bool true) (Iw rfl rfl rfl) (Mz rfl (Sz rfl (Sz rfl (Sz rfl (Sz rfl (IG rfl rfl rfl (IG rfl rfl rfl (IG rfl rfl rfl (Sz rfl (fw (.bool true) (Iw rfl rfl rfl) (nt (jt (sr (Az rfl ?_)))))))))))))))))))))))))))))))))))))
 refine nt (rt (tR (rs ?_)))
 have bB:=b.pk []
 obtain rfl:=zj hr zq5
 exact⟨rfl,bB,e6⟩
 refine Gz (vP d 4) (dF n) (Gl (.string ⟨v6 a.aR⟩) (dF n) b 0 C0 (gw (.bool (decide (a.aR≠[]))) (dF n) (I6 rfl rfl) (gw (.bool (decide (a.aR≠[]))) (dT c) (Io rfl (dF n) rfl) (gw (.bool (decide (a.aR≠[]))) rfl (Iw rfl (dT c) rfl) (fw (.bool (decide (a.aR≠[]))) (Io rfl rfl rfl) (Mz rfl ?_))))))
 by_cases o:a.aR≠[]
 refine Sz (dT o) (Sz (dT o) (IG rfl rfl rfl (IG rfl rfl rfl (IG rfl rfl rfl (Sz (dT o) (fw (.bool true) (Iw rfl (dT o) rfl) (Mz rfl (Sz rfl (Sz rfl (Sz rfl (Sz rfl (IG rfl rfl rfl (IG rfl rfl rfl (IG rfl rfl rfl (Sz rfl (fw (.bool true) (Iw rfl rfl rfl) (Mz rfl (Sz rfl (Sz rfl (Sz rfl (Sz rfl (IG rfl rfl rfl (IG rfl rfl rfl (IG rfl rfl rfl (Sz rfl (fw (.bool true) (Iw rfl rfl rfl) (nt (jt (sr (An rfl (rt (tR (rs ?_)))))))))))))))))))))))))))))))))
 have bC:=b.pk []
 obtain rfl:=zj hr zq6
 exact⟨rfl,bC,e6⟩
 refine gw (.bool (decide (a.av=5))) (dF o) (IA rfl) (gw (.bool (decide (a.av=5))) (dF o) (IA rfl) ?_)
 have m:(decide (a.av=5))=false:=(dF e6)
 refine Sz m (Sz m (Sz m (gw (.bool false) (dF o) (Io rfl m rfl) (fw (.bool false) (Io rfl (dF o) rfl) (Mz rfl (Gz (vP d 0) rfl (Gl (vI a.av) rfl b 0 C2 (gw (.bool (decide (¬ (a.av=2)))) rfl (IM (e:= !(decide (a.av=2))) yk decide_not.symm) (gw (.bool (decide (¬ (a.av=2)))) rfl (IA rfl) ?_)))))))))
 have M:(decide (¬ (a.av=2)))=true:=(dT e6)
 refine Gz (vP d 2) M (Gl (.string ⟨v6 a.aG⟩) M b 0 C0 (I7 (v:= .bool (decide (a.aG≠[]))) rfl rfl M rfl (I6 rfl rfl) (gw (.bool (decide (a.aG≠[]))) rfl (Iw rfl M rfl) (fw (.bool (decide (a.aG≠[]))) (Io rfl rfl rfl) (Mz rfl ?_)))))
 by_cases k:a.aG≠[]
 refine Sz (dT k) (Sz (dT k) (Sz (dT k) (Sz (dT k) (IG rfl rfl rfl (IG rfl rfl rfl (IG rfl rfl rfl (Sz (dT k) (fw (.bool true) (Iw rfl (dT k) rfl) (nt (jt (sr (An rfl (rt (tR (rs ?_)))))))))))))))
 have bD:=b.pk []
 obtain rfl:=zj hr zq7
 exact⟨rfl,bD,e6⟩
 refine Gz (vP d 0) (dF k) (Gl (vI a.av) (dF k) b 0 C2 (gw (.bool (decide (¬ (a.av=4)))) (dF k) (IM (e:= !(decide (a.av=4))) yk decide_not.symm) (gw (.bool (decide (¬ (a.av=4)))) (dF k) (IA rfl) ?_)))
 have N:(decide (¬ (a.av=4)))=true:=(dT e6)
 refine Gz (vP d 5) N (Gl (vI a.aV) N b 0 C2 (I7 (v:= .bool (decide (¬ (a.aV=0)))) rfl rfl N rfl (IM (e:= !(decide (a.aV=0))) yk decide_not.symm) (gw (.bool (decide (¬ (a.aV=0)))) (dF k) (Iw rfl N rfl) (fw (.bool (decide (¬ (a.aV=0)))) (Io rfl (dF k) rfl) (nt ?_)))))
 by_cases J:a.aV=0
 refine jF (dF (Lr J)) (sk (Ik (sr (Mz rfl (Mz rfl (Gz (vP d 1) (dT c) (Gl (.string ⟨v6 a.aZ⟩) (dT c) b 0 C0 ?_)))))))
 obtain⟨K,O⟩:∃ q,iO a.aZ=q:=⟨_,rfl⟩
 obtain⟨dE,aQ,df,aR,dh⟩:=Iu b
 refine pW (dT c) U5 (mg _ _ a.aZ K aQ O) ?_
 rintro _ dG ⟨rfl,aS,aI⟩
 have S:=aR _ _ aS
 replace aI: ¬ (K=0)\/(1<=a.aZ.length/\a.aZ.length<=12):=aI
 refine gw (.bool (decide (¬ (K=0)))) (dT c) (IM (e:= !(decide (K=0))) yk decide_not.symm) (fw (.bool (decide (¬ (K=0)))) (Iw rfl (dT c) rfl) (nt ?_))
 by_cases T:K=0
 refine jF (dF (Lr T)) (sk (Ik (sr (Kz (vP d 2) (Lz (.string ⟨v6 a.aG⟩) S 0 C0 (Kz (vJ a.aG.length) (Kz (.bool (decide ((a.aG.length:Int) > 16))) (nt ?_))))))))
 by_cases au:(a.aG.length:Int) > 16
 refine jT (dT au) (sr (An rfl (rt (tR (rs ?_)))))
 have bE:=S.pk []
 obtain rfl:=zj hr zq11
 exact⟨rfl,bE,e6⟩
 refine jF (dF au) (sk (Ik (sr (Mz rfl (Mz rfl (Sz m (Sz m (Sz m (Sz m (Sz m (Sz m (Sz m (fw (.bool false) (Io rfl m rfl) (nt (jf (sk (Ik (sr (Kz (vP d 0) (Lz (vI a.av) S 0 C2 (Kz (.bool (decide (a.av=4))) (Mz rfl (Sz (dF f) (Sz (dF f) (Sz (dF f) (Sz (dF f) (IG rfl rfl rfl (IG rfl rfl rfl (IG rfl rfl rfl (Sz (dF f) (fw (.bool false) (Io rfl (dF f) rfl) (nt (jf ?_)))))))))))))))))))))))))))))))))
 refine sk (sr (An rfl (rt (rs ?_))))
 have bF:=S.pk []
 obtain rfl:=zj hr zq11
 exact⟨rfl,bF,e6⟩
 refine jT (dT T) (sr (An rfl (rt (tR (rs ?_)))))
 have bG:=S.pk []
 obtain rfl:=zj hr zq10
 exact⟨rfl,bG,e6⟩
 refine jT (dT J) (sr (An rfl (rt (tR (rs ?_)))))
 have bH:=b.pk []
 obtain rfl:=zj hr zq8
 exact⟨rfl,bH,e6⟩
 refine gw (.bool (decide (a.av=5))) (dT c) (IA rfl) (gw (.bool (decide (¬ (a.av=5)))) (dT c) (IM (e:= !(decide (a.av=5))) yk decide_not.symm) (fw (.bool (decide (¬ (a.av=5)))) (Iw rfl (dT c) rfl) (Mz rfl ?_)))
 by_cases h:a.av=5
 refine gw (.bool (decide (a.av=3))) (dF (Lr h)) (IA rfl) (gw (.bool (decide (a.av=3))) (dF (Lr h)) (IA rfl) (Sz (dF c) (Sz (dF c) (Sz (dF c) (Sz (dF c) (IG rfl rfl rfl (IG rfl rfl rfl (IG rfl rfl rfl (Sz (dF c) (gw (.bool false) (dF (Lr h)) (Io rfl (dF c) rfl) (fw (.bool false) (Io rfl (dF (Lr h)) rfl) (Mz rfl (gw (.bool (decide (a.av=5))) rfl (IA rfl) (gw (.bool (decide (a.av=5))) rfl (IA rfl) (Gz (vP d 1) (dT h) (Gl (.string ⟨v6 a.aZ⟩) (dT h) b 0 C0 (gw (.bool (decide (a.aZ≠[]))) (dT h) (I6 rfl rfl) (gw (.bool (decide (a.aZ≠[]))) rfl (Iw rfl (dT h) rfl) (fw (.bool (decide (a.aZ≠[]))) (Io rfl rfl rfl) (Mz rfl ?_))))))))))))))))))))
 by_cases j:a.aZ≠[]
 refine Sz (dT j) (Sz (dT j) (Sz (dT j) (Sz (dT j) (IG rfl rfl rfl (IG rfl rfl rfl (IG rfl rfl rfl (Sz (dT j) (fw (.bool true) (Iw rfl (dT j) rfl) (Mz rfl (Sz rfl (Sz rfl (Sz rfl (Sz rfl (IG rfl rfl rfl (IG rfl rfl rfl (IG rfl rfl rfl (Sz rfl (fw (.bool true) (Iw rfl rfl rfl) (nt (jt (sr (An rfl (rt (tR (rs ?_)))))))))))))))))))))))))
 have bI:=b.pk []
 obtain rfl:=zj hr zq6
 exact⟨rfl,bI,e6⟩
 refine Gz (vP d 0) (dF j) (Gl (vI a.av) (dF j) b 0 C2 (gw (.bool (decide (¬ (a.av=2)))) (dF j) (IM (e:= !(decide (a.av=2))) yk decide_not.symm) (gw (.bool (decide (¬ (a.av=2)))) (dF j) (IA rfl) ?_)))
 have P:(decide (¬ (a.av=2)))=true:=(dT e6)
 refine Gz (vP d 2) P (Gl (.string ⟨v6 a.aG⟩) P b 0 C0 (I7 (v:= .bool (decide (a.aG≠[]))) rfl rfl P rfl (I6 rfl rfl) (gw (.bool (decide (a.aG≠[]))) (dF j) (Iw rfl P rfl) (fw (.bool (decide (a.aG≠[]))) (Io rfl (dF j) rfl) (Mz rfl ?_)))))
 by_cases l:a.aG≠[]
 refine Sz (dT l) (Sz (dT l) (Sz (dT l) (Sz (dT l) (IG rfl rfl rfl (IG rfl rfl rfl (IG rfl rfl rfl (Sz (dT l) (fw (.bool true) (Iw rfl (dT l) rfl) (nt (jt (sr (An rfl (rt (tR (rs ?_)))))))))))))))
 have bJ:=b.pk []
 obtain rfl:=zj hr zq7
 exact⟨rfl,bJ,e6⟩
 refine Gz (vP d 0) (dF l) (Gl (vI a.av) (dF l) b 0 C2 (gw (.bool (decide (¬ (a.av=4)))) (dF l) (IM (e:= !(decide (a.av=4))) yk decide_not.symm) (gw (.bool (decide (¬ (a.av=4)))) (dF l) (IA rfl) ?_)))
 have Q:(decide (¬ (a.av=4)))=true:=(dT e6)
 refine Gz (vP d 5) Q (Gl (vI a.aV) Q b 0 C2 (I7 (v:= .bool (decide (¬ (a.aV=0)))) rfl rfl Q rfl (IM (e:= !(decide (a.aV=0))) yk decide_not.symm) (gw (.bool (decide (¬ (a.aV=0)))) (dF l) (Iw rfl Q rfl) (fw (.bool (decide (¬ (a.aV=0)))) (Io rfl (dF l) rfl) (nt ?_)))))
 by_cases L:a.aV=0
 refine jF (dF (Lr L)) (sk (Ik (sr (Mz rfl (Mz rfl (Sz (dF c) (Sz (dF c) (Sz (dF c) (Sz (dF c) (fw (.bool false) (Io rfl (dF c) rfl) (nt (jf (sk (Ik (sr (Kz (vP d 2) (Lz (.string ⟨v6 a.aG⟩) b 0 C0 (Kz (vJ a.aG.length) (Kz (.bool (decide ((a.aG.length:Int) > 16))) (nt ?_))))))))))))))))))))
 by_cases U:(a.aG.length:Int) > 16
 refine jT (dT U) (sr (An rfl (rt (tR (rs ?_)))))
 have bK:=b.pk []
 obtain rfl:=zj hr zq9
 exact⟨rfl,bK,e6⟩
 refine jF (dF U) (sk (Ik (sr (Mz rfl (Mz rfl (Gz (vP d 3) (dT h) (Gl (.string ⟨v6 a.aJ⟩) (dT h) b 0 C0 (Gz (vP d 4) (dT h) (Gl (.string ⟨v6 a.aR⟩) (dT h) b 0 C0 (Gz (.agg #[.string ⟨v6 a.aJ⟩, .string ⟨v6 a.aR⟩]) (dT h) ?_))))))))))
 obtain⟨V,X⟩:∃ q,gF (aL.mk a.aJ a.aR)=q:=⟨_,rfl⟩
 obtain⟨dH,aT,di,aU,dm⟩:=Iu b
 refine pW (dT h) U4 (lZ _ _ (aL.mk a.aJ a.aR) V aT X) ?_
 rintro _ dI ⟨rfl,aV⟩
 have aJ:=aU _ _ aV
 refine gw (.bool (decide (¬ (V=0)))) (dT h) (IM (e:= !(decide (V=0))) yk decide_not.symm) (fw (.bool (decide (¬ (V=0)))) (Iw rfl (dT h) rfl) (nt ?_))
 by_cases av:V=0
 refine jF (dF (Lr av)) (sk (Ik (sr (Kz (vP d 0) (Lz (vI a.av) aJ 0 C2 (Kz (.bool (decide (a.av=4))) (Mz rfl (Sz (dF f) (Sz (dF f) (Sz (dF f) (Sz (dF f) (IG rfl rfl rfl (IG rfl rfl rfl (IG rfl rfl rfl (Sz (dF f) (fw (.bool false) (Io rfl (dF f) rfl) (nt (jf (sk (sr (An rfl (rt (rs ?_)))))))))))))))))))))))
 have bL:=aJ.pk []
 obtain rfl:=zj hr zq11
 exact⟨rfl,bL,e6⟩
 refine jT (dT av) (sr (An rfl (rt (tR (rs ?_)))))
 have bM:=aJ.pk []
 obtain rfl:=zj hr zq11
 exact⟨rfl,bM,e6⟩
 refine jT (dT L) (sr (An rfl (rt (tR (rs ?_)))))
 have bN:=b.pk []
 obtain rfl:=zj hr zq8
 exact⟨rfl,bN,e6⟩
 refine Sz (dT h) (Sz (dT h) (IG rfl rfl rfl (IG rfl rfl rfl (IG rfl rfl rfl (IG rfl rfl rfl (IG rfl rfl rfl (IG rfl rfl rfl (IG rfl rfl rfl (IG rfl rfl rfl (Sz (dT h) (fw (.bool true) (Iw rfl (dT h) rfl) (Mz rfl (Sz rfl (Sz rfl (IG rfl rfl rfl (IG rfl rfl rfl (IG rfl rfl rfl (Sz rfl (fw (.bool true) (Iw rfl rfl rfl) (Mz rfl (Sz rfl (Sz rfl (Sz rfl (Sz rfl (IG rfl rfl rfl (IG rfl rfl rfl (IG rfl rfl rfl (Sz rfl (fw (.bool true) (Iw rfl rfl rfl) (Mz rfl (Sz rfl (Sz rfl (Sz rfl (Sz rfl (IG rfl rfl rfl (IG rfl rfl rfl (IG rfl rfl rfl (Sz rfl (fw (.bool true) (Iw rfl rfl rfl) ?_)))))))))))))))))))))))))))))))))))))))
 refine nt (jt (sr (An rfl (rt (tR (rs ?_))))))
 have bO:=b.pk []
 obtain rfl:=zj hr zq5
 exact⟨rfl,bO,e6⟩
def mJ:List aN->Unit ⊕ Int
  | []=>B7 ()
  | b::c=>bnd (kQ b) λ a=>if a=0 then mJ c else B9 (a)
def uM (l0:List aN):Int:=
 lp (mJ l0) λ _=>0
theorem CB (w D o A B l0 L) (H:Own w D w []) (n:Ro w D λ w'=>aY w' 6 o A (q4 aN.cells l0)) (C:A=l0.length) (P:l0.length<=9223372036854775807) (hr:uM l0=L):
    Calls v5 68 #[.slice o A B] w (dA λ v w'=>v=vI L/\Own w D w' []):=by
 subst C
 refine cb Tryz.func68 ?_
 refine sr (An rfl (Ik (sr (Mz rfl (Kz (vJ l0.length) (Mn rfl (bo ?_)))))))
 have E:=H.pk []
 obtain⟨F,d⟩:=lF λ (a:Nat) w'=>Own w D w' []/\a<=l0.length/\mJ l0=mJ (r4 a l0)
 refine C1 (λ i:Nat=> [(2,vI 0),(8,vJ i),(7,vJ l0.length),(6, .slice o l0.length B)]) F (λ i=>l0.length - i) 0 ⟨rfl,rfl,rfl,rfl,trivial⟩ (d.2 ⟨E,e6,rfl⟩) ?_
 rintro a Q p
 obtain⟨f,M,g⟩:=d.1 p
 refine sr (Kz (.bool (decide ((a:Int) < (l0.length:Int)))) (nt (Ik ?_)))
 by_cases r:(a:Int) < (l0.length:Int)
 obtain⟨b,k⟩:=dh (ls:=l0) (i:=a) aN.len f2 (f.ro n) e9
 have l:=drop_at k
 refine jT (dT r) (sk (Ik (bo (sr (fw (.pointer (some ⟨ab o,ao o+a *6,none⟩)) (Iz (mG) rfl rfl ((f.ro n).addr (i:=a) e6) e6) (fw (.agg (aN.cells b).toArray) (IB rfl (IJ (cs:=(aN.cells b)) M8 M7 ((f.ro n).elem aN.len k f2))) ?_))))))
 refine dn [vI 0, .string ⟨v6 []⟩, .string ⟨v6 []⟩, .string ⟨v6 []⟩, .string ⟨v6 []⟩,vI 0] 72 f ?_
 intro R S G
 refine df (aN.cells b) 0 G M7 ?_
 intro T s
 refine ns (La (aN.cells b) s 0 M8 M7 ?_)
 obtain⟨c,h⟩:∃ q,kQ b=q:=⟨_,rfl⟩
 obtain⟨U,t,N,u,O⟩:=Iu s
 refine cl Tryz.call34 (uL _ _ b c t h) ?_
 rintro _ V ⟨rfl,x,m⟩
 have y:=u _ _ x
 replace m: ¬ (c=0)\/(1<=b.av/\b.av<=5):=m
 refine Ar rfl (Mz rfl (fw (.bool (decide (¬ (c=0)))) (IM (e:= !(decide (c=0))) yk decide_not.symm) (nt ?_)))
 by_cases j:c=0
 refine jF (dF (Lr j)) (IU (bN (Iq (Il (fw (vJ (a+1)) (Ir (e:=C3.wrap ((a:Int)+1)) yk f0) (Mz rfl (C4 ?_)))))))
 have I:=y.pk []
 exact II (a+1) ⟨rfl,rfl,rfl,rfl,trivial⟩ (d.2 ⟨I,e6,et (g) (et (congrArg (λ q=>mJ q) l) (et (ae h) (ip j)))⟩) (by show l0.length - (a+1) < l0.length - a; omega)
 refine jT (dT j) (sr (Mz rfl (An rfl (rt (bR (tR (tR (bR (tR (rs ?_))))))))))
 have J:=y.pk []
 obtain rfl:_=c:=zj hr (gL (et (g) (et (congrArg (λ q=>mJ q) l) (et (ae h) (iN j)))))
 exact⟨rfl,J⟩
 refine jF (dF r) (C5 (IC ?_))
 have z:mJ l0=B7 ():=et (g) (et (congrArg (λ q=>mJ q) (dZ (ls:=l0) (i:=a) e6)) rfl)
 refine IC (IK (Iq (sr (An rfl (rt (rs ?_))))))
 have K:=f.pk []
 obtain rfl:_=0:=zj hr (mF z)
 exact⟨rfl,K⟩
def rU (l0:List aN):Int:=
 if(l0.length:Int) < 1 then 3 else if(l0.length:Int) > 4 then 3 else bnd (uM l0) λ a=>a
theorem A9 (w D i j k l0 l) (H:Own w D w []) (m:Ro w D λ w'=>aY w' 6 i j (q4 aN.cells l0)) (n:j=l0.length) (u:l0.length<=9223372036854775807) (hr:rU l0=l):
    Calls v5 32 #[.slice i j k] w (dA λ v w'=>v=vI l/\Own w D w' []/\(¬ (l=0)\/l0.length<=24)):=by
 unfold rU at hr
 subst n
 refine cb Tryz.func32 ?_
 refine sr (An rfl (Ik (sr (Mz rfl (Kz (vJ l0.length) (Kz (.bool (decide ((l0.length:Int) < 1))) (Mz rfl ?_)))))))
 by_cases a:(l0.length:Int) < 1
 refine Sz (dT a) (Sz (dT a) (Sz (dT a) (fw (.bool true) (Iw rfl (dT a) rfl) (nt (jt (sr (An rfl (rt (tR (rs ?_))))))))))
 have o:=H.pk []
 obtain rfl:=zj hr zq1
 exact⟨rfl,o,e6⟩
 refine gw (.slice i l0.length k) (dF a) (IA rfl) (Gz (vJ l0.length) (dF a) (Gz (.bool (decide ((l0.length:Int) > 4))) (dF a) (fw (.bool (decide ((l0.length:Int) > 4))) (Io rfl (dF a) rfl) (nt ?_))))
 by_cases b:(l0.length:Int) > 4
 refine jT (dT b) (sr (An rfl (rt (tR (rs ?_)))))
 have p:=H.pk []
 obtain rfl:=zj hr zq2
 exact⟨rfl,p,e6⟩
 refine jF (dF b) (sk (sr (Mz rfl ?_)))
 obtain⟨d,c⟩:∃ q,uM l0=q:=⟨_,rfl⟩
 obtain⟨x,e,f,g,t⟩:=Iu H
 refine cl Tryz.call68 (CB _ _ i l0.length k l0 d e (f _ m) rfl e6 c) ?_
 rintro _ y ⟨rfl,h⟩
 have r:=g _ _ h
 refine An rfl (rt (rs ?_))
 have s:=r.pk []
 obtain rfl:=zj hr zq3
 exact⟨rfl,s,e6⟩
def kD (c:aN):aL × Int:=
 bnd (kQ c) λ a=>if a=0 then if c.aZ≠[] then bnd (rT c.aZ) λ b=>(b.1,b.2) else(aL.mk c.aJ c.aR,0) else(aL.mk [] [],a)
theorem wU (w D) (a:aN) (J:aL) (K) (H:Own w D w []) (hr:kD a=(J,K)):
    Calls v5 17 #[.agg (aN.cells a).toArray] w (dA λ v w'=>v= .tuple #[.agg (aL.cells J).toArray,vI K]/\Own w D w' []):=by
 unfold kD at hr
 refine cb Tryz.func17 ?_
 refine sr ?_
 refine dn (aN.cells a) 72 H ?_
 intro h P C
 refine dn [.string ⟨v6 []⟩, .string ⟨v6 []⟩] 38 C ?_
 intro Q R p
 refine An rfl (Ik (sr (La (aN.cells a) p 1 M8 M7 ?_)))
 obtain⟨b,d⟩:∃ q,kQ a=q:=⟨_,rfl⟩
 obtain⟨S,r,L,s,M⟩:=Iu p
 refine cl Tryz.call34 (uL _ _ a b r d) ?_
 rintro _ T ⟨rfl,t,n⟩
 have c:=s _ _ t
 replace n: ¬ (b=0)\/(1<=a.av/\a.av<=5):=n
 refine Ar rfl (Mz rfl (fw (.bool (decide (¬ (b=0)))) (IM (e:= !(decide (b=0))) yk decide_not.symm) (nt ?_)))
 by_cases g:b=0
 refine jF (dF (Lr g)) (sk (Ik (sr (Kz (vP h 1) (Lz (.string ⟨v6 a.aZ⟩) c 1 C0 (fw (.bool (decide (a.aZ≠[]))) (I6 rfl rfl) (nt ?_)))))))
 by_cases j:a.aZ≠[]
 refine jT (dT j) (sr (Kz (vP h 1) (Lz (.string ⟨v6 a.aZ⟩) c 1 C0 ?_)))
 obtain⟨⟨f,l⟩,o⟩:∃ q:aL × Int,rT a.aZ=q:=⟨_,rfl⟩
 obtain⟨U,u,N,x,O⟩:=Iu c
 refine cl Tryz.call35 (AZ _ _ a.aZ f l u o) ?_
 rintro _ V ⟨rfl,y⟩
 have E:=x _ _ y
 refine Kz (.agg (aL.cells f).toArray) (Kz (vI l) ?_)
 refine df (aL.cells f) 0 E M9 ?_
 intro W z
 refine An rfl (rt (tR (Fin.res (jb (vs:= [.agg (aL.cells f).toArray,vI l]) rfl (cK.cell rfl (IJ (cs:=(aL.cells f)) N0 M9 ((z.cls (i:=0) rfl).lit (k:=0) (m:=2) rfl)) (cK.tmp rfl cK.nil)) (Lj rfl)) ?_)))
 have F:=z.pk []
 obtain⟨rfl,rfl⟩:=fD (zj hr zq4)
 exact⟨rfl,F⟩
 refine jF (dF j) (sk (sr (Kz (vP h 3) (Lz (.string ⟨v6 a.aJ⟩) c 1 C0 (Kz (vP h 4) (Lz (.string ⟨v6 a.aR⟩) c 1 C0 (Kz (.agg #[.string ⟨v6 a.aJ⟩, .string ⟨v6 a.aR⟩]) ?_)))))))
 refine df [.string ⟨v6 a.aJ⟩, .string ⟨v6 a.aR⟩] 0 c M9 ?_
 intro X A
 refine An rfl (rt (Fin.res (jb (vs:= [.agg #[.string ⟨v6 a.aJ⟩, .string ⟨v6 a.aR⟩],vI 0]) rfl (cK.cell rfl (IJ (cs:= [.string ⟨v6 a.aJ⟩, .string ⟨v6 a.aR⟩]) N0 M9 ((A.cls (i:=0) rfl).lit (k:=0) (m:=2) rfl)) (cK.tmp rfl cK.nil)) (Lj rfl)) ?_))
 have G:=A.pk []
 obtain⟨rfl,rfl⟩:=fD (zj hr zq3)
 exact⟨rfl,G⟩
 refine jT (dT g) (sr (Kz (.agg #[.string ⟨v6 []⟩, .string ⟨v6 []⟩]) (Mz rfl ?_)))
 refine df [.string ⟨v6 []⟩, .string ⟨v6 []⟩] 0 c M9 ?_
 intro Y B
 refine An rfl (rt (tR (Fin.res (jb (vs:= [.agg #[.string ⟨v6 []⟩, .string ⟨v6 []⟩],vI b]) rfl (cK.cell rfl (IJ (cs:= [.string ⟨v6 []⟩, .string ⟨v6 []⟩]) N0 M9 ((B.cls (i:=0) rfl).lit (k:=0) (m:=2) rfl)) (cK.tmp rfl cK.nil)) (Lj rfl)) ?_)))
 have I:=B.pk []
 obtain⟨rfl,rfl⟩:=fD (zj hr zq2)
 exact⟨rfl,I⟩
def iZ (l0:List aM):List aM->Nat->Unit ⊕ Int
  | [],a=>B7 ()
  | b::c,a=>if b.bE < 1 then B9 (170) else if b.bE > 4 then B9 (170) else if(a:Int) > 0 then bnd (iO b.aJ) λ d=>if d=0 then bnd (B8 l0 (a - 1) default) λ e=>if b.aJ<=e.aJ then B9 (170) else iZ l0 c (a+1) else B9 (170) else iZ l0 c (a+1)
def pG (l0:List aM):Int:=
 if(l0.length:Int) < 1 then 170 else if(l0.length:Int) > 6 then 170 else bnd (B8 l0 0 default) λ a=>if a.aJ≠[] then 170 else lp (iZ l0 l0 0) λ _=>0
theorem wu (w D o R I l0 S) (H:Own w D w []) (p:Ro w D λ w'=>aY w' 2 o R (q4 aM.cells l0)) (T:R=l0.length) (az:l0.length *24<=211106232532992) (hr:pG l0=S):
    Calls v5 31 #[.slice o R I] w (dA λ v w'=>v=vI S/\Own w D w' []/\(¬ (S=0)\/(1<=l0.length/\l0.length<=6))):=by
 unfold pG at hr
 subst T
 refine cb Tryz.func31 ?_
 refine sr (An rfl (Ik (sr (Mz rfl (Kz (vJ l0.length) (Kz (.bool (decide ((l0.length:Int) < 1))) (Mz rfl ?_)))))))
 by_cases h:(l0.length:Int) < 1
 refine Sz (dT h) (Sz (dT h) (Sz (dT h) (fw (.bool true) (Iw rfl (dT h) rfl) (Mz rfl (Sz rfl (Sz rfl (Sz rfl (Sz rfl (Sz rfl (fw (.bool true) (Iw rfl rfl rfl) (nt (jt (sr (An rfl (rt (tR (rs ?_)))))))))))))))))
 have U:=H.pk []
 obtain rfl:=zj hr zq1
 exact⟨rfl,U,e6⟩
 refine gw (.slice o l0.length I) (dF h) (IA rfl) (Gz (vJ l0.length) (dF h) (Gz (.bool (decide ((l0.length:Int) > 6))) (dF h) (fw (.bool (decide ((l0.length:Int) > 6))) (Io rfl (dF h) rfl) (Mz rfl ?_))))
 by_cases f:(l0.length:Int) > 6
 refine Sz (dT f) (Sz (dT f) (Sz (dT f) (Sz (dT f) (Sz (dT f) (fw (.bool true) (Iw rfl (dT f) rfl) (nt (jt (sr (An rfl (rt (tR (rs ?_))))))))))))
 have V:=H.pk []
 obtain rfl:=zj hr zq2
 exact⟨rfl,V,e6⟩
 refine gw (.slice o l0.length I) (dF f) (IA rfl) ?_
 obtain⟨A,l⟩:=dh (ls:=l0) (i:=0) aM.len f2 (H.ro p) e9
 refine gw (.pointer (some ⟨ab o,ao o+0 *2,none⟩)) (dF f) (Iz (nE) rfl rfl ((H.ro p).addr (i:=0) e6) e6) (Gz (.pointer (some ⟨ab o,ao o+0 *2,none⟩)) (dF f) (gw (.string ⟨v6 A.aJ⟩) (dF f) (IB rfl (bJ.one C0 (((H.ro p).elem aM.len l f2).at_ (k:=0) rfl))) (gw (.bool (decide (A.aJ≠[]))) (dF f) (I6 rfl rfl) (fw (.bool (decide (A.aJ≠[]))) (Io rfl (dF f) rfl) (nt ?_)))))
 by_cases r:A.aJ≠[]
 refine jT (dT r) (sr (An rfl (rt (tR (rs ?_)))))
 have W:=H.pk []
 obtain rfl:=zj hr zq4
 exact⟨rfl,W,e6⟩
 refine jF (dF r) (sk (Ik (sr (Mz rfl (Kz (vJ l0.length) (Mn rfl (bo ?_)))))))
 have X:=H.pk []
 obtain⟨Y,t⟩:=lF λ (a:Nat) w'=>Own w D w' []/\a<=l0.length/\iZ l0 l0 0=iZ l0 (r4 a l0) a
 refine C1 (λ i:Nat=> [(2,vI 0),(22,vJ i),(21,vJ l0.length),(20, .slice o l0.length I),(0, .slice o l0.length I)]) Y (λ i=>l0.length - i) 0 ⟨rfl,rfl,rfl,rfl,rfl,trivial⟩ (t.2 ⟨X,e6,rfl⟩) ?_
 rintro a aA L
 obtain⟨y,av,m⟩:=t.1 L
 refine sr (Kz (.bool (decide ((a:Int) < (l0.length:Int)))) (nt (Ik ?_)))
 by_cases M:(a:Int) < (l0.length:Int)
 obtain⟨c,J⟩:=dh (ls:=l0) (i:=a) aM.len f2 (y.ro p) e9
 have n:=drop_at J
 refine jT (dT M) (sk (Ik (bo (sr (Mz rfl (fw (.pointer (some ⟨ab o,ao o+a *2,none⟩)) (Iz (nE) rfl rfl ((y.ro p).addr (i:=a) e6) e6) (fw (.agg (aM.cells c).toArray) (IB rfl (IJ (cs:=(aM.cells c)) U6 P3 ((y.ro p).elem aM.len J f2))) ?_)))))))
 refine dn [.string ⟨v6 []⟩,vI 0] 89 y ?_
 intro B aB Z
 refine Az rfl ?_
 refine df (aM.cells c) 0 Z P3 ?_
 intro aC aa
 refine nt (Ik ?_)
 refine vo [] (IE (bv.block (IE (IE (bv.block (IE IQ)))))) aa ?_
 intro aD C
 refine qp B 1 0 rfl (ql 1 rfl 0 C2 rfl rfl rfl (qk (.bool (decide (c.bE < 1))) 2 rfl (qv 3 rfl rfl ?_)))
 by_cases j:c.bE < 1
 refine Ip (rs:= []) 4 rfl rfl rfl (dT j) e7 (Ip (rs:= []) 5 rfl rfl rfl (dT j) e7 (Ip (rs:= []) 6 rfl rfl rfl (dT j) e7 (qt (v:= .bool true) 7 rfl (λ _ _=>Iw rfl (dT j) rfl) (qv 8 rfl rfl (Ip (rs:= []) 9 rfl rfl rfl rfl e7 (Ip (rs:= []) 10 rfl rfl rfl rfl e7 (Ip (rs:= []) 11 rfl rfl rfl rfl e7 (IR (rs:= []) 12 rfl rfl rfl e7 (IR (rs:= []) 13 rfl rfl rfl e7 (IR (rs:= []) 14 rfl rfl rfl e7 (IR (rs:= []) 15 rfl rfl rfl e7 (IR (rs:= []) 16 rfl rfl rfl e7 (IR (rs:= []) 17 rfl rfl rfl e7 (IR (rs:= []) 18 rfl rfl rfl e7 (IR (rs:= []) 19 rfl rfl rfl e7 (IR (rs:= []) 20 rfl rfl rfl e7 (IR (rs:= []) 21 rfl rfl rfl e7 (IR (rs:= []) 22 rfl rfl rfl e7 (IR (rs:= []) 23 rfl rfl rfl e7 (IR (rs:= []) 24 rfl rfl rfl e7 (IR (rs:= []) 25 rfl rfl rfl e7 (IR (rs:= []) 26 rfl rfl rfl e7 (Ip (rs:= []) 27 rfl rfl rfl rfl e7 (qt (v:= .bool true) 28 rfl (λ _ _=>Iw rfl rfl rfl) (qn (Iq (jt (sr (An rfl (rt (bR (tR (tR (bR (tR (rs ?_))))))))))))))))))))))))))))))))))))
 have af:=C.pk []
 obtain rfl:_=170:=zj hr (et (iN h) (et (iN f) (et (ae (aT l)) (et (iN r) (gL (et (m) (et (congrArg (λ q=>iZ l0 q a) n) (ip j))))))))
 exact⟨rfl,af,e6⟩
 refine Iy (v:=vP B 1) (rs:= []) 4 rfl rfl rfl (dF j) e7 (λ _ _=>yk) (Iy (v:=vI c.bE) (rs:= []) 5 rfl rfl rfl (dF j) e7 (λ _ ⟨_,E⟩=>IB rfl (bJ.one C2 (I1 (E.cls (i:=0) rfl) rfl))) (Iy (v:= .bool (decide (c.bE > 4))) (rs:= []) 6 rfl rfl rfl (dF j) e7 (λ _ _=>yk) (qt (v:= .bool (decide (c.bE > 4))) 7 rfl (λ _ _=>Io rfl (dF j) rfl) (qv 8 rfl rfl ?_))))
 by_cases g:c.bE > 4
 refine Ip (rs:= []) 9 rfl rfl rfl (dT g) e7 (Ip (rs:= []) 10 rfl rfl rfl (dT g) e7 (Ip (rs:= []) 11 rfl rfl rfl (dT g) e7 (IR (rs:= []) 12 rfl rfl rfl e7 (IR (rs:= []) 13 rfl rfl rfl e7 (IR (rs:= []) 14 rfl rfl rfl e7 (IR (rs:= []) 15 rfl rfl rfl e7 (IR (rs:= []) 16 rfl rfl rfl e7 (IR (rs:= []) 17 rfl rfl rfl e7 (IR (rs:= []) 18 rfl rfl rfl e7 (IR (rs:= []) 19 rfl rfl rfl e7 (IR (rs:= []) 20 rfl rfl rfl e7 (IR (rs:= []) 21 rfl rfl rfl e7 (IR (rs:= []) 22 rfl rfl rfl e7 (IR (rs:= []) 23 rfl rfl rfl e7 (IR (rs:= []) 24 rfl rfl rfl e7 (IR (rs:= []) 25 rfl rfl rfl e7 (IR (rs:= []) 26 rfl rfl rfl e7 (Ip (rs:= []) 27 rfl rfl rfl (dT g) e7 (qt (v:= .bool true) 28 rfl (λ _ _=>Iw rfl (dT g) rfl) (qn (Iq (jt (sr (An rfl (rt (bR (tR (tR (bR (tR (rs ?_)))))))))))))))))))))))))))))))
 have ag:=C.pk []
 obtain rfl:_=170:=zj hr (et (iN h) (et (iN f) (et (ae (aT l)) (et (iN r) (gL (et (m) (et (congrArg (λ q=>iZ l0 q a) n) (et (iN j) (ip g)))))))))
 exact⟨rfl,ag,e6⟩
 refine Iy (v:=vJ a) (rs:= []) 9 rfl rfl rfl (dF g) e7 (λ _ _=>IA rfl) (Iy (v:= .bool (decide ((a:Int) > 0))) (rs:= []) 10 rfl rfl rfl (dF g) e7 (λ _ _=>yk) (Iy (v:= .bool (decide ((a:Int) > 0))) (rs:= []) 11 rfl rfl rfl (dF g) e7 (λ _ _=>IA rfl) ?_))
 by_cases d:(a:Int) > 0
 refine Iy (v:=vP B 0) (rs:= []) 12 rfl rfl rfl (dT d) e7 (λ _ _=>yk) (Iy (v:= .string ⟨v6 c.aJ⟩) (rs:= []) 13 rfl rfl rfl (dT d) e7 (λ _ ⟨_,E⟩=>IB rfl (bJ.one C0 (I1 (E.cls (i:=0) rfl) rfl))) ?_)
 obtain⟨x,u⟩:∃ q,iO c.aJ=q:=⟨_,rfl⟩
 obtain⟨aF,N,ax,O,ay⟩:=Iu C
 refine Jl 14 rfl rfl rfl (dT d) e7 (IP U5 rfl (mg _ _ c.aJ x N u) ?_)
 rintro _ aG ⟨rfl,P,K⟩
 have F:=O _ _ P
 replace K: ¬ (x=0)\/(1<=c.aJ.length/\c.aJ.length<=12):=K
 refine⟨.inr ⟨_,F⟩, ?_⟩
 refine Iy (v:= .bool (decide (¬ (x=0)))) (rs:= []) 15 rfl rfl rfl (dT d) e7 (λ _ _=>IM (e:= !(decide (x=0))) yk decide_not.symm) (Iy (v:= .bool (decide (¬ (x=0)))) (rs:= []) 16 rfl rfl rfl (dT d) e7 (λ _ _=>IA rfl) ?_)
 by_cases b:x=0
 refine Iy (v:= .slice o l0.length I) (rs:= []) 17 rfl rfl rfl (dF (Lr b)) e7 (λ _ _=>IA rfl) (Iy (v:=vJ a) (rs:= []) 18 rfl rfl rfl (dF (Lr b)) e7 (λ _ _=>IA rfl) (Iy (v:=vJ (a - 1)) (rs:= []) 19 rfl rfl rfl (dF (Lr b)) e7 (λ _ _=>Ir (e:=C3.wrap ((a:Int) - 1)) yk f0) ?_))
 obtain⟨s,z⟩:=iG (ls:=l0) (i:=a - 1) e9
 refine Iy (v:= .pointer (some ⟨ab o,ao o+(a - 1) *2,none⟩)) (rs:= []) 20 rfl rfl rfl (dF (Lr b)) e7 (λ _ ⟨_,E⟩=>Iz (nE) rfl rfl ((E.ro p).addr (i:=a - 1) e6) e6) (Iy (v:= .pointer (some ⟨ab o,ao o+(a - 1) *2,none⟩)) (rs:= []) 21 rfl rfl rfl (dF (Lr b)) e7 (λ _ _=>yk) (Iy (v:= .string ⟨v6 s.aJ⟩) (rs:= []) 22 rfl rfl rfl (dF (Lr b)) e7 (λ _ ⟨_,E⟩=>IB rfl (bJ.one C0 (((E.ro p).elem aM.len z f2).at_ (k:=0) rfl))) (Iy (v:=vP B 0) (rs:= []) 23 rfl rfl rfl (dF (Lr b)) e7 (λ _ _=>yk) (Iy (v:= .string ⟨v6 c.aJ⟩) (rs:= []) 24 rfl rfl rfl (dF (Lr b)) e7 (λ _ ⟨_,E⟩=>IB rfl (bJ.one C0 (I1 (E.cls (i:=0) rfl) rfl))) (Iy (v:= .bool (decide (c.aJ<=s.aJ))) (rs:= []) 25 rfl rfl rfl (dF (Lr b)) e7 (λ _ _=>IM (e:= !(Op.bytesLess s.aJ c.aJ)) (JL rfl rfl) (zz _ _)) (Iy (v:= .bool (decide (c.aJ<=s.aJ))) (rs:= []) 26 rfl rfl rfl (dT d) e7 (λ _ _=>Io rfl (dF (Lr b)) rfl) (Iy (v:= .bool (decide (c.aJ<=s.aJ))) (rs:= []) 27 rfl rfl rfl (dF g) e7 (λ _ _=>Iw rfl (dT d) rfl) (qt (v:= .bool (decide (c.aJ<=s.aJ))) 28 rfl (λ _ _=>Io rfl (dF g) rfl) (qn (Iq ?_))))))))))
 by_cases G:c.aJ<=s.aJ
 refine jT (dT G) (sr (An rfl (rt (bR (tR (tR (bR (tR (rs ?_)))))))))
 have ah:=F.pk []
 obtain rfl:_=170:=zj hr (et (iN h) (et (iN f) (et (ae (aT l)) (et (iN r) (gL (et (m) (et (congrArg (λ q=>iZ l0 q a) n) (et (iN j) (et (iN g) (et (ip d) (et (ae u) (et (ip b) (et (ae (aT z)) (ip G))))))))))))))
 exact⟨rfl,ah,e6⟩
 refine jF (dF G) (IU (bN (Iq (Il (fw (vJ (a+1)) (Ir (e:=C3.wrap ((a:Int)+1)) yk f0) (Mz rfl (C4 ?_)))))))
 have ai:=F.pk []
 exact II (a+1) ⟨rfl,rfl,rfl,rfl,rfl,trivial⟩ (t.2 ⟨ai,e6,et (m) (et (congrArg (λ q=>iZ l0 q a) n) (et (iN j) (et (iN g) (et (ip d) (et (ae u) (et (ip b) (et (ae (aT z)) (iN G))))))))⟩) (by show l0.length - (a+1) < l0.length - a; omega)
 refine Ip (rs:= []) 17 rfl rfl rfl (dT b) e7 (Ip (rs:= []) 18 rfl rfl rfl (dT b) e7 (Ip (rs:= []) 19 rfl rfl rfl (dT b) e7 (Ip (rs:= []) 20 rfl rfl rfl (dT b) e7 (Ip (rs:= []) 21 rfl rfl rfl (dT b) e7 (Ip (rs:= []) 22 rfl rfl rfl (dT b) e7 (Ip (rs:= []) 23 rfl rfl rfl (dT b) e7 (Ip (rs:= []) 24 rfl rfl rfl (dT b) e7 (Ip (rs:= []) 25 rfl rfl rfl (dT b) e7 (Iy (v:= .bool true) (rs:= []) 26 rfl rfl rfl (dT d) e7 (λ _ _=>Iw rfl (dT b) rfl) (Iy (v:= .bool true) (rs:= []) 27 rfl rfl rfl (dF g) e7 (λ _ _=>Iw rfl (dT d) rfl) (qt (v:= .bool true) 28 rfl (λ _ _=>Io rfl (dF g) rfl) (qn (Iq (jt (sr (An rfl (rt (bR (tR (tR (bR (tR (rs ?_)))))))))))))))))))))))
 have aj:=F.pk []
 obtain rfl:_=170:=zj hr (et (iN h) (et (iN f) (et (ae (aT l)) (et (iN r) (gL (et (m) (et (congrArg (λ q=>iZ l0 q a) n) (et (iN j) (et (iN g) (et (ip d) (et (ae u) (iN b))))))))))))
 exact⟨rfl,aj,e6⟩
 refine Ip (rs:= []) 12 rfl rfl rfl (dF d) e7 (Ip (rs:= []) 13 rfl rfl rfl (dF d) e7 (Ip (rs:= []) 14 rfl rfl rfl (dF d) e7 (Ip (rs:= []) 15 rfl rfl rfl (dF d) e7 (Ip (rs:= []) 16 rfl rfl rfl (dF d) e7 (IR (rs:= []) 17 rfl rfl rfl e7 (IR (rs:= []) 18 rfl rfl rfl e7 (IR (rs:= []) 19 rfl rfl rfl e7 (IR (rs:= []) 20 rfl rfl rfl e7 (IR (rs:= []) 21 rfl rfl rfl e7 (IR (rs:= []) 22 rfl rfl rfl e7 (IR (rs:= []) 23 rfl rfl rfl e7 (IR (rs:= []) 24 rfl rfl rfl e7 (IR (rs:= []) 25 rfl rfl rfl e7 (Ip (rs:= []) 26 rfl rfl rfl (dF d) e7 (Iy (v:= .bool false) (rs:= []) 27 rfl rfl rfl (dF g) e7 (λ _ _=>Io rfl (dF d) rfl) (qt (v:= .bool false) 28 rfl (λ _ _=>Io rfl (dF g) rfl) (qn (Iq (jf (IU (bN (Iq (Il (fw (vJ (a+1)) (Ir (e:=C3.wrap ((a:Int)+1)) yk f0) (Mz rfl (C4 ?_))))))))))))))))))))))))))
 have ak:=C.pk []
 exact II (a+1) ⟨rfl,rfl,rfl,rfl,rfl,trivial⟩ (t.2 ⟨ak,e6,et (m) (et (congrArg (λ q=>iZ l0 q a) n) (et (iN j) (et (iN g) (iN d))))⟩) (by show l0.length - (a+1) < l0.length - a; omega)
 refine jF (dF M) (C5 (IC ?_))
 have Q:iZ l0 l0 0=B7 ():=et (m) (et (congrArg (λ q=>iZ l0 q a) (dZ (ls:=l0) (i:=a) e6)) rfl)
 refine IC (IK (Iq (sr (An rfl (rt (rs ?_))))))
 have au:=y.pk []
 obtain rfl:_=0:=zj hr (et (iN h) (et (iN f) (et (ae (aT l)) (et (iN r) (mF Q)))))
 exact⟨rfl,au,e6⟩
def kX (l0:List aM) (c:Int):aL:=
 bnd (B8 l0 (C6 c) default) λ a=>if c+1 < (l0.length:Int) then bnd (B8 l0 (C6 (c+1)) default) λ b=>aL.mk a.aJ b.aJ else aL.mk a.aJ []
theorem qQ (w D h r C l0 b) (B:aL) (H:Own w D w []) (c:Ro w D λ w'=>aY w' 2 h r (q4 aM.cells l0)) (s:r=l0.length) (E:l0.length *24<=211106232532992) (F:0<=b/\b < ((l0.length:Nat):Int)) (hr:kX l0 b=B):
    Calls v5 38 #[.slice h r C,vI b] w (dA λ v w'=>v= .agg (aL.cells B).toArray/\Own w D w' []):=by
 unfold kX at hr
 subst s
 refine cb Tryz.func38 ?_
 refine sr ?_
 refine dn [.string ⟨v6 []⟩, .string ⟨v6 []⟩] 38 H ?_
 intro G I j
 refine ns (Mz rfl (fw (vJ (C6 b)) (Ir (e:=b) (IA rfl) e6) ?_))
 obtain⟨a,g⟩:=dh (ls:=l0) (i:=C6 b) aM.len f2 (j.ro c) e9
 refine fw (.pointer (some ⟨ab h,ao h+(C6 b) *2,none⟩)) (Iz (nE) rfl rfl ((j.ro c).addr (i:=C6 b) e6) e6) (Kz (.pointer (some ⟨ab h,ao h+(C6 b) *2,none⟩)) (fw (.string ⟨v6 a.aJ⟩) (IB rfl (bJ.one C0 (((j.ro c).elem aM.len g f2).at_ (k:=0) rfl))) (Kz (.agg #[.string ⟨v6 a.aJ⟩, .string ⟨v6 []⟩]) ?_)))
 refine dn [.string ⟨v6 []⟩, .string ⟨v6 []⟩] 38 j ?_
 intro t J u
 refine df [.string ⟨v6 a.aJ⟩, .string ⟨v6 []⟩] 0 u M9 ?_
 intro K d
 refine nt (Ik (sr (Mz rfl (fw (vI (b+1)) (Ir (e:=C3.wrap (b+1)) yk g1) (Mz rfl (Kz (vJ l0.length) (Kz (.bool (decide (b+1 < (l0.length:Int)))) (nt ?_))))))))
 by_cases l:b+1 < (l0.length:Int)
 refine jT (dT l) (Il (Mz rfl (Mz rfl (fw (vJ (C6 (b+1))) (Ir (e:=C3.wrap (b+1)) yk f0) ?_))))
 obtain⟨f,n⟩:=dh (ls:=l0) (i:=C6 (b+1)) aM.len f2 (d.ro c) e9
 refine fw (.pointer (some ⟨ab h,ao h+(C6 (b+1)) *2,none⟩)) (Iz (nE) rfl rfl ((d.ro c).addr (i:=C6 (b+1)) e6) e6) (Kz (.pointer (some ⟨ab h,ao h+(C6 (b+1)) *2,none⟩)) (fw (.string ⟨v6 f.aJ⟩) (IB rfl (bJ.one C0 (((d.ro c).elem aM.len n f2).at_ (k:=0) rfl))) (Kz (vP t 1) ?_)))
 refine df [.string ⟨v6 f.aJ⟩] 1 d Tryz.sizeOf9 ?_
 intro L o
 refine ns (La ([.string ⟨v6 a.aJ⟩, .string ⟨v6 f.aJ⟩]) o 0 N0 M9 ?_)
 have x:=o.pb [0]
 refine df [.string ⟨v6 a.aJ⟩, .string ⟨v6 f.aJ⟩] 0 x M9 ?_
 intro M p
 refine nt (rt (Fin.res (oo rfl rfl (IJ (cs:= [.string ⟨v6 a.aJ⟩, .string ⟨v6 f.aJ⟩]) N0 M9 ((p.cls (i:=0) rfl).lit (k:=0) (m:=2) rfl))) ?_))
 have y:=p.pk []
 obtain rfl:=zj hr zq3
 exact⟨rfl,y⟩
 refine jF (dF l) (sk (sr (La ([.string ⟨v6 a.aJ⟩, .string ⟨v6 []⟩]) d 0 N0 M9 ?_)))
 have z:=d.pb [0]
 refine df [.string ⟨v6 a.aJ⟩, .string ⟨v6 []⟩] 0 z M9 ?_
 intro N q
 refine nt (rt (Fin.res (oo rfl rfl (IJ (cs:= [.string ⟨v6 a.aJ⟩, .string ⟨v6 []⟩]) N0 M9 ((q.cls (i:=0) rfl).lit (k:=0) (m:=2) rfl))) ?_))
 have A:=q.pk []
 obtain rfl:=zj hr zq2
 exact⟨rfl,A⟩
def mO (l0:List aM) (e:List UInt8):Nat->Nat->Unit ⊕ Int
  | 0,a=>B7 ()
  | d+1,a=>bnd (kX l0 (a:Int)) λ b=>bnd (uK b e) λ c=>if c=true then B9 (a:Int) else mO l0 e d (a+1)
def uN (l0:List aM) (a:List UInt8):Int:=
 lp (mO l0 a l0.length 0) λ _=>0
theorem DD (w D k F C l0 b E) (H:Own w D w []) (G:Ro w D λ w'=>aY w' 2 k F (q4 aM.cells l0)) (I:F=l0.length) (T:l0.length *24<=211106232532992) (U:1<=l0.length) (hr:uN l0 b=E):
    Calls v5 69 #[.slice k F C, .string ⟨v6 b⟩] w (dA λ v w'=>v=vI E/\Own w D w' []/\(0<=E/\E < ((l0.length:Nat):Int))):=by
 subst I
 refine cb Tryz.func69 ?_
 refine sr (An rfl (Ik (sr (Mz rfl (Kz (vJ l0.length) (Mn rfl (bo ?_)))))))
 have J:=H.pk []
 obtain⟨K,c⟩:=lF λ (a:Nat) w'=>Own w D w' []/\a<=l0.length/\mO l0 b l0.length 0=mO l0 b (l0.length - a) a
 refine C1 (λ i:Nat=> [(4,vI 0),(8,vJ i),(7,vJ l0.length),(0, .slice k l0.length C),(1, .string ⟨v6 b⟩)]) K (λ i=>l0.length - i) 0 ⟨rfl,rfl,rfl,rfl,rfl,trivial⟩ (c.2 ⟨J,e6,rfl⟩) ?_
 rintro a V l
 obtain⟨m,P,d⟩:=c.1 l
 refine sr (Kz (.bool (decide ((a:Int) < (l0.length:Int)))) (nt (Ik ?_)))
 by_cases o:(a:Int) < (l0.length:Int)
 refine jT (dT o) (sk (Ik (bo (sr (Mz rfl (Ar rfl (Mz rfl (Mz rfl ?_))))))))
 obtain⟨j,f⟩:∃ q,kX l0 (a:Int)=q:=⟨_,rfl⟩
 obtain⟨W,p,r,s,Q⟩:=Iu m
 refine cl U7 (qQ _ _ k l0.length C l0 (a:Int) j p (r _ G) rfl e6 e6 f) ?_
 rintro _ X ⟨rfl,t⟩
 have L:=s _ _ t
 refine Mz rfl ?_
 obtain⟨u,g⟩:∃ q,uK j b=q:=⟨_,rfl⟩
 obtain⟨Y,x,R,y,S⟩:=Iu L
 refine cl Tryz.call110 (Cz _ _ j b u x g) ?_
 rintro _ Z ⟨rfl,z⟩
 have A:=y _ _ z
 refine nt ?_
 rcases Ls (u) with h | h
 refine jT h (sr (Mz rfl (An rfl (rt (bR (tR (tR (bR (tR (rs ?_))))))))))
 have M:=A.pk []
 obtain rfl:_=(a:Int):=zj hr (gL (et (d) (et (congrArg (λ q=>mO l0 b q a) (rH (n:=l0.length) (i:=a) e6)) (et (ae f) (et (ae g) (ip h))))))
 exact⟨rfl,M,e6⟩
 refine jF h (IU (bN (Iq (Il (fw (vJ (a+1)) (Ir (e:=C3.wrap ((a:Int)+1)) yk f0) (Mz rfl (C4 ?_)))))))
 have N:=A.pk []
 exact II (a+1) ⟨rfl,rfl,rfl,rfl,rfl,trivial⟩ (c.2 ⟨N,e6,et (d) (et (congrArg (λ q=>mO l0 b q a) (rH (n:=l0.length) (i:=a) e6)) (et (ae f) (et (ae g) (fP h))))⟩) (by show l0.length - (a+1) < l0.length - a; omega)
 refine jF (dF o) (C5 (IC ?_))
 have B:mO l0 b l0.length 0=B7 ():=et (d) (et (congrArg (λ q=>mO l0 b q a) (wC (n:=l0.length) (i:=a) e6)) rfl)
 refine IC (IK (Iq (sr (An rfl (rt (rs ?_))))))
 have O:=m.pk []
 obtain rfl:_=0:=zj hr (mF B)
 exact⟨rfl,O,e6⟩
def iF (l0:List aM) (i:Int) (f:Nat) (a:aN):List aM->Nat->List aN->List Int->(List aN) × (List Int)
  | [],b,c,d=>(c,d)
  | k::g,b,c,d=>if k.bE=i then if a.aZ≠[] then bnd (uN l0 a.aZ) λ j=>bnd (if j=(b:Int) then((c++ [a]),(d++ [(f:Int)])) else(c,d)) λ sJrLsLsttbJ=>iF l0 i f a g (b+1) sJrLsLsttbJ.1 sJrLsLsttbJ.2 else bnd (kX l0 (b:Int)) λ h=>bnd (ng h (aL.mk a.aJ a.aR)) λ e=>if e.2=true then iF l0 i f a g (b+1) (c++ [(aN.mk a.av [] [] e.1.aJ e.1.aR a.aV)]) (d++ [(f:Int)]) else iF l0 i f a g (b+1) c d else iF l0 i f a g (b+1) c d
def l5 (l0:List aM) (f:Int):List aN->Nat->List aN->List Int->(List aN) × (List Int)
  | [],a,b,c=>(b,c)
  | d::e,a,b,c=>bnd (iF l0 f a d l0 0 b c) λ sLrLsL=>l5 l0 f e (a+1) sLrLsL.1 sLrLsL.2
def yu (l0:List aM) (a:Int) (b:List aN):jA:=
 bnd (l5 l0 a b 0 [] []) λ sLrL=>jA.mk a (Ll.mk sLrL.1) (Ll.mk sLrL.2)
theorem DF (w D A0 n0 c0 l0 r A2 n2 c2 x) (r0:jA) (H:Own w D w []) (bf:Ro w D λ w'=>aY w' 2 A0 n0 (q4 aM.cells l0)) (fO:n0=l0.length) (iI:l0.length *24<=211106232532992) (dD:Ro w D λ w'=>aY w' 6 A2 n2 (q4 aN.cells x)) (fQ:n2=x.length) (iJ:x.length *80<=211106232532992) (iK:1<=l0.length/\l0.length<=6/\x.length<=24) (hr:yu l0 r x=r0):
    Calls v5 33 #[.slice A0 n0 c0,vI r, .slice A2 n2 c2] w (dA λ v w'=> ∃ bG bH bI bJ,v= .agg #[vI r0.bE, .slice bG r0.aB.ls.length bH, .slice bI r0.aI.ls.length bJ]/\Own w D w' [row bG r0.aB.ls.length bH (q4 aN.cells r0.aB.ls) 72 6,row bI r0.aI.ls.length bJ (q4 (eI .i64) r0.aI.ls) 3 1]):=by
 unfold yu at hr
 subst fO fQ
 refine cb Tryz.func33 ?_
 refine sr ?_
 refine dn [vI 0, .slice none 0 0, .slice none 0 0] 70 H ?_
 intro ai iL fT
 refine ns (Mz rfl (Kz (.agg #[vI r, .slice none 0 0, .slice none 0 0]) ?_))
 refine dn [vI 0, .slice none 0 0, .slice none 0 0] 70 fT ?_
 intro j iM fU
 refine df [vI r, .slice none 0 0, .slice none 0 0] 0 fU U8 ?_
 intro dY fV
 refine nt (Ik (sr (Mz rfl (Kz (vJ x.length) (Mn rfl (bo ?_))))))
 have fZ:Own w D dY [row none 0 0 (q4 aN.cells []) 72 6,blk j [vI r, .slice none 0 0, .slice none 0 0] 70,blk ai [vI 0, .slice none 0 0, .slice none 0 0] 70]:=fV.free (eP 72 6)
 have gm:Own w D dY (row none 0 0 (q4 (eI .i64) []) 3 1::_):=fZ.free (eP 3 1)
 have gp:=gm.pb [1,0]
 obtain⟨gq,bq⟩:=FJ λ (d:Nat) ax (ay:Nat) z az (aA:Nat) A w'=>Own w D w' [blk j [vI r, .slice ax z.length ay, .slice az A.length aA] 70,blk ai [vI 0, .slice none 0 0, .slice none 0 0] 70,row ax z.length ay (q4 aN.cells z) 72 6,row az A.length aA (q4 (eI .i64) A) 3 1]/\d<=x.length/\(z.length<=6 *d/\A.length<=6 *d)/\l5 l0 r x 0 [] []=l5 l0 r (r4 d x) d z A
 refine C1 (λ i:Nat × (Option Addr) × Nat × (List aN) × (Option Addr) × Nat × (List Int)=> [(18,vJ i.1),(17,vJ x.length),(16, .slice A2 x.length c2),(7,vP j 0),(6,vP ai 0),(0, .slice A0 l0.length c0),(1,vI r)]) gq (λ i=>x.length - i.1) (0,none,0, [],none,0, []) ⟨rfl,rfl,rfl,rfl,rfl,rfl,rfl,trivial⟩ (bq.2 ⟨gp,(show 0<=x.length/\(0<=6 *0/\0<=6 *0)/\l5 l0 r x 0 [] []=l5 l0 r (r4 0 x) 0 [] [] from ⟨e6,e6,rfl⟩)⟩) ?_
 rintro ⟨d,ax,ay,z,az,aA,A⟩ iO d9
 obtain⟨bg,gT,gU,bK⟩:=bq.1 d9
 refine sr (Kz (.bool (decide ((d:Int) < (x.length:Int)))) (nt (Ik ?_)))
 by_cases ed:(d:Int) < (x.length:Int)
 obtain⟨a,bL⟩:=dh (ls:=x) (i:=d) aN.len f2 (bg.ro dD) e9
 have ek:=drop_at bL
 refine jT (dT ed) (sk (Ik (bo (sr (Mz rfl (fw (.pointer (some ⟨ab A2,ao A2+d *6,none⟩)) (Iz (mG) rfl rfl ((bg.ro dD).addr (i:=d) e6) e6) (fw (.agg (aN.cells a).toArray) (IB rfl (IJ (cs:=(aN.cells a)) M8 M7 ((bg.ro dD).elem aN.len bL f2))) ?_)))))))
 refine dn [vI 0, .string ⟨v6 []⟩, .string ⟨v6 []⟩, .string ⟨v6 []⟩, .string ⟨v6 []⟩,vI 0] 72 bg ?_
 intro u iP gu
 refine Az rfl ?_
 refine df (aN.cells a) 0 gu M7 ?_
 intro iQ gy
 refine ns (Mz rfl (Kz (vJ l0.length) (Mn rfl (bo ?_))))
 have gz:=gy.pf []
 obtain⟨gB,F⟩:=FJ λ (c:Nat) P (Q:Nat) f R (S:Nat) g w'=>Own w D w' [blk u (aN.cells a) 72,blk j [vI r, .slice P f.length Q, .slice R g.length S] 70,blk ai [vI 0, .slice none 0 0, .slice none 0 0] 70,row P f.length Q (q4 aN.cells f) 72 6,row R g.length S (q4 (eI .i64) g) 3 1]/\c<=l0.length/\f.length<=z.length+c/\g.length<=A.length+c/\(f.length<=6 *d+c/\g.length<=6 *d+c)/\iF l0 r d a l0 0 z A=iF l0 r d a (r4 c l0) c f g
 refine C1 (λ i:Nat × (Option Addr) × Nat × (List aN) × (Option Addr) × Nat × (List Int)=> [(25,vJ i.1),(24,vJ l0.length),(23, .slice A0 l0.length c0),(8,vJ d),(9,vP u 0),(22, .agg (aN.cells a).toArray),(21, .pointer (some ⟨ab A2,ao A2+d *6,none⟩)),(20,vJ d),(19, .bool (decide ((d:Int) < (x.length:Int)))),(18,vJ d),(17,vJ x.length),(16, .slice A2 x.length c2),(7,vP j 0),(6,vP ai 0),(0, .slice A0 l0.length c0),(1,vI r)]) gB (λ i=>l0.length - i.1) (0,ax,ay,z,az,aA,A) ⟨rfl,rfl,rfl,rfl,rfl,rfl,rfl,rfl,rfl,rfl,rfl,rfl,rfl,rfl,rfl,rfl,trivial⟩ (F.2 ⟨gz,e6,e6,e6,e6,rfl⟩) ?_
 rintro ⟨c,P,Q,f,R,S,g⟩ iR eu
 obtain⟨bu,gV,gW,gX,gY,I⟩:=F.1 eu
 refine sr (Kz (.bool (decide ((c:Int) < (l0.length:Int)))) (nt (Ik ?_)))
 by_cases eB:(c:Int) < (l0.length:Int)
 obtain⟨J,bM⟩:=dh (ls:=l0) (i:=c) aM.len f2 (bu.ro bf) e9
 have T:=drop_at bM
 refine jT (dT eB) (sk (Ik (bo (sr (Mz rfl (fw (.pointer (some ⟨ab A0,ao A0+c *2,none⟩)) (Iz (nE) rfl rfl ((bu.ro bf).addr (i:=c) e6) e6) (fw (.agg (aM.cells J).toArray) (IB rfl (IJ (cs:=(aM.cells J)) U6 P3 ((bu.ro bf).elem aM.len bM f2))) ?_)))))))
 refine dn [.string ⟨v6 []⟩,vI 0] 89 bu ?_
 intro bi iT gD
 refine Az rfl ?_
 refine df (aM.cells J) 0 gD P3 ?_
 intro iU bn
 refine nt (Ik (sr (Kz (vP bi 1) (Lz (vI J.bE) bn 0 C2 (Mz rfl (fw (.bool (decide (¬ (J.bE=r)))) (IM (e:= !(decide (J.bE=r))) yk decide_not.symm) (nt ?_)))))))
 by_cases aj:J.bE=r
 refine jF (dF (Lr aj)) (sk (Ik (sr (Kz (vP u 1) (Lz (.string ⟨v6 a.aZ⟩) bn 1 C0 (fw (.bool (decide (a.aZ≠[]))) (I6 rfl rfl) (nt ?_)))))))
 by_cases au:a.aZ≠[]
 refine jT (dT au) (Ik (sr (Mz rfl (Kz (vP u 1) (Lz (.string ⟨v6 a.aZ⟩) bn 1 C0 ?_)))))
 obtain⟨ak,bO⟩:∃ q,uN l0 a.aZ=q:=⟨_,rfl⟩
 obtain⟨iV,eD,eF,eG,gZ⟩:=Iu bn
 refine cl Tryz.call69 (DD _ _ A0 l0.length c0 l0 a.aZ ak eD (eF _ bf) rfl e6 i5 bO) ?_
 rintro _ iW ⟨rfl,eH,bP⟩
 have bE:=eG _ _ eH
 replace bP:0<=ak/\ak < (l0.length:Int):=bP
 refine Mz rfl (Kz (.bool (decide (ak=(c:Int)))) (nt ?_))
 obtain⟨eO,aS⟩:=G8 λ K (L:Nat) l M (N:Nat) n w'=>Own w D w' [blk bi (aM.cells J) 89,blk u (aN.cells a) 72,blk j [vI r, .slice K l.length L, .slice M n.length N] 70,blk ai [vI 0, .slice none 0 0, .slice none 0 0] 70,row K l.length L (q4 aN.cells l) 72 6,row M n.length N (q4 (eI .i64) n) 3 1]/\l.length<=f.length+1/\f.length<=l.length/\n.length<=g.length+1/\g.length<=n.length/\(if ak=(c:Int) then((f++ [a]),(g++ [(d:Int)])) else(f,g))=(l,n)
 refine Jg (λ i:(Option Addr) × Nat × (List aN) × (Option Addr) × Nat × (List Int)=> [(42, .bool (decide (ak=(c:Int)))),(41,vJ c),(40,vI ak),(39, .string ⟨v6 a.aZ⟩),(38,vP u 1),(37, .slice A0 l0.length c0),(36, .bool (decide (a.aZ≠[]))),(35, .string ⟨v6 a.aZ⟩),(34,vP u 1),(33, .bool (decide (¬ (J.bE=r)))),(32,vI r),(31,vI J.bE),(30,vP bi 1),(10,vJ c),(11,vP bi 0),(29, .agg (aM.cells J).toArray),(28, .pointer (some ⟨ab A0,ao A0+c *2,none⟩)),(27,vJ c),(26, .bool (decide ((c:Int) < (l0.length:Int)))),(25,vJ c),(24,vJ l0.length),(23, .slice A0 l0.length c0),(8,vJ d),(9,vP u 0),(22, .agg (aN.cells a).toArray),(21, .pointer (some ⟨ab A2,ao A2+d *6,none⟩)),(20,vJ d),(19, .bool (decide ((d:Int) < (x.length:Int)))),(18,vJ d),(17,vJ x.length),(16, .slice A2 x.length c2),(7,vP j 0),(6,vP ai 0),(0, .slice A0 l0.length c0),(1,vI r)]) eO ?_ ?_
 by_cases aZ:ak=(c:Int)
 refine jT (dT aZ) (sr (Kz (vP j 1) (Lz (.slice P f.length Q) bE 2 R6 (La (aN.cells a) bE 1 M8 M7 ?_))))
 refine jV (aN.cells a) 72 6 1 bE ?_
 intro eQ ib bz
 replace bz:=IX (y:=row eQ 1 1 (q4 aN.cells ([a])) 72 6) rfl bz
 have bQ:=bz.pf [5]
 refine WL.do rfl (IW (k:=f.length) (m:=1) (mG) bQ rfl rfl (gN F2 (bQ.rds (i:=1) rfl) (dX aN.one ([a]))) rfl e6 (s:=s0 (f++ [a])) f7 (r5).symm ?_)
 intro bR bS ic eT
 have gF:s0 (f++ [a])=f.length+1:=by simp only [o2,s1,E7]
 refine Kz (vP j 1) ?_
 have eU:=eT.pf [4]
 refine df [.slice bR (s0 (f++ [a])) bS] 1 eU U9 ?_
 intro ig bT
 refine nt (Il (Kz (vP j 2) (Lz (.slice R g.length S) bT 0 D4 (Mz rfl ?_))))
 refine jV [vJ d] 3 1 1 bT ?_
 intro eX ik bA
 replace bA:=IX (y:=row eX 1 1 (q4 (eI .i64) ([(d:Int)])) 3 1) rfl bA
 have bU:=bA.pf [7]
 refine WL.do rfl (IW (k:=g.length) (m:=1) (mq) bU rfl rfl (gN y4 (bU.rds (i:=1) rfl) (dX qB ([(d:Int)]))) rfl e6 (s:=s0 (g++ [(d:Int)])) f7 (r5).symm ?_)
 intro bV bW il eY
 have gG:s0 (g++ [(d:Int)])=g.length+1:=by simp only [o2,s1,E7]
 refine Kz (vP j 2) ?_
 have eZ:=eY.pf [2]
 refine df [.slice bV (s0 (g++ [(d:Int)])) bW] 2 eZ V0 ?_
 intro iq fe
 refine C4 ?_
 have fo:=fe.pk [5,6,0,7,3,1]
 exact I8 (bR,bS,(f++ [a]),bV,bW,(g++ [(d:Int)])) ⟨rfl,rfl,rfl,rfl,rfl,rfl,rfl,rfl,rfl,rfl,rfl,rfl,rfl,rfl,rfl,rfl,rfl,rfl,rfl,rfl,rfl,rfl,rfl,rfl,rfl,rfl,rfl,rfl,rfl,rfl,rfl,rfl,rfl,rfl,rfl,trivial⟩ (aS.2 ⟨fo,e6,e6,e6,e6,ip aZ⟩)
 refine jF (dF aZ) (IU ?_)
 have fq:=bE.pf []
 exact I8 (P,Q,f,R,S,g) ⟨rfl,rfl,rfl,rfl,rfl,rfl,rfl,rfl,rfl,rfl,rfl,rfl,rfl,rfl,rfl,rfl,rfl,rfl,rfl,rfl,rfl,rfl,rfl,rfl,rfl,rfl,rfl,rfl,rfl,rfl,rfl,rfl,rfl,rfl,rfl,trivial⟩ (aS.2 ⟨fq,e6,e6,e6,e6,iN aZ⟩)
 rintro ⟨K,L,l,M,N,n⟩ iw dE
 obtain⟨fu,gH,gI,gJ,gK,dG⟩:=aS.1 dE
 refine C5 (IC (IK (Iq (Il (fw (vJ (c+1)) (Ir (e:=C3.wrap ((c:Int)+1)) yk f0) (Mz rfl (C4 ?_)))))))
 have fA:=fu.px [] [0] []
 exact II (c+1,K,L,l,M,N,n) ⟨rfl,rfl,rfl,rfl,rfl,rfl,rfl,rfl,rfl,rfl,rfl,rfl,rfl,rfl,rfl,rfl,trivial⟩ (F.2 ⟨fA,e6,e6,e6,e6,et (I) (et (congrArg (λ q=>iF l0 r d a q c f g) T) (et (ip aj) (et (ip au) (et (ae bO) (ae dG)))))⟩) (by show l0.length - (c+1) < l0.length - c; omega)
 refine jF (dF au) (sk (Ik ?_))
 refine Ha [] (IE (bv.block (IE (IE (bv.block (bv.block (IE (IE (bv.block (IE IQ)))))))))) bn ?_
 intro iy bX
 refine qv 0 rfl rfl (qv 1 rfl rfl (qp u 3 3 rfl (ql 4 rfl 1 C0 rfl rfl rfl (qp u 4 5 rfl (ql 6 rfl 1 C0 rfl rfl rfl (qk (.agg #[.string ⟨v6 a.aJ⟩, .string ⟨v6 a.aR⟩]) 7 rfl ?_))))))
 refine Jy 2 12 e7 ?_ ?_
 obtain⟨O,ah⟩:∃ q,kX l0 (c:Int)=q:=⟨_,rfl⟩
 obtain⟨iA,dH,dI,dJ,gL⟩:=Iu bX
 refine GY.do 2 rfl e7 (IP U7 rfl (qQ _ _ A0 l0.length c0 l0 (c:Int) O dH (dI _ bf) rfl e6 e6 ah) ?_)
 rintro _ iB ⟨rfl,dK⟩
 have bB:=dJ _ _ dK
 refine⟨.inr ⟨_,bB⟩, ?_⟩
 refine Jy 8 12 e7 ?_ ?_
 obtain⟨⟨b,B⟩,aT⟩:∃ q:aL × Bool,ng O (aL.mk a.aJ a.aR)=q:=⟨_,rfl⟩
 obtain⟨iC,dL,gM,dM,gP⟩:=Iu bB
 refine GY.do 8 rfl e7 (IP V1 rfl (ut _ _ O (aL.mk a.aJ a.aR) b B dL aT) ?_)
 rintro _ iD ⟨rfl,dN⟩
 have bY:=dM _ _ dN
 refine⟨.inr ⟨_,bY⟩, ?_⟩
 refine qv 9 rfl rfl (qk (.agg (aL.cells b).toArray) 10 rfl (qk (.bool B) 11 rfl ?_))
 refine qd 12 rfl (Jb (cs:= [.string ⟨v6 []⟩, .string ⟨v6 []⟩]) (t:=38) bY rfl rfl (λ _=>by kernel_rfl) ?_)
 intro bZ cu fB
 have U:=fB.pb [0]
 refine⟨.inr ⟨_,U⟩, ?_⟩
 have aB:=U.pf [6]
 refine qe 13 rfl (Do.store (vs:=(aL.cells b)) (o:=0) aB rfl rfl M9 rfl rfl rfl rfl ?_)
 intro cz aC
 have h:=aC.pb [0]
 refine⟨.inr ⟨_,h⟩, ?_⟩
 refine qa 14 rfl rfl (qn (Iq (sr (Mn rfl ?_))))
 rcases Ls (B) with p | p
 refine jT p (sr (Kz (vP j 1) (Lz (.slice P f.length Q) h 2 R6 (Kz (vP u 0) (Lz (vI a.av) h 1 C2 (Kz (vP bZ 0) (Lz (.string ⟨v6 b.aJ⟩) h 6 C0 (Kz (vP bZ 1) (Lz (.string ⟨v6 b.aR⟩) h 6 C0 (Kz (vP u 5) (Lz (vI a.aV) h 1 C2 (Kz (.agg #[vI a.av, .string ⟨v6 []⟩, .string ⟨v6 []⟩, .string ⟨v6 b.aJ⟩, .string ⟨v6 b.aR⟩,vI a.aV]) ?_))))))))))))
 refine jV [vI a.av, .string ⟨v6 []⟩, .string ⟨v6 []⟩, .string ⟨v6 b.aJ⟩, .string ⟨v6 b.aR⟩,vI a.aV] 72 6 1 h ?_
 intro aD cB C
 replace C:=IX (y:=row aD 1 1 (q4 aN.cells ([(aN.mk a.av [] [] b.aJ b.aR a.aV)])) 72 6) rfl C
 have V:=C.pf [5]
 refine WL.do rfl (IW (k:=f.length) (m:=1) (mG) V rfl rfl (gN F2 (V.rds (i:=1) rfl) (dX aN.one ([(aN.mk a.av [] [] b.aJ b.aR a.aV)]))) rfl e6 (s:=s0 (f++ [(aN.mk a.av [] [] b.aJ b.aR a.aV)])) f7 (r5).symm ?_)
 intro W X cK aF
 have bC:s0 (f++ [(aN.mk a.av [] [] b.aJ b.aR a.aV)])=f.length+1:=by simp only [o2,s1,E7]
 refine Kz (vP j 1) ?_
 have aG:=aF.pf [4]
 refine df [.slice W (s0 (f++ [(aN.mk a.av [] [] b.aJ b.aR a.aV)])) X] 1 aG U9 ?_
 intro cO Y
 refine nt (Il (Kz (vP j 2) (Lz (.slice R g.length S) Y 0 D4 (Mz rfl ?_))))
 refine jV [vJ d] 3 1 1 Y ?_
 intro aH cZ E
 replace E:=IX (y:=row aH 1 1 (q4 (eI .i64) ([(d:Int)])) 3 1) rfl E
 have Z:=E.pf [7]
 refine WL.do rfl (IW (k:=g.length) (m:=1) (mq) Z rfl rfl (gN y4 (Z.rds (i:=1) rfl) (dX qB ([(d:Int)]))) rfl e6 (s:=s0 (g++ [(d:Int)])) f7 (r5).symm ?_)
 intro aa af di aI
 have bD:s0 (g++ [(d:Int)])=g.length+1:=by simp only [o2,s1,E7]
 refine Kz (vP j 2) ?_
 have aJ:=aI.pf [2]
 refine df [.slice aa (s0 (g++ [(d:Int)])) af] 2 aJ V0 ?_
 intro dm aK
 refine C4 (bN (Iq (Il (fw (vJ (c+1)) (Ir (e:=C3.wrap ((c:Int)+1)) yk f0) (Mz rfl (C4 ?_))))))
 have aO:=aK.pk [6,0,7,3,1]
 exact II (c+1,W,X,(f++ [(aN.mk a.av [] [] b.aJ b.aR a.aV)]),aa,af,(g++ [(d:Int)])) ⟨rfl,rfl,rfl,rfl,rfl,rfl,rfl,rfl,rfl,rfl,rfl,rfl,rfl,rfl,rfl,rfl,trivial⟩ (F.2 ⟨aO,e6,e6,e6,e6,et (I) (et (congrArg (λ q=>iF l0 r d a q c f g) T) (et (ip aj) (et (iN au) (et (ae ah) (et (ae aT) (ip p))))))⟩) (by show l0.length - (c+1) < l0.length - c; omega)
 refine jF p (IU (bN (Iq (Il (fw (vJ (c+1)) (Ir (e:=C3.wrap ((c:Int)+1)) yk f0) (Mz rfl (C4 ?_)))))))
 have aP:=h.px [] [0,6] []
 exact II (c+1,P,Q,f,R,S,g) ⟨rfl,rfl,rfl,rfl,rfl,rfl,rfl,rfl,rfl,rfl,rfl,rfl,rfl,rfl,rfl,rfl,trivial⟩ (F.2 ⟨aP,e6,e6,e6,e6,et (I) (et (congrArg (λ q=>iF l0 r d a q c f g) T) (et (ip aj) (et (iN au) (et (ae ah) (et (ae aT) (fP p))))))⟩) (by show l0.length - (c+1) < l0.length - c; omega)
 refine GY.do 12 rfl e7 (Jb (cs:= [.string ⟨v6 []⟩, .string ⟨v6 []⟩]) (t:=38) bB rfl rfl (λ _=>by kernel_rfl) ?_)
 intro dw fC fD
 have aQ:=fD.pb [0]
 refine⟨.inr ⟨_,aQ⟩, ?_⟩
 obtain⟨⟨b,B⟩,G⟩:∃ q:aL × Bool,ng O (aL.mk a.aJ a.aR)=q:=⟨_,rfl⟩
 obtain⟨fE,aU,dO,aV,dP⟩:=Iu aQ
 refine qd 8 rfl (IP V1 rfl (ut _ _ O (aL.mk a.aJ a.aR) b B aU G) ?_)
 rintro _ cu ⟨rfl,aW⟩
 have U:=aV _ _ aW
 refine⟨.inr ⟨_,U⟩, ?_⟩
 refine qv 9 rfl rfl (qk (.agg (aL.cells b).toArray) 10 rfl (qk (.bool B) 11 rfl ?_))
 have aB:=U.pf [6]
 refine qe 13 rfl (Do.store (vs:=(aL.cells b)) (o:=0) aB rfl rfl M9 rfl rfl rfl rfl ?_)
 intro cz aC
 have h:=aC.pb [0]
 refine⟨.inr ⟨_,h⟩, ?_⟩
 refine qa 14 rfl rfl (qn (Iq (sr (Mn rfl ?_))))
 rcases Ls (B) with p | p
 refine jT p (sr (Kz (vP j 1) (Lz (.slice P f.length Q) h 2 R6 (Kz (vP u 0) (Lz (vI a.av) h 1 C2 (Kz (vP dw 0) (Lz (.string ⟨v6 b.aJ⟩) h 6 C0 (Kz (vP dw 1) (Lz (.string ⟨v6 b.aR⟩) h 6 C0 (Kz (vP u 5) (Lz (vI a.aV) h 1 C2 (Kz (.agg #[vI a.av, .string ⟨v6 []⟩, .string ⟨v6 []⟩, .string ⟨v6 b.aJ⟩, .string ⟨v6 b.aR⟩,vI a.aV]) ?_))))))))))))
 refine jV [vI a.av, .string ⟨v6 []⟩, .string ⟨v6 []⟩, .string ⟨v6 b.aJ⟩, .string ⟨v6 b.aR⟩,vI a.aV] 72 6 1 h ?_
 intro aD cB C
 replace C:=IX (y:=row aD 1 1 (q4 aN.cells ([(aN.mk a.av [] [] b.aJ b.aR a.aV)])) 72 6) rfl C
 have V:=C.pf [5]
 refine WL.do rfl (IW (k:=f.length) (m:=1) (mG) V rfl rfl (gN F2 (V.rds (i:=1) rfl) (dX aN.one ([(aN.mk a.av [] [] b.aJ b.aR a.aV)]))) rfl e6 (s:=s0 (f++ [(aN.mk a.av [] [] b.aJ b.aR a.aV)])) f7 (r5).symm ?_)
 intro W X cK aF
 have bC:s0 (f++ [(aN.mk a.av [] [] b.aJ b.aR a.aV)])=f.length+1:=by simp only [o2,s1,E7]
 refine Kz (vP j 1) ?_
 have aG:=aF.pf [4]
 refine df [.slice W (s0 (f++ [(aN.mk a.av [] [] b.aJ b.aR a.aV)])) X] 1 aG U9 ?_
 intro cO Y
 refine nt (Il (Kz (vP j 2) (Lz (.slice R g.length S) Y 0 D4 (Mz rfl ?_))))
 refine jV [vJ d] 3 1 1 Y ?_
 intro aH cZ E
 replace E:=IX (y:=row aH 1 1 (q4 (eI .i64) ([(d:Int)])) 3 1) rfl E
 have Z:=E.pf [7]
 refine WL.do rfl (IW (k:=g.length) (m:=1) (mq) Z rfl rfl (gN y4 (Z.rds (i:=1) rfl) (dX qB ([(d:Int)]))) rfl e6 (s:=s0 (g++ [(d:Int)])) f7 (r5).symm ?_)
 intro aa af di aI
 have bD:s0 (g++ [(d:Int)])=g.length+1:=by simp only [o2,s1,E7]
 refine Kz (vP j 2) ?_
 have aJ:=aI.pf [2]
 refine df [.slice aa (s0 (g++ [(d:Int)])) af] 2 aJ V0 ?_
 intro dm aK
 refine C4 (bN (Iq (Il (fw (vJ (c+1)) (Ir (e:=C3.wrap ((c:Int)+1)) yk f0) (Mz rfl (C4 ?_))))))
 have aO:=aK.pk [6,0,7,3,1]
 exact II (c+1,W,X,(f++ [(aN.mk a.av [] [] b.aJ b.aR a.aV)]),aa,af,(g++ [(d:Int)])) ⟨rfl,rfl,rfl,rfl,rfl,rfl,rfl,rfl,rfl,rfl,rfl,rfl,rfl,rfl,rfl,rfl,trivial⟩ (F.2 ⟨aO,e6,e6,e6,e6,et (I) (et (congrArg (λ q=>iF l0 r d a q c f g) T) (et (ip aj) (et (iN au) (et (ae ah) (et (ae G) (ip p))))))⟩) (by show l0.length - (c+1) < l0.length - c; omega)
 refine jF p (IU (bN (Iq (Il (fw (vJ (c+1)) (Ir (e:=C3.wrap ((c:Int)+1)) yk f0) (Mz rfl (C4 ?_)))))))
 have aP:=h.px [] [0,6] []
 exact II (c+1,P,Q,f,R,S,g) ⟨rfl,rfl,rfl,rfl,rfl,rfl,rfl,rfl,rfl,rfl,rfl,rfl,rfl,rfl,rfl,rfl,trivial⟩ (F.2 ⟨aP,e6,e6,e6,e6,et (I) (et (congrArg (λ q=>iF l0 r d a q c f g) T) (et (ip aj) (et (iN au) (et (ae ah) (et (ae G) (fP p))))))⟩) (by show l0.length - (c+1) < l0.length - c; omega)
 refine GY.do 12 rfl e7 (Jb (cs:= [.string ⟨v6 []⟩, .string ⟨v6 []⟩]) (t:=38) bX rfl rfl (λ _=>by kernel_rfl) ?_)
 intro dx iE fF
 have dz:=fF.pb [0]
 refine⟨.inr ⟨_,dz⟩, ?_⟩
 obtain⟨O,aX⟩:∃ q,kX l0 (c:Int)=q:=⟨_,rfl⟩
 obtain⟨iG,dQ,dR,dS,gQ⟩:=Iu dz
 refine qd 2 rfl (IP U7 rfl (qQ _ _ A0 l0.length c0 l0 (c:Int) O dQ (dR _ bf) rfl e6 e6 aX) ?_)
 rintro _ fC ⟨rfl,dU⟩
 have aQ:=dS _ _ dU
 refine⟨.inr ⟨_,aQ⟩, ?_⟩
 obtain⟨⟨b,B⟩,G⟩:∃ q:aL × Bool,ng O (aL.mk a.aJ a.aR)=q:=⟨_,rfl⟩
 obtain⟨fE,aU,dO,aV,dP⟩:=Iu aQ
 refine qd 8 rfl (IP V1 rfl (ut _ _ O (aL.mk a.aJ a.aR) b B aU G) ?_)
 rintro _ cu ⟨rfl,aW⟩
 have U:=aV _ _ aW
 refine⟨.inr ⟨_,U⟩, ?_⟩
 refine qv 9 rfl rfl (qk (.agg (aL.cells b).toArray) 10 rfl (qk (.bool B) 11 rfl ?_))
 have aB:=U.pf [6]
 refine qe 13 rfl (Do.store (vs:=(aL.cells b)) (o:=0) aB rfl rfl M9 rfl rfl rfl rfl ?_)
 intro cz aC
 have h:=aC.pb [0]
 refine⟨.inr ⟨_,h⟩, ?_⟩
 refine qa 14 rfl rfl (qn (Iq (sr (Mn rfl ?_))))
 rcases Ls (B) with p | p
 refine jT p (sr (Kz (vP j 1) (Lz (.slice P f.length Q) h 2 R6 (Kz (vP u 0) (Lz (vI a.av) h 1 C2 (Kz (vP dx 0) (Lz (.string ⟨v6 b.aJ⟩) h 6 C0 (Kz (vP dx 1) (Lz (.string ⟨v6 b.aR⟩) h 6 C0 (Kz (vP u 5) (Lz (vI a.aV) h 1 C2 (Kz (.agg #[vI a.av, .string ⟨v6 []⟩, .string ⟨v6 []⟩, .string ⟨v6 b.aJ⟩, .string ⟨v6 b.aR⟩,vI a.aV]) ?_))))))))))))
 refine jV [vI a.av, .string ⟨v6 []⟩, .string ⟨v6 []⟩, .string ⟨v6 b.aJ⟩, .string ⟨v6 b.aR⟩,vI a.aV] 72 6 1 h ?_
 intro aD cB C
 replace C:=IX (y:=row aD 1 1 (q4 aN.cells ([(aN.mk a.av [] [] b.aJ b.aR a.aV)])) 72 6) rfl C
 have V:=C.pf [5]
 refine WL.do rfl (IW (k:=f.length) (m:=1) (mG) V rfl rfl (gN F2 (V.rds (i:=1) rfl) (dX aN.one ([(aN.mk a.av [] [] b.aJ b.aR a.aV)]))) rfl e6 (s:=s0 (f++ [(aN.mk a.av [] [] b.aJ b.aR a.aV)])) f7 (r5).symm ?_)
 intro W X cK aF
 have bC:s0 (f++ [(aN.mk a.av [] [] b.aJ b.aR a.aV)])=f.length+1:=by simp only [o2,s1,E7]
 refine Kz (vP j 1) ?_
 have aG:=aF.pf [4]
 refine df [.slice W (s0 (f++ [(aN.mk a.av [] [] b.aJ b.aR a.aV)])) X] 1 aG U9 ?_
 intro cO Y
 refine nt (Il (Kz (vP j 2) (Lz (.slice R g.length S) Y 0 D4 (Mz rfl ?_))))
 refine jV [vJ d] 3 1 1 Y ?_
 intro aH cZ E
 replace E:=IX (y:=row aH 1 1 (q4 (eI .i64) ([(d:Int)])) 3 1) rfl E
 have Z:=E.pf [7]
 refine WL.do rfl (IW (k:=g.length) (m:=1) (mq) Z rfl rfl (gN y4 (Z.rds (i:=1) rfl) (dX qB ([(d:Int)]))) rfl e6 (s:=s0 (g++ [(d:Int)])) f7 (r5).symm ?_)
 intro aa af di aI
 have bD:s0 (g++ [(d:Int)])=g.length+1:=by simp only [o2,s1,E7]
 refine Kz (vP j 2) ?_
 have aJ:=aI.pf [2]
 refine df [.slice aa (s0 (g++ [(d:Int)])) af] 2 aJ V0 ?_
 intro dm aK
 refine C4 (bN (Iq (Il (fw (vJ (c+1)) (Ir (e:=C3.wrap ((c:Int)+1)) yk f0) (Mz rfl (C4 ?_))))))
 have aO:=aK.pk [6,0,7,3,1]
 exact II (c+1,W,X,(f++ [(aN.mk a.av [] [] b.aJ b.aR a.aV)]),aa,af,(g++ [(d:Int)])) ⟨rfl,rfl,rfl,rfl,rfl,rfl,rfl,rfl,rfl,rfl,rfl,rfl,rfl,rfl,rfl,rfl,trivial⟩ (F.2 ⟨aO,e6,e6,e6,e6,et (I) (et (congrArg (λ q=>iF l0 r d a q c f g) T) (et (ip aj) (et (iN au) (et (ae aX) (et (ae G) (ip p))))))⟩) (by show l0.length - (c+1) < l0.length - c; omega)
 refine jF p (IU (bN (Iq (Il (fw (vJ (c+1)) (Ir (e:=C3.wrap ((c:Int)+1)) yk f0) (Mz rfl (C4 ?_)))))))
 have aP:=h.px [] [0,6] []
 exact II (c+1,P,Q,f,R,S,g) ⟨rfl,rfl,rfl,rfl,rfl,rfl,rfl,rfl,rfl,rfl,rfl,rfl,rfl,rfl,rfl,rfl,trivial⟩ (F.2 ⟨aP,e6,e6,e6,e6,et (I) (et (congrArg (λ q=>iF l0 r d a q c f g) T) (et (ip aj) (et (iN au) (et (ae aX) (et (ae G) (fP p))))))⟩) (by show l0.length - (c+1) < l0.length - c; omega)
 refine jT (dT aj) (C5 (IC (IK (Iq (Il (fw (vJ (c+1)) (Ir (e:=C3.wrap ((c:Int)+1)) yk f0) (Mz rfl (C4 ?_))))))))
 have fG:=bn.px [] [0] []
 exact II (c+1,P,Q,f,R,S,g) ⟨rfl,rfl,rfl,rfl,rfl,rfl,rfl,rfl,rfl,rfl,rfl,rfl,rfl,rfl,rfl,rfl,trivial⟩ (F.2 ⟨fG,e6,e6,e6,e6,et (I) (et (congrArg (λ q=>iF l0 r d a q c f g) T) (iN aj))⟩) (by show l0.length - (c+1) < l0.length - c; omega)
 refine jF (dF eB) (C5 (IC ?_))
 have dV:iF l0 r d a l0 0 z A=(f,g):=et (I) (et (congrArg (λ q=>iF l0 r d a q c f g) (dZ (ls:=l0) (i:=c) e6)) rfl)
 refine IC (IK (bN (Iq (Il (fw (vJ (d+1)) (Ir (e:=C3.wrap ((d:Int)+1)) yk f0) (Mz rfl (C4 ?_)))))))
 have fH:=bu.px [] [0] []
 exact II (d+1,P,Q,f,R,S,g) ⟨rfl,rfl,rfl,rfl,rfl,rfl,rfl,trivial⟩ (bq.2 ⟨fH,e6,e6,et (bK) (et (congrArg (λ q=>l5 l0 r q d z A) ek) (ae dV))⟩) (by show x.length - (d+1) < x.length - d; omega)
 refine jF (dF ed) (C5 (IC ?_))
 have dW:l5 l0 r x 0 [] []=(z,A):=et (bK) (et (congrArg (λ q=>l5 l0 r q d z A) (dZ (ls:=x) (i:=d) e6)) rfl)
 refine IC (IK (Iq (sr (La ([vI r, .slice ax z.length ay, .slice az A.length aA]) bg 0 V2 U8 ?_))))
 have fI:=bg.pf [1]
 refine df [vI r, .slice ax z.length ay, .slice az A.length aA] 0 fI U8 ?_
 intro iH dB
 refine nt (rt (Fin.res (oo rfl rfl (IJ (cs:= [vI r, .slice ax z.length ay, .slice az A.length aA]) V2 U8 ((dB.cls (i:=0) rfl).lit (k:=0) (m:=3) rfl))) ?_))
 have fJ:=dB.pk [2,3]
 obtain rfl:=zj hr zq1
 exact⟨ax,ay,az,aA,rfl,fJ⟩
def lu (l0:List aM) (l1:List aN):Nat->List jA->Nat->(List jA)
  | 0,b,a=>default
  | d+1,b,a=>if(a:Int)<=4 then bnd (yu l0 (a:Int) l1) λ c=>if(c.aB.ls.length:Int) > 0 then lu l0 l1 d (b++ [c]) (a+1) else lu l0 l1 d b (a+1) else b
def sS (l0:List aM) (l1:List aN):(List jA) × Int:=
 bnd (pG l0) λ a=>if a=0 then bnd (rU l1) λ b=>if b=0 then bnd (lu l0 l1 ((5 - 1)+1) [] 1) λ sLrbtbtL=>(sLrbtbtL,0) else(([]:List jA),b) else(([]:List jA),a)
theorem CE (w D S n0 U l0 T n1 V l1 r0 r1) (H:Own w D w []) (W:Ro w D λ w'=>aY w' 2 S n0 (q4 aM.cells l0)) (aU:n0=l0.length) (bR:l0.length *24<=211106232532992) (X:Ro w D λ w'=>aY w' 6 T n1 (q4 aN.cells l1)) (aV:n1=l1.length) (bS:l1.length<=9223372036854775807) (hr:sS l0 l1=(r0,r1)):
    Calls v5 16 #[.slice S n0 U, .slice T n1 V] w (dA λ v w'=> ∃ B0 b0 e0,v= .tuple #[.slice B0 r0.length b0,vI r1]/\Own w D w' [row B0 r0.length b0 (q4 dQ.cells e0) 70 3,sepL (q4 dQ.own e0)]/\(List.map dQ.abs e0=r0)):=by
 unfold sS at hr
 subst aU aV
 refine cb Tryz.func16 ?_
 refine sr (Az rfl (An rfl (Ik (sr (Mz rfl ?_)))))
 obtain⟨r,o⟩:∃ q,pG l0=q:=⟨_,rfl⟩
 obtain⟨bT,Y,Z,aa,bI⟩:=Iu H
 refine cl Tryz.call31 (wu _ _ S l0.length U l0 r Y (Z _ W) rfl e6 o) ?_
 rintro _ af ⟨rfl,ag,M⟩
 have ah:=aa _ _ ag
 replace M: ¬ (r=0)\/(1<=l0.length/\l0.length<=6):=M
 refine Ar rfl (Mz rfl (fw (.bool (decide (¬ (r=0)))) (IM (e:= !(decide (r=0))) yk decide_not.symm) (nt ?_)))
 by_cases x:r=0
 refine jF (dF (Lr x)) (sk (Ik (sr (Mz rfl ?_))))
 obtain⟨t,z⟩:∃ q,rU l1=q:=⟨_,rfl⟩
 obtain⟨bU,ai,aj,ak,bJ⟩:=Iu ah
 refine cl Tryz.call32 (A9 _ _ T l1.length V l1 t ai (aj _ X) rfl e6 z) ?_
 rintro _ I ⟨rfl,au,N⟩
 have av:=ak _ _ au
 replace N: ¬ (t=0)\/l1.length<=24:=N
 refine Ar rfl (Mz rfl (fw (.bool (decide (¬ (t=0)))) (IM (e:= !(decide (t=0))) yk decide_not.symm) (nt ?_)))
 by_cases J:t=0
 refine jF (dF (Lr J)) (sk (sr (An rfl (Ik (sr (An rfl (bo ?_)))))))
 have aX:Own w D I [sepL (q4 dQ.own [])]:=av.sepNil
 have aZ:Own w D I [row none 0 0 (q4 dQ.cells []) 70 3,sepL (q4 dQ.own [])]:=aX.free (eP 70 3)
 have bf:=aZ.pf []
 obtain⟨bg,p⟩:=G8 λ A (B:Nat) l c (b:Nat) (C:Nat) w'=>Own w D w' [row A c.length B (q4 dQ.cells l) 70 3,sepL (q4 dQ.own l)]/\List.map dQ.abs l=c/\(1<=b/\b<=5/\c.length<=b)/\5 - b < C/\lu l0 l1 ((5 - 1)+1) [] 1=lu l0 l1 C c b
 refine C1 (λ i:(Option Addr) × Nat × (List dQ) × (List jA) × Nat × Nat=> [(8, .slice i.1 i.2.2.2.1.length i.2.1),(9,vJ i.2.2.2.2.1),(5,vI 0),(4, .slice none 0 0),(0, .slice S l0.length U),(1, .slice T l1.length V)]) bg (λ i=>i.2.2.2.2.2) (none,0, [], [],1,(5 - 1)+1) ⟨rfl,rfl,rfl,rfl,rfl,rfl,trivial⟩ (p.2 ⟨bf,(show List.map dQ.abs []=[]/\(1<=1/\1<=5/\0<=1)/\5 - 1 < ((5 - 1)+1)/\lu l0 l1 ((5 - 1)+1) [] 1=lu l0 l1 ((5 - 1)+1) [] 1 from ⟨by exact rfl,e6,e6,rfl⟩)⟩) ?_
 rintro ⟨A,B,l,c,b,C⟩ bV ax
 obtain⟨ay,n,bK,bL,E⟩:=p.1 ax
 have bM:=aA n
 obtain⟨u,az⟩:∃ q,C=q+1:=⟨C - 1,e6⟩
 subst az
 refine Ik (sr (Mz rfl (Kz (.bool (decide ((b:Int)<=4))) (nt ?_))))
 by_cases F:(b:Int)<=4
 refine jT (dT F) (sk (Ik (bo (sr (Mz rfl (Mz rfl (Mz rfl ?_)))))))
 obtain⟨a,G⟩:∃ q,yu l0 (b:Int) l1=q:=⟨_,rfl⟩
 obtain⟨bW,aB,O,aC,bO⟩:=Iu ay
 refine cl Tryz.call33 (DF _ _ S l0.length U l0 (b:Int) T l1.length V l1 a aB (O _ W) rfl e6 (O _ X) rfl e6 e6 G) ?_
 rintro _ bX ⟨d,g,h,j,rfl,aD⟩
 have P:=aC _ _ aD
 have bP:=zr 0 P
 have bQ:=zr 1 P
 refine dn [vI 0, .slice none 0 0, .slice none 0 0] 70 P ?_
 intro bi bY bn
 refine df [vI a.bE, .slice d a.aB.ls.length g, .slice h a.aI.ls.length j] 0 bn U8 ?_
 intro bZ K
 refine ns (Kz (vP bi 1) (Lz (.slice d a.aB.ls.length g) K 0 R6 (Kz (vJ a.aB.ls.length) (Kz (.bool (decide ((a.aB.ls.length:Int) > 0))) (nt ?_)))))
 by_cases L:(a.aB.ls.length:Int) > 0
 refine jT (dT L) (Il (Mz rfl (La ([vI a.bE, .slice d a.aB.ls.length g, .slice h a.aI.ls.length j]) K 0 V2 U8 ?_)))
 refine jV [vI a.bE, .slice d a.aB.ls.length g, .slice h a.aI.ls.length j] 70 3 1 K ?_
 intro bq cu Q
 replace Q:=IX (y:=row bq 1 1 (q4 dQ.cells ([(dQ.mk a.bE (G3 d g a.aB.ls) (G3 h j a.aI.ls))])) 70 3) rfl Q
 have aF:=Q.pb [2,3,0,1]
 refine WL.do rfl (IW (k:=c.length) (m:=1) (xe) aF rfl rfl (gN Tryz.underlying66 (aF.rds (i:=4) rfl) (dX dQ.one ([(dQ.mk a.bE (G3 d g a.aB.ls) (G3 h j a.aI.ls))]))) rfl e6 (s:=s0 (c++ [a])) f7 (r5).symm ?_)
 intro bu bv bz bA
 have bB:=bA.pb [0,4,5]
 have bC:Own w D bz (sepL (q4 dQ.own (l++ [(dQ.mk a.bE (G3 d g a.aB.ls) (G3 h j a.aI.ls))]))::_):=bB.sepAdd (L2:= [row d a.aB.ls.length g (q4 aN.cells a.aB.ls) 72 6,row h a.aI.ls.length j (q4 (eI .i64) a.aI.ls) 3 1]) (r5 (f:=dQ.own) (xs:=l) (ys:= [(dQ.mk a.bE (G3 d g a.aB.ls) (G3 h j a.aI.ls))])).symm
 have bD:s0 (c++ [a])=c.length+1:=by simp only [o2,s1,E7]
 have bE:=aA (nu (es:= [(dQ.mk a.bE (G3 d g a.aB.ls) (G3 h j a.aI.ls))]) (ms:= [a]) n rfl)
 refine Az rfl (C4 (bN (Iq (Il (Mz rfl (fw (vJ (b+1)) (Ir (e:=C3.wrap ((b:Int)+1)) yk f0) (Az rfl (C4 ?_))))))))
 have aG:=bC.pk [1,0]
 exact II (bu,bv,(l++ [(dQ.mk a.bE (G3 d g a.aB.ls) (G3 h j a.aI.ls))]),(c++ [a]),b+1,u) ⟨rfl,rfl,rfl,rfl,rfl,rfl,trivial⟩ (p.2 ⟨aG,by exact(nu (es:= [(dQ.mk a.bE (G3 d g a.aB.ls) (G3 h j a.aI.ls))]) (ms:= [a]) n rfl),e6,e6,et (E) (et (ip F) (et (ae G) (ip L)))⟩) (by show u < u+1; omega)
 refine jF (dF L) (IU (bN (Iq (Il (Mz rfl (fw (vJ (b+1)) (Ir (e:=C3.wrap ((b:Int)+1)) yk f0) (Az rfl (C4 ?_))))))))
 have aH:=K.pk [3,4]
 exact II (A,B,l,c,b+1,u) ⟨rfl,rfl,rfl,rfl,rfl,rfl,trivial⟩ (p.2 ⟨aH,by exact n,e6,e6,et (E) (et (ip F) (et (ae G) (iN L)))⟩) (by show u < u+1; omega)
 refine jF (dF F) (C5 (IC ?_))
 have R:lu l0 l1 ((5 - 1)+1) [] 1=c:=et (E) (iN F)
 refine IC (IK (Iq (sr (Mz rfl (Az rfl (An rfl (rt (Fin.res (lH rfl rfl rfl) ?_))))))))
 have aI:=ay.pf []
 obtain⟨rfl,rfl⟩:=fD (zj hr zq5)
 exact⟨A,B,l,rfl,aI,n⟩
 refine jT (dT J) (sr (Mz rfl (Az rfl (An rfl (rt (tR (Fin.res (lH rfl rfl rfl) ?_)))))))
 have aJ:Own w D I [sepL (q4 dQ.own [])]:=av.sepNil
 have aK:Own w D I [row none 0 0 (q4 dQ.cells []) 70 3,sepL (q4 dQ.own [])]:=aJ.free (eP 70 3)
 have aL:=aK.pf []
 obtain⟨rfl,rfl⟩:=fD (zj hr zq4)
 exact⟨none,0, [],rfl,aL,rfl⟩
 refine jT (dT x) (sr (Mz rfl (Az rfl (An rfl (rt (tR (Fin.res (lH rfl rfl rfl) ?_)))))))
 have aO:Own w D af [sepL (q4 dQ.own [])]:=ah.sepNil
 have aP:Own w D af [row none 0 0 (q4 dQ.cells []) 70 3,sepL (q4 dQ.own [])]:=aO.free (eP 70 3)
 have aQ:=aP.pf []
 obtain⟨rfl,rfl⟩:=fD (zj hr zq2)
 exact⟨none,0, [],rfl,aQ,rfl⟩
def kw (l0:List aM) (e:Int) (f:aL):List aM->Nat->Unit ⊕ Bool
  | [],a=>B7 ()
  | g::b,a=>if g.bE=e then bnd (kX l0 (a:Int)) λ c=>bnd (nz c f) λ d=>if d=true then B9 (true) else kw l0 e f b (a+1) else kw l0 e f b (a+1)
def lv (l0:List aM) (d:Int) (c:aL):Bool:=
 bnd (pG l0) λ a=>if a=0 then bnd (gF c) λ b=>if b=0 then lp (kw l0 d c l0 0) λ _=>false else false else false
theorem wV (w D n n0 B l0 l) (d:aL) (r0) (H:Own w D w []) (o:Ro w D λ w'=>aY w' 2 n n0 (q4 aM.cells l0)) (ak:n0=l0.length) (aS:l0.length *24<=211106232532992) (hr:lv l0 l d=r0):
    Calls v5 18 #[.slice n n0 B,vI l, .agg (aL.cells d).toArray] w (dA λ v w'=>v= .bool r0/\Own w D w' []):=by
 unfold lv at hr
 subst ak
 refine cb Tryz.func18 ?_
 refine sr ?_
 refine dn (aL.cells d) 38 H ?_
 intro F aT au
 refine An rfl (Ik (sr (Mz rfl ?_)))
 obtain⟨p,f⟩:∃ q,pG l0=q:=⟨_,rfl⟩
 obtain⟨aU,L,M,N,aJ⟩:=Iu au
 refine cl Tryz.call31 (wu _ _ n l0.length B l0 p L (M _ o) rfl e6 f) ?_
 rintro _ aV ⟨rfl,O,C⟩
 have G:=N _ _ O
 replace C: ¬ (p=0)\/(1<=l0.length/\l0.length<=6):=C
 refine fw (.bool (decide (¬ (p=0)))) (IM (e:= !(decide (p=0))) yk decide_not.symm) (Mz rfl ?_)
 by_cases c:p=0
 refine gw (.agg (aL.cells d).toArray) (dF (Lr c)) (IB rfl (IJ (cs:=(aL.cells d)) N0 M9 ((G.cls (i:=0) rfl).lit (k:=0) (m:=2) rfl))) ?_
 obtain⟨r,g⟩:∃ q,gF d=q:=⟨_,rfl⟩
 obtain⟨aW,P,aK,Q,aN⟩:=Iu G
 refine pW (dF (Lr c)) U4 (lZ _ _ d r P g) ?_
 rintro _ aX ⟨rfl,R⟩
 have S:=Q _ _ R
 refine gw (.bool (decide (¬ (r=0)))) (dF (Lr c)) (IM (e:= !(decide (r=0))) yk decide_not.symm) (fw (.bool (decide (¬ (r=0)))) (Io rfl (dF (Lr c)) rfl) (nt ?_))
 by_cases s:r=0
 refine jF (dF (Lr s)) (sk (Ik (sr (Mz rfl (Kz (vJ l0.length) (Mn rfl (bo ?_)))))))
 have av:=S.pf []
 obtain⟨ax,h⟩:=lF λ (a:Nat) w'=>Own w D w' [blk F (aL.cells d) 38]/\a<=l0.length/\kw l0 l d l0 0=kw l0 l d (r4 a l0) a
 refine C1 (λ i:Nat=> [(6, .bool false),(19,vJ i),(18,vJ l0.length),(17, .slice n l0.length B),(5,vP F 0),(0, .slice n l0.length B),(1,vI l)]) ax (λ i=>l0.length - i) 0 ⟨rfl,rfl,rfl,rfl,rfl,rfl,rfl,trivial⟩ (h.2 ⟨av,e6,rfl⟩) ?_
 rintro a aZ T
 obtain⟨t,aO,j⟩:=h.1 T
 refine sr (Kz (.bool (decide ((a:Int) < (l0.length:Int)))) (nt (Ik ?_)))
 by_cases U:(a:Int) < (l0.length:Int)
 obtain⟨u,E⟩:=dh (ls:=l0) (i:=a) aM.len f2 (t.ro o) e9
 have x:=drop_at E
 refine jT (dT U) (sk (Ik (bo (sr (Mz rfl (fw (.pointer (some ⟨ab n,ao n+a *2,none⟩)) (Iz (nE) rfl rfl ((t.ro o).addr (i:=a) e6) e6) (fw (.agg (aM.cells u).toArray) (IB rfl (IJ (cs:=(aM.cells u)) U6 P3 ((t.ro o).elem aM.len E f2))) ?_)))))))
 refine dn [.string ⟨v6 []⟩,vI 0] 89 t ?_
 intro ay bf az
 refine Az rfl ?_
 refine df (aM.cells u) 0 az P3 ?_
 intro bg aA
 refine nt (Ik ?_)
 refine pM [] (IE (bv.block (IE (IE (bv.block (IE IQ)))))) aA ?_
 intro bi V
 refine qp ay 1 0 rfl (ql 1 rfl 0 C2 rfl rfl rfl (qv 2 rfl rfl (qk (.bool (decide (u.bE=l))) 3 rfl (qv 4 rfl rfl ?_))))
 by_cases b:u.bE=l
 refine Iy (v:= .slice n l0.length B) (rs:= []) 5 rfl rfl rfl (dT b) e7 (λ _ _=>IA rfl) (Iy (v:=vJ a) (rs:= []) 6 rfl rfl rfl (dT b) e7 (λ _ _=>IA rfl) (Iy (v:= .agg (aL.cells d).toArray) (rs:= []) 8 rfl rfl rfl (dT b) e7 (λ _ ⟨_,H9⟩=>IB rfl (IJ (cs:=(aL.cells d)) N0 M9 ((H9.cls (i:=1) rfl).lit (k:=0) (m:=2) rfl))) ?_))
 obtain⟨I,y⟩:∃ q,kX l0 (a:Int)=q:=⟨_,rfl⟩
 obtain⟨bq,W,X,Y,aP⟩:=Iu V
 refine Jl 7 rfl rfl rfl (dT b) e7 (IP U7 rfl (qQ _ _ n l0.length B l0 (a:Int) I W (X _ o) rfl e6 e6 y) ?_)
 rintro _ bu ⟨rfl,Z⟩
 have aa:=Y _ _ Z
 refine⟨.inr ⟨_,aa⟩, ?_⟩
 obtain⟨J,z⟩:∃ q,nz I d=q:=⟨_,rfl⟩
 obtain⟨bz,af,aQ,ag,aR⟩:=Iu aa
 refine Jl 9 rfl rfl rfl (dT b) e7 (IP Tryz.call37 rfl (zy _ _ I d J af z) ?_)
 rintro _ bA ⟨rfl,ah⟩
 have K:=ag _ _ ah
 refine⟨.inr ⟨_,K⟩, ?_⟩
 refine qt (v:= .bool J) 10 rfl (λ _ _=>Iw rfl (dT b) rfl) (qn (Iq ?_))
 rcases Ls (J) with A | A
 refine jT A (sr (An rfl (rt (bR (tR (tR (bR (tR (rs ?_)))))))))
 have aB:=K.pk []
 obtain rfl:_=true:=zj hr (et (ae f) (et (ip c) (et (ae g) (et (ip s) (gL (et (j) (et (congrArg (λ q=>kw l0 l d q a) x) (et (ip b) (et (ae y) (et (ae z) (ip A)))))))))))
 exact⟨rfl,aB⟩
 refine jF A (IU (bN (Iq (Il (fw (vJ (a+1)) (Ir (e:=C3.wrap ((a:Int)+1)) yk f0) (Mz rfl (C4 ?_)))))))
 have aC:=K.pk [1]
 exact II (a+1) ⟨rfl,rfl,rfl,rfl,rfl,rfl,rfl,trivial⟩ (h.2 ⟨aC,e6,et (j) (et (congrArg (λ q=>kw l0 l d q a) x) (et (ip b) (et (ae y) (et (ae z) (fP A)))))⟩) (by show l0.length - (a+1) < l0.length - a; omega)
 refine Ip (rs:= []) 5 rfl rfl rfl (dF b) e7 (Ip (rs:= []) 6 rfl rfl rfl (dF b) e7 (Ip (rs:= []) 7 rfl rfl rfl (dF b) e7 (Ip (rs:= []) 8 rfl rfl rfl (dF b) e7 (Ip (rs:= []) 9 rfl rfl rfl (dF b) e7 (qt (v:= .bool false) 10 rfl (λ _ _=>Io rfl (dF b) rfl) (qn (Iq (jf (IU (bN (Iq (Il (fw (vJ (a+1)) (Ir (e:=C3.wrap ((a:Int)+1)) yk f0) (Mz rfl (C4 ?_)))))))))))))))
 have aD:=V.pk [1]
 exact II (a+1) ⟨rfl,rfl,rfl,rfl,rfl,rfl,rfl,trivial⟩ (h.2 ⟨aD,e6,et (j) (et (congrArg (λ q=>kw l0 l d q a) x) (iN b))⟩) (by show l0.length - (a+1) < l0.length - a; omega)
 refine jF (dF U) (C5 (IC ?_))
 have ai:kw l0 l d l0 0=B7 ():=et (j) (et (congrArg (λ q=>kw l0 l d q a) (dZ (ls:=l0) (i:=a) e6)) rfl)
 refine IC (IK (Iq (sr (An rfl (rt (rs ?_))))))
 have aF:=t.pk []
 obtain rfl:_=false:=zj hr (et (ae f) (et (ip c) (et (ae g) (et (ip s) (mF ai)))))
 exact⟨rfl,aF⟩
 refine jT (dT s) (sr (An rfl (rt (tR (rs ?_)))))
 have aG:=S.pk []
 obtain rfl:=zj hr zq4
 exact⟨rfl,aG⟩
 refine Sz (dT c) (Sz (dT c) (Sz (dT c) (fw (.bool true) (Iw rfl (dT c) rfl) (nt (jt (sr (An rfl (rt (tR (rs ?_))))))))))
 have aH:=G.pk []
 obtain rfl:=zj hr zq2
 exact⟨rfl,aH⟩
end
end Go.Proofs.YtbkagebjhbphaaaGreat
namespace Go.Proofs.YtbkagebjhbphaaaGreat.M
set_option maxRecDepth 100000
set_option linter.unusedVariables false
set_option linter.unusedSimpArgs false
set_option linter.unusedSectionVars false
open List renaming cons_le_cons_iff->V5,cons_lt_cons_iff->V3,le_antisymm->V4
abbrev L:=List UInt8
def K (k:L):Prop:=1<=k.length/\k.length<=12
def R (l h:L):Prop:=(l= []\/K l)/\(h= []\/(K h/\l < h))
def B (k h:L):Prop:=h= []\/k < h
def H (l h k:L):Prop:=R l h/\K k/\l<=k/\B k h
def mx (a b:L):L:=if a < b then b else a
def ls (a b:L):L:=if a= [] then b else if b= [] then a else if b < a then b else a
def M (l1 a b c:L):Prop:=R l1 a/\R b c/\B (mx l1 b) (ls a c)
theorem nil_le (a:L): []<=a:=List.nil_le a
theorem not_lt_nil (a:L): ¬ a < []:=List.not_lt_nil a
theorem nil_lt {a:L} (h:a≠ []): [] < a:=by
  cases a with
  | nil=>exact absurd rfl h
  | cons x xs=>exact List.nil_lt_cons x xs
theorem H5 {k:L} (h:K k):k≠ []:=by rintro rfl; simp [K] at h
theorem mx_comm (a b:L):mx a b=mx b a:=by unfold mx; grind
theorem ls_comm (a b:L):ls a b=ls b a:=by unfold ls; grind
theorem M_comm (a b c d:L):M a b c d↔M c d a b:=by unfold M; rw [mx_comm,ls_comm]; constructor <;> (rintro ⟨e,f,g⟩; exact⟨f,e,g⟩)
theorem le_mx (k a b:L):mx a b<=k↔a<=k/\b<=k:=by unfold mx; grind
theorem R_meet {l1 a d b:L} (h:M l1 a d b):R (mx l1 d) (ls a b):=by
  obtain⟨⟨f,g⟩,⟨i,j⟩,c⟩:=h
  refine⟨?_, ?_⟩
  . unfold mx; split <;> assumption
  . rcases c with c | c
    . exact .inl c
    . by_cases e:ls a b= []
      . exact .inl e
      . refine .inr ⟨?_,c⟩
        unfold ls at e ⊢
        grind
theorem Et (a b c:L):mx (mx a b) c=mx a (mx b c):=by unfold mx; grind
theorem Eu (a b c:L):ls (ls a b) c=ls a (ls b c):=by unfold ls; grind
theorem parts {a b c d e f:L} (g:M a b c d) (i:M c d e f):(M (mx a c) (ls b d) e f↔M a b (mx c e) (ls d f)):=by
  have j:=R_meet g
  have k:=R_meet i
  unfold M
  rw [Et,Eu]
  exact⟨fun⟨_,_,h⟩=>⟨g.1,k,h⟩,fun⟨_,_,h⟩=>⟨j,i.2.1,h⟩⟩
def C (l1 c a b:L):Prop:=M l1 c a b/\mx l1 a=a/\ls c b=b
theorem EQ (a b:L):mx a b=b↔a<=b:=by unfold mx; grind
theorem yw (a b:L):ls a b=b↔(a= []\/(b≠ []/\b<=a)):=by
  have:=nil_le a
  have:=not_lt_nil a
  unfold ls; grind
theorem C_iff (l1 c e d:L):C l1 c e d↔R l1 c/\R e d/\l1<=e/\(c= []\/(d≠ []/\d<=c)):=by
  unfold C
  rw [EQ,yw]
  constructor
  . rintro ⟨⟨g,f,_⟩,a,b⟩; exact⟨g,f,a,b⟩
  . rintro ⟨g,f,a,b⟩
    refine⟨⟨g,f, ?_⟩,a,b⟩
    rw [(EQ l1 e).2 a,(yw c d).2 b]
    rcases f.2 with h | ⟨_,h⟩
    . exact .inl h
    . exact .inr h
theorem cut {l h at_ k:L} (r:R l h) (ka:K at_) (hl:l < at_) (hb:B at_ h):(H l h k↔(H l at_ k\/H at_ h k))/\¬ (H l at_ k/\H at_ h k):=by
  have c:R l at_:=⟨r.1, .inr ⟨ka,hl⟩⟩
  have d:R at_ h:=⟨.inr ka,by
    rcases r.2 with e | ⟨e,_⟩
    . exact .inl e
    . rcases hb with e' | e'
      . exact .inl e'
      . exact .inr ⟨e,e'⟩⟩
  have hne:=H5 ka
  unfold H B at *
  refine⟨⟨?_, ?_⟩, ?_⟩
  . rintro ⟨_,kk,a,b⟩
    by_cases hk:k < at_
    . exact .inl ⟨c,kk,a, .inr hk⟩
    . exact .inr ⟨d,kk,List.not_lt.1 hk,b⟩
  . rintro (⟨_,kk,a,b⟩ | ⟨_,kk,a,b⟩)
    . refine⟨r,kk,a, ?_⟩; grind
    . refine⟨r,kk, ?_,b⟩; grind
  . rintro ⟨⟨_,_,_,b⟩,⟨_,_,a,_⟩⟩; grind
theorem lt_snoc0:∀ (o k:L),o < k++ [0]↔o<=k
  | [], []=>by simp [nil_lt]
  | [],y::ys=>by simp [nil_le]
  | x::xs, []=>by
    simp only [List.nil_append]
    constructor
    . intro h
      rcases V3.1 h with h | ⟨_,h⟩
      . exact absurd h (by simp)
      . exact absurd h (not_lt_nil _)
    . intro h; exact absurd (V4 h (nil_le _)) (by simp)
  | x::xs,y::ys=>by
    rw [List.cons_append,V3,V5,lt_snoc0 xs ys]
def nx:L->L
  | []=> []
  | a::k=>if nx k= [] then(if a.toNat=255 then [] else [a+1]) else a::nx k
theorem Fw {a b:UInt8} (ha:a.toNat≠255) (h:b < a+1):b<=a:=by
  have:=a.toNat_lt
  have e:(a+1).toNat=a.toNat+1:=by rw [UInt8.toNat_add]; show (a.toNat+1) % 256=_; omega
  rw [UInt8.lt_iff_toNat_lt,e] at h
  rw [UInt8.le_iff_toNat_le]; omega
theorem nx_only:∀ (k o:L),o.length<=k.length->k<=o->(nx k= []\/o < nx k)->o=k
  | [],o,hl,_,_=>List.eq_nil_of_length_eq_zero (by simpa using hl)
  | a::k, [],_,h,_=>by exact absurd (V4 h (nil_le _)) (by simp)
  | a::k,b::o,hl,h,hn=>by
    have hl':o.length<=k.length:=by simpa using hl
    rw [V5] at h
    unfold nx at hn
    by_cases e:nx k= []
    . rw [if_pos e] at hn
      by_cases ea:a.toNat=255
      . rcases h with h | ⟨rfl,h⟩
        . exfalso
          have:=b.toNat_lt
          rw [UInt8.lt_iff_toNat_lt] at h; omega
        . rw [nx_only k o hl' h (.inl e)]
      . rw [if_neg ea] at hn
        rcases hn with hn | hn
        . simp at hn
        . rcases h with h | ⟨rfl,h⟩
          . exfalso
            rcases V3.1 hn with hn | ⟨_,hn⟩
            . have:=Fw ea hn
              rw [UInt8.lt_iff_toNat_lt] at h
              rw [UInt8.le_iff_toNat_le] at this; omega
            . exact not_lt_nil _ hn
          . rw [nx_only k o hl' h (.inl e)]
    . rw [if_neg e] at hn
      rcases hn with hn | hn
      . simp at hn
      . rcases V3.1 hn with c | ⟨rfl,c⟩
        . exfalso
          rcases h with h | ⟨rfl,h⟩
          . exact absurd c (UInt8.lt_asymm h)
          . exact UInt8.lt_irrefl _ c
        . rcases h with h | ⟨_,h⟩
          . exact absurd h (UInt8.lt_irrefl _)
          . rw [nx_only k o hl' h (.inr c)]
theorem nx_gt:∀ (k:L),nx k= []\/k < nx k
  | []=> .inl rfl
  | a::k=>by
    unfold nx
    by_cases e:nx k= []
    . rw [if_pos e]
      by_cases ea:a.toNat=255
      . rw [if_pos ea]; exact .inl rfl
      . rw [if_neg ea]
        right
        rw [V3]
        left
        have:=a.toNat_lt
        have e:(a+1).toNat=a.toNat+1:=by rw [UInt8.toNat_add]; show (a.toNat+1) % 256=_; omega
        rw [UInt8.lt_iff_toNat_lt,e]; omega
    . rw [if_neg e]
      right
      rw [V3]
      exact .inr ⟨rfl,(nx_gt k).resolve_left e⟩
theorem nx_len:∀ (k:L),(nx k).length<=k.length
  | []=>Nat.le_refl _
  | a::k=>by
    have:=nx_len k
    unfold nx
    split
    . split <;> simp
    . simp; omega
end Go.Proofs.YtbkagebjhbphaaaGreat.M
namespace Go.Proofs.YtbkagebjhbphaaaGreat
set_option maxRecDepth 100000
set_option linter.unusedVariables false
set_option linter.unusedSimpArgs false
set_option linter.unusedSectionVars false
open List renaming cons_append->V6,drop->r4,getElem?_drop->m7,getElem?_eq_getElem->p7,getElem?_eq_some_iff->p6,length->s0,length_drop->o1,length_nil->E7,take->r3
open Nat renaming le_refl->o4
theorem GL (a:List UInt8): ¬ a < a:=List.lt_irrefl a
theorem H6 {a b c:List UInt8} (d:a < b) (e:b < c):a < c:=List.lt_trans d e
theorem sN {a b:List UInt8}: ¬ a < b↔b<=a:=List.not_lt
theorem CF {a b:List UInt8}: ¬ a<=b↔b < a:=List.not_le
theorem GM {a:List UInt8}: []<=a:=List.nil_le a
def rV (k:List UInt8):Prop:=1<=s0 k/\s0 k<=12
theorem zH (k:List UInt8):dR k=iO k:=rfl
theorem sO {k:List UInt8}:dR k=0↔rV k:=by
  unfold dR rV
  split
  . constructor
    . intro h; cases h
    . intro h; omega
  . split
    . constructor
      . intro h; cases h
      . intro h; omega
    . exact⟨λ _=>e6,λ _=>rfl⟩
theorem CG {k:List UInt8}:dR k=0\/dR k=20:=by
  unfold dR
  split
  . exact .inr rfl
  . split
    . exact .inr rfl
    . exact .inl rfl
theorem tV {k:List UInt8}:k≠ []↔1<=k.length:=by cases k <;> simp
theorem yx {n:Int}:mr n=true↔1<=n/\n<=4:=by
  unfold mr
  by_cases h:n >= 1
  . rw [if_pos h,decide_eq_true_eq]; omega
  . rw [if_neg h]; constructor
    . intro q; cases q
    . intro q; omega
theorem BX (l:List aM):∀ (q:List aM) (k:Nat),fo l q k=iZ l q k
  | [],k=>rfl
  | x::q,k=>by
    rw [fo,iZ]
    simp only [dw, <- zH,BX l q]
    by_cases h:mr x.bE=true
    . have a:=yx.1 h
      rw [if_pos h,if_neg (show ¬ x.bE < 1 by omega),if_neg (show ¬ x.bE > 4 by omega)]
    . have a:x.bE < 1\/x.bE > 4:=by
        have: ¬ (1<=x.bE/\x.bE<=4):=λ q=>h (yx.2 q)
        omega
      rw [if_neg h]
      rcases a with a | a
      . rw [if_pos a]
      . by_cases b:x.bE < 1
        . rw [if_pos b]
        . rw [if_neg b,if_pos a]
theorem DI (l:List aM):jc l=pG l:=by
  unfold jc pG
  simp only [dw,BX]
theorem Ba (l:List aM) (i:Int):kv l i=kX l i:=rfl
structure oZ (l:List aM):Prop where
  len:1<=l.length/\l.length<=6
  first:∀ x,l[0]? =some x->x.aJ= []
  CQ:∀ x ∈ l,1<=x.bE/\x.bE<=4
  key:∀ (i:Nat) (x:aM),l[i+1]? =some x->rV x.aJ
  rise:∀ (i:Nat) (x y:aM),l[i]? =some x->l[i+1]? =some y->x.aJ < y.aJ
theorem ER (l:List aM):∀ (q:List aM) (k:Nat),r4 k l=q->(fo l q k= .inl ()\/fo l q k= .inr 170)/\(fo l q k= .inl ()↔
    (∀ x ∈ q,1<=x.bE/\x.bE<=4)/\(∀ (i:Nat) (x:aM),k<=i+1->l[i+1]? =some x->rV x.aJ)/\(∀ (i:Nat) (x y:aM),k<=i+1->l[i]? =some x->l[i+1]? =some y->x.aJ < y.aJ))
  | [],k,h=>by
    have hl:l.length<=k:=by
      have:=congrArg s0 h
      rw [o1] at this
      simp only [E7] at this
      omega
    refine⟨.inl rfl,λ _=>⟨λ x hx=>(by cases hx),λ i x hi hx=> ?_,λ i x y hi hx hy=> ?_⟩,λ _=>rfl⟩
    . have:=(p6.1 hx).1; omega
    . have:=(p6.1 hy).1; omega
  | x::q,k,h=>by
    have hx:l[k]? =some x:=by
      have e:(r4 k l)[0]? =some x:=by rw [h]; rfl
      rwa [m7,Nat.add_zero] at e
    have ih:=ER l q (k+1) (by rw [<- List.drop_drop,h]; rfl)
    rw [fo]
    simp only [dw]
    by_cases c:mr x.bE=true
    . rw [if_pos c]
      have hs:=yx.1 c
      by_cases f:((k:Nat):Int) > 0
      . rw [if_pos f]
        obtain⟨j,rfl⟩:∃ j,k=j+1:=⟨k - 1,e6⟩
        obtain⟨y,hy⟩:∃ y,l[j]? =some y:=⟨_,p7 (by have:=(p6.1 hx).1; omega)⟩
        have hd:List.getD l (j+1 - 1) default=y:=by rw [Nat.add_sub_cancel,aT hy]
        rw [hd]
        rcases CG (k:=x.aJ) with e | e
        . rw [if_pos e]
          by_cases d:x.aJ<=y.aJ
          . rw [if_pos d]
            refine⟨.inr rfl,λ q=>(by cases q),λ q=> ?_⟩
            exact absurd (q.2.2 j y x e6 hy hx) (sN.2 d)
          . rw [if_neg d]
            refine⟨ih.1,ih.2.trans ⟨λ q=>⟨λ z hz=> ?_,λ i z hi hz=> ?_,λ i a b hi ha hb=> ?_⟩,λ q=>⟨λ z hz=>q.1 z (.tail _ hz),λ i z hi hz=>q.2.1 i z e6 hz,λ i a b hi ha hb=>q.2.2 i a b e6 ha hb⟩⟩⟩
            . rcases List.mem_cons.1 hz with rfl | hz
              . exact hs
              . exact q.1 z hz
            . by_cases hij:i=j
              . subst hij; rw [hx] at hz; cases hz; exact sO.1 e
              . exact q.2.1 i z e6 hz
            . by_cases hij:i=j
              . subst hij; rw [hx] at hb; cases hb; rw [hy] at ha; cases ha; exact CF.1 d
              . exact q.2.2 i a b e6 ha hb
        . rw [if_neg (by rw [e]; decide)]
          refine⟨.inr rfl,λ q=>(by cases q),λ q=> ?_⟩
          have:=sO.2 (q.2.1 j x e6 hx)
          rw [e] at this; cases this
      . rw [if_neg f]
        obtain rfl:k=0:=e6
        refine⟨ih.1,ih.2.trans ⟨λ q=>⟨λ z hz=> ?_,λ i z hi hz=>q.2.1 i z e6 hz,λ i a b hi ha hb=>q.2.2 i a b e6 ha hb⟩,λ q=>⟨λ z hz=>q.1 z (.tail _ hz),λ i z hi hz=>q.2.1 i z e6 hz,λ i a b hi ha hb=>q.2.2 i a b e6 ha hb⟩⟩⟩
        rcases List.mem_cons.1 hz with rfl | hz
        . exact hs
        . exact q.1 z hz
    . rw [if_neg c]
      exact⟨.inr rfl,λ q=>(by cases q),λ q=>absurd (yx.2 (q.1 x b1)) c⟩
theorem ww {l:List aM}:jc l=0↔oZ l:=by
  unfold jc
  by_cases f:((s0 l:Nat):Int) < 1
  . rw [if_pos f]; exact⟨λ q=>(by cases q),λ q=>by have:=q.len; omega⟩
  rw [if_neg f]
  by_cases g:((s0 l:Nat):Int) > 6
  . rw [if_pos g]; exact⟨λ q=>(by cases q),λ q=>by have:=q.len; omega⟩
  rw [if_neg g,dw]
  obtain⟨x,hx⟩:∃ x,l[0]? =some x:=⟨_,p7 e6⟩
  rw [aT hx]
  by_cases d:x.aJ≠ []
  . rw [if_pos d]; exact⟨λ q=>(by cases q),λ q=>absurd (q.first x hx) d⟩
  rw [if_neg d]
  obtain⟨hb,hL⟩:=ER l l 0 rfl
  have h:lp (fo l l 0) (λ _=>0)=0↔fo l l 0= .inl ():=by
    rcases hb with e | e <;> rw [e]
    . exact⟨λ _=>rfl,λ _=>rfl⟩
    . exact⟨λ q=>(by cases q),λ q=>(by cases q)⟩
  rw [h,hL]
  constructor
  . rintro ⟨a,b,c⟩
    exact⟨e6,λ y hy=>(by rw [hx] at hy; cases hy; exact Decidable.not_not.1 d),a,λ i y hy=>b i y e6 hy,λ i y z hy hz=>c i y z e6 hy hz⟩
  . intro q
    exact⟨q.CQ,λ i y _ hy=>q.key i y hy,λ i y z _ hy hz=>q.rise i y z hy hz⟩
structure BZ (l:List aM) (k:List UInt8) (j:Nat):Prop where
  lt:j < l.length
  iff:∀ (i:Nat) (x:aM),l[i]? =some x->(x.aJ<=k↔i<=j)
theorem oZ.mono {l:List aM} (h:oZ l):∀ (d i:Nat) (x y:aM),l[i]? =some x->l[i+d+1]? =some y->x.aJ < y.aJ
  | 0,i,x,y,hx,hy=>h.rise i x y hx hy
  | d+1,i,x,y,hx,hy=>by
    obtain⟨z,hz⟩:∃ z,l[i+d+1]? =some z:=⟨_,p7 (by have:=(p6.1 hy).1; omega)⟩
    exact H6 (h.mono d i x z hx hz) (h.rise (i+d+1) z y hz hy)
theorem oZ.lt {l:List aM} (h:oZ l) {i j:Nat} {x y:aM} (hx:l[i]? =some x) (hy:l[j]? =some y) (hij:i < j):x.aJ < y.aJ:=
  h.mono (j - i - 1) i x y hx (by rw [show i+(j - i - 1)+1=j by omega]; exact hy)
theorem Fx {a b c:List UInt8} (d:a < b) (e:b<=c):a<=c:=List.le_trans (List.le_of_lt d) e
theorem oZ.pos {l:List aM} (h:oZ l) (k:List UInt8):∃ j,BZ l k j:=by
  have key:∀ n,n<=l.length->1<=n->∃ j,j < n/\∀ (i:Nat) (x:aM),i < n->l[i]? =some x->(x.aJ<=k↔i<=j):=by
    intro n
    induction n with
    | zero=>intro _ a; omega
    | succ n ih=>
      intro hn _
      by_cases a:n=0
      . subst a
        refine⟨0,e6,λ i x hi hx=> ?_⟩
        obtain rfl:i=0:=e6
        rw [h.first x hx]
        exact⟨λ _=>o4 _,λ _=>GM⟩
      . obtain⟨j,hj,hh⟩:=ih e6 e6
        obtain⟨y,hy⟩:∃ y,l[n]? =some y:=⟨_,p7 e6⟩
        by_cases hk:y.aJ<=k
        . refine⟨n,e6,λ i x hi hx=>⟨λ _=>e6,λ _=> ?_⟩⟩
          by_cases hin:i=n
          . subst hin; rw [hy] at hx; cases hx; exact hk
          . exact Fx (h.lt hx hy e6) hk
        . refine⟨j,e6,λ i x hi hx=> ?_⟩
          by_cases hin:i=n
          . subst hin; rw [hy] at hx; cases hx
            exact⟨λ q=>absurd q hk,λ q=>e6⟩
          . exact hh i x e6 hx
  obtain⟨j,hj,hh⟩:=key l.length (o4 _) h.len.1
  exact⟨j,hj,λ i x hx=>hh i x (p6.1 hx).1 hx⟩
theorem yO {l:List aM} {k:List UInt8} {j:Nat} (h:BZ l k j):∀ (q:List aM) (i a:Nat),r4 i l=q->jB k q a i=if i<=j then j else a
  | [],i,a,hd=>by
    have hl:l.length<=i:=by
      have:=congrArg s0 hd
      rw [o1] at this
      simp only [E7] at this
      omega
    rw [if_neg (by have:=h.lt; omega)]; rfl
  | x::q,i,a,hd=>by
    have hx:l[i]? =some x:=by
      have e:(r4 i l)[0]? =some x:=by rw [hd]; rfl
      rwa [m7,Nat.add_zero] at e
    have b:r4 (i+1) l=q:=by rw [<- List.drop_drop,hd]; rfl
    rw [jB]
    by_cases hk:x.aJ<=k
    . have:=(h.iff i x hx).1 hk
      rw [if_pos hk,yO h q (i+1) i b,if_pos this]
      by_cases c:i+1<=j
      . rw [if_pos c]
      . rw [if_neg c]; omega
    . have c: ¬ i<=j:=λ q=>hk ((h.iff i x hx).2 q)
      rw [if_neg hk,yO h q (i+1) a b,if_neg c,if_neg e6]
theorem xB {l:List aM} {k:List UInt8} {j:Nat} (h:BZ l k j):qc l k=((j:Nat):Int):=by
  unfold qc
  rw [dw,yO h l 0 0 rfl,if_pos (Lp _)]
theorem kK {k:List UInt8}:rV k↔M.K k:=Iff.rfl
theorem yP {r:aL}:iB r=0↔M.R r.aJ r.aR:=by
  have a:=sO (k:=r.aJ); have b:=sO (k:=r.aR)
  have la:=tV (k:=r.aJ); have lb:=tV (k:=r.aR)
  have nn:= @sN r.aJ r.aR
  unfold iB M.R
  rw [<- kK, <- kK]
  simp only [bnd]
  by_cases f:r.aJ= []
  . by_cases d:r.aR= []
    . simp [f,d]
    . by_cases c:dR r.aR=0
      . have g:=M.nil_lt d
        have i: ¬ r.aR<= []:=λ q=>sN.2 q g
        simp [f,d,c,b.1 c,g,i]
      . have h3': ¬ rV r.aR:=λ q=>c (b.2 q)
        simp [f,d,c,h3']
  . by_cases e:dR r.aJ=0
    . by_cases d:r.aR= []
      . simp [f,d,e,a.1 e]
      . by_cases c:dR r.aR=0
        . by_cases h:r.aR<=r.aJ
          . simp [f,d,c,e,h,a.1 e,b.1 c]
          . simp [f,d,c,e,h,a.1 e,b.1 c]; grind
        . have h3': ¬ rV r.aR:=λ q=>c (b.2 q)
          simp [f,d,c,e,h3']
    . have h0': ¬ rV r.aJ:=λ q=>e (a.2 q)
      simp [f,e,h0']
theorem CJ {r:aL}:iB r=0\/iB r=21:=by
  unfold iB; simp only [bnd]
  repeat' split
  all_goals first | exact .inl rfl | exact .inr rfl
theorem tX {r:aL}:gF r=0↔M.R r.aJ r.aR:=by
  have la:=tV (k:=r.aJ); have lb:=tV (k:=r.aR)
  have nn:= @sN r.aJ r.aR
  have a:r.aR≠ []-> [] < r.aR:=M.nil_lt
  have b:r.aR≠ []->¬ r.aR<= []:=λ h q=>sN.2 q (a h)
  unfold gF M.R M.K
  by_cases c:r.aJ= [] <;> by_cases d:r.aR= [] <;> by_cases e:((s0 r.aJ:Nat):Int) > 12 <;> by_cases f:((s0 r.aR:Nat):Int) > 12 <;> by_cases g:r.aR<=r.aJ <;> simp_all <;> grind
theorem GN {r:aL}:gF r=0\/gF r=21:=by
  unfold gF
  repeat' split
  all_goals first | exact .inl rfl | exact .inr rfl
theorem ES (r:aL):iB r=gF r:=by
  have h:=(yP (r:=r)).trans tX.symm
  rcases CJ (r:=r) with a | a <;> rcases GN (r:=r) with b | b <;> simp_all
theorem Gn {r:aL} {k:List UInt8}:uK r k=true↔M.H r.aJ r.aR k:=by
  unfold uK M.H M.B
  simp only [bnd]
  have a:=tX (r:=r); have b:=sO (k:=k)
  rw [zH,kK] at b
  rw [<- a, <- b]
  by_cases c:gF r=0 <;> by_cases d:iO k=0 <;> by_cases e:r.aJ<=k <;> by_cases f:r.aR= [] <;> simp [c,d,e,f]
theorem yw (a b:List UInt8):oK a b=M.ls a b:=by
  unfold oK M.ls
  by_cases c:a= []
  . rw [if_pos c,if_pos c]
  . rw [if_neg c,if_neg c]
    by_cases d:b= []
    . rw [if_neg (λ q=>q d),if_pos d]
    . rw [if_pos d,if_neg d]
theorem ET (a b:List UInt8):jK a b=M.mx a b:=rfl
theorem Gp {a b:List UInt8}:qL a b=true↔M.B a b:=by
  unfold qL M.B
  by_cases c:b= []
  . rw [if_pos c]; exact⟨λ _=> .inl c,λ _=>rfl⟩
  . rw [if_neg c,decide_eq_true_eq]; exact⟨.inr,λ h=>h.resolve_left c⟩
theorem EU {r s:aL} (h:M.M r.aJ r.aR s.aJ s.aR):kJ r s=(aL.mk (M.mx r.aJ s.aJ) (M.ls r.aR s.aR),true):=by
  unfold kJ
  simp only [dw,yw,ET]
  rw [if_pos (yP.2 h.1),if_pos (yP.2 h.2.1),if_pos (Gp.2 h.2.2)]
theorem EW {r s:aL} (h: ¬ M.M r.aJ r.aR s.aJ s.aR):kJ r s=(aL.mk [] [],false):=by
  unfold kJ
  simp only [dw,yw,ET]
  by_cases a:iB r=0
  . by_cases b:iB s=0
    . rw [if_pos a,if_pos b,if_neg (λ q=>h ⟨yP.1 a,yP.1 b,Gp.1 q⟩)]
    . rw [if_pos a,if_neg b]
  . rw [if_neg a]
theorem GQ {r s:aL}:nz r s=true↔M.C r.aJ r.aR s.aJ s.aR:=by
  rw [M.C_iff]
  unfold nz om
  simp only [dw]
  have a:=tX (r:=r); have b:=tX (r:=s)
  have nn:= @sN r.aR s.aR
  rw [<- a, <- b]
  by_cases c:gF r=0 <;> by_cases d:gF s=0 <;> by_cases e:r.aJ<=s.aJ <;> by_cases f:r.aR= [] <;> by_cases g:s.aR= [] <;> by_cases h:r.aR < s.aR <;> simp_all
def ui (l:List aM) (i:Nat):List UInt8:=match l[i+1]? with
  | some y=>y.aJ
  | none=> []
theorem xC {l:List aM} {i:Nat} {x:aM} (hx:l[i]? =some x):kv l ((i:Nat):Int)=aL.mk x.aJ (ui l i):=by
  unfold kv ui
  simp only [dw]
  rw [show Int.toNat ((i:Nat):Int)=i from rfl,aT hx]
  by_cases h:((i:Nat):Int)+1 < ((s0 l:Nat):Int)
  . obtain⟨y,hy⟩:∃ y,l[i+1]? =some y:=⟨_,p7 e6⟩
    rw [if_pos h,show Int.toNat (((i:Nat):Int)+1)=i+1 by omega,aT hy,hy]
  . rw [if_neg h,List.getElem?_eq_none e6]
theorem oZ.R {l:List aM} (h:oZ l) {i:Nat} {x:aM} (hx:l[i]? =some x):M.R x.aJ (ui l i):=by
  unfold ui
  refine⟨?_, ?_⟩
  . cases i with
    | zero=>exact .inl (h.first x hx)
    | succ i=>exact .inr (h.key i x hx)
  . cases e:l[i+1]? with
    | none=>exact .inl rfl
    | some y=>exact .inr ⟨h.key i y e,h.rise i x y hx e⟩
theorem oZ.has {l:List aM} (h:oZ l) {k:List UInt8} {i j:Nat} {x:aM} (hk:rV k) (hp:BZ l k j) (hx:l[i]? =some x):M.H x.aJ (ui l i) k↔i=j:=by
  have c:=hp.iff i x hx
  unfold M.H M.B
  constructor
  . rintro ⟨_,_,a,b⟩
    have:=c.1 a
    unfold ui at b
    cases e:l[i+1]? with
    | none=>have:=hp.lt; have:=List.getElem?_eq_none_iff.1 e; omega
    | some y=>
      rw [e] at b
      have d:=hp.iff (i+1) y e
      rcases b with b | b
      . have:=h.key i y e; rw [show y.aJ= [] from b] at this; exact absurd this.1 i7
      . have: ¬ i+1<=j:=λ q=>sN.2 (d.2 q) b
        omega
  . rintro rfl
    refine⟨h.R hx,hk,c.2 (o4 _), ?_⟩
    unfold ui
    cases e:l[i+1]? with
    | none=>exact .inl rfl
    | some y=>exact .inr (CF.1 λ q=>absurd ((hp.iff (i+1) y e).1 q) e6)
theorem Gq {l:List aM} (h:oZ l) {k:List UInt8} {j:Nat} (hk:rV k) (hp:BZ l k j):∀ (q i:Nat),i+q=l.length->i<=j->mO l k q i= .inr ((j:Nat):Int)
  | 0,i,hd,hi=>by have:=hp.lt; omega
  | q+1,i,hd,hi=>by
    rw [mO]
    obtain⟨x,hx⟩:∃ x,l[i]? =some x:=⟨_,p7 e6⟩
    simp only [dw]
    have e:=h.has hk hp hx
    rw [<- Ba,xC hx]
    by_cases hij:i=j
    . subst hij; rw [if_pos (Gn.2 (e.2 rfl))]
    . rw [if_neg (λ q=>hij (e.1 (Gn.1 q)))]
      exact Gq h hk hp q (i+1) e6 e6
theorem Gr {l:List aM} (h:oZ l) {k:List UInt8} {j:Nat} (hk:rV k) (hp:BZ l k j):uN l k=((j:Nat):Int):=by
  unfold uN
  rw [Gq h hk hp l.length 0 e6 e6]; rfl
theorem DJ:∀ {b:List UInt8},(∀ x ∈ b,x.toNat=255)->M.nx b= []
  | [],_=>rfl
  | x::b,h=>by
    unfold M.nx
    rw [if_pos (DJ λ y hy=>h y (List.mem_cons_of_mem _ hy)),if_pos (h x i7)]
theorem DK {b:List UInt8} (hb:M.nx b= []):∀ a:List UInt8,M.nx (a++b)=M.nx a
  | []=>hb
  | x::a=>by
    rw [V6]
    unfold M.nx
    rw [DK hb a]
theorem Ca {x:UInt8} (hx:x.toNat≠255):∀ p:List UInt8,M.nx (p++ [x])=p++ [x+1]
  | []=>by simp [M.nx,hx]
  | a::p=>by
    rw [V6]
    unfold M.nx
    rw [Ca hx p,if_neg i7]
    rfl
theorem Cb (k:List UInt8):∀ (f n:Nat),n < f->n<=k.length->(∀ j x,k[j]? =some x->n<=j->x.toNat=255)->
    ∃ t,ni k f n=t/\t<=n/\(∀ j x,k[j]? =some x->t<=j->x.toNat=255)/\(t=0\/∃ x,k[t - 1]? =some x/\x.toNat≠255)
  | 0,n,h,_,_=>e6
  | f+1,n,h,hl,hq=>by
    unfold ni
    simp only [bnd]
    by_cases g:((n:Nat):Int) > 0
    . obtain⟨x,hx⟩:∃ x,k[n - 1]? =some x:=⟨_,p7 e6⟩
      rw [if_pos g,aT hx]
      by_cases i:((x.toNat:Nat):Int)=255
      . rw [if_pos i]
        obtain⟨t,a,b,c,d⟩:=Cb k f (n - 1) e6 e6 λ j y hy hj=>by
          rcases Nat.lt_or_ge j n with e | e
          . have:j=n - 1:=e6
            subst this
            rw [hx] at hy
            cases hy
            omega
          . exact hq j y hy e
        exact⟨t,a,e6,c,d⟩
      . rw [if_neg i]
        exact⟨n,rfl,o4 _,hq, .inr ⟨x,hx,e6⟩⟩
    . rw [if_neg g]
      exact⟨n,rfl,o4 _,hq, .inl e6⟩
def ph (k:List UInt8):List UInt8:=if k.length < 12 then k++ [0] else M.nx k
theorem GR {k:List UInt8} (hk:rV k):rT k=(aL.mk k (ph k),0):=by
  have hc:iO k=0:=sO.2 hk
  unfold rT ph
  rw [dw,hc,if_pos rfl]
  by_cases f:k.length < 12
  . rw [if_pos e6,if_pos f]
  . rw [if_neg e6,if_neg f,dw,dw]
    have hl:k.length=12:=by have:=hk.2; omega
    obtain⟨t,a,b,c,d⟩:=Cb k 13 12 e6 e6 λ j x hx hj=>by
      have:=(p6.1 hx).1; omega
    rw [show (12:Nat)+1=13 from rfl,a]
    have hkt:k=r3 t k++r4 t k:=(List.take_append_drop t k).symm
    have e:M.nx (r4 t k)= []:=DJ λ x hx=>by
      obtain⟨j,hj⟩:=List.mem_iff_getElem?.1 hx
      rw [m7] at hj
      exact c _ x hj e6
    have hn:M.nx k=M.nx (r3 t k):=(congrArg M.nx hkt).trans (DK e _)
    rcases d with d | ⟨x,hx,d⟩
    . subst d
      rw [if_pos f2,hn]; rfl
    . by_cases g:t=0
      . subst g
        rw [if_pos f2,hn]; rfl
      . rw [if_neg e6,dw,aT hx,hn]
        have:r3 t k=r3 (t - 1) k++ [x]:=by
          obtain⟨q,rfl⟩:∃ q,t=q+1:=⟨t - 1,e6⟩
          obtain⟨hq,rfl⟩:=p6.1 hx
          exact List.take_succ_eq_append_getElem hq
        rw [this,Ca d]
theorem GU {k:List UInt8}:ph k= []\/k < ph k:=by
  unfold ph
  split
  . right; rw [M.lt_snoc0]; exact List.le_refl _
  . exact M.nx_gt _
theorem H7 {k:List UInt8} (hk:rV k):M.R k (ph k):=by
  refine⟨.inr hk, ?_⟩
  rcases GU (k:=k) with h | h
  . exact .inl h
  . right
    have hne:ph k≠ []:=λ e=>M.not_lt_nil _ (e ▸ h)
    refine⟨⟨tV.1 hne, ?_⟩,h⟩
    unfold ph
    have:=hk.2
    split
    . simp; omega
    . exact Nat.le_trans (M.nx_len k) this
theorem EX (o:aN):mD o=iB (aL.mk o.aJ o.aR):=rfl
theorem CK (o:aN):nR o=if iB (aL.mk o.aJ o.aR)=0 then(if o.aV < 1 then 1 else if o.aV > 4 then 1 else 0) else iB (aL.mk o.aJ o.aR):=rfl
theorem EY (o:aN):pE o=if dR o.aZ=0 then(if((s0 o.aG:Nat):Int) > 16 then 2 else 0) else dR o.aZ:=rfl
theorem Gs {o:aN} (h:o.av=1\/o.av=3):eu o=if o.aG= []/\o.aJ= []/\o.aR= []/\o.aV=0 then dR o.aZ else 40:=by
  unfold eu
  rcases h with h | h
  . rw [if_pos h]
    show (if _ then _ else _)=_
    simp only [pz,nG,bnd]
    congr 1
    simp [eq_comm]
  . rw [if_neg e6,if_neg e6,if_pos h]
    show (if _ then _ else _)=_
    simp only [pz,nG,bnd]
    congr 1
    simp [eq_comm]
theorem Hm {o:aN} (h:o.av=2):eu o=if o.aJ= []/\o.aR= []/\o.aV=0 then pE o else 40:=by
  unfold eu
  rw [if_neg e6,if_pos h]
  show (if _ then _ else _)=_
  simp only [sI,bnd]
  congr 1
  simp [eq_comm]
theorem EZ {o:aN} (h:o.av=4):eu o=if o.aZ= []/\o.aG= [] then nR o else 40:=by
  unfold eu
  rw [if_neg e6,if_neg e6,if_neg e6,if_pos h]
  show (if _ then _ else _)=_
  simp only [sJ,bnd]
  congr 1
  simp [eq_comm]
theorem E5 {o:aN} (h:o.av=5):eu o=if o.aZ= []/\o.aG= []/\o.aV=0 then mD o else 40:=by
  unfold eu
  rw [if_neg e6,if_neg e6,if_neg e6,if_neg e6,if_pos h]
  show (if _ then _ else _)=_
  simp only [rD,bnd]
  congr 1
  simp [eq_comm]
theorem Gt {o:aN} (h: ¬ (1<=o.av/\o.av<=5)):eu o=40:=by
  unfold eu
  rw [if_neg e6,if_neg e6,if_neg e6,if_neg e6,if_neg e6]
theorem CL (o:aN):eu o=kQ o:=by
  by_cases f:o.av=1\/o.av=3
  . rw [Gs f]
    unfold kQ
    simp only [dw]
    by_cases a:o.aJ= [] <;> by_cases b:o.aR= [] <;> by_cases c:o.aG= [] <;> by_cases d:o.aV=0 <;>
      rcases f with f | f <;> rcases CG (k:=o.aZ) with e | e <;> simp [a,b,c,d,f,e, <- zH]
  by_cases g:o.av=2
  . rw [Hm g,EY]
    unfold kQ
    simp only [dw]
    by_cases a:o.aJ= [] <;> by_cases b:o.aR= [] <;> by_cases d:o.aV=0 <;>
      rcases CG (k:=o.aZ) with e | e <;> simp [a,b,d,g,e, <- zH]
  by_cases h:o.av=4
  . rw [EZ h,CK]
    unfold kQ
    simp only [dw]
    by_cases a:o.aZ= [] <;> by_cases b:o.aG= [] <;>
      rcases CJ (r:=aL.mk o.aJ o.aR) with e | e <;> simp [a,b,h,e, <- ES]
  by_cases i:o.av=5
  . rw [E5 i,EX]
    unfold kQ
    simp only [dw]
    by_cases a:o.aZ= [] <;> by_cases b:o.aG= [] <;> by_cases d:o.aV=0 <;>
      rcases CJ (r:=aL.mk o.aJ o.aR) with e | e <;> simp [a,b,d,i,e, <- ES]
  . rw [Gt e6]
    unfold kQ
    rw [if_neg e6,if_neg e6,if_neg e6,if_neg e6,if_neg e6]
theorem GV (l:List aN):mU l=uM l:=by
  unfold mU uM
  congr 1
  induction l with
  | nil=>rfl
  | cons x q ih=>simp only [iH,mJ,CL,ih]
theorem Bb {o:aN} (h:eu o=0) (hk:o.av=4\/o.av=5):o.aZ= []:=by
  rcases hk with hk | hk
  . rw [EZ hk] at h
    split at h
    . next e=>exact e.1
    . cases h
  . rw [E5 hk] at h
    split at h
    . next e=>exact e.1
    . cases h
theorem DL {o:aN} (h:eu o=0) (hk:o.av=1\/o.av=2\/o.av=3):rV o.aZ:=by
  rcases hk with hk | hk | hk
  . rw [Gs (.inl hk)] at h
    split at h
    . exact sO.1 h
    . cases h
  . rw [Hm hk] at h
    split at h
    . rw [EY] at h
      by_cases a:dR o.aZ=0
      . exact sO.1 a
      . rw [if_neg a] at h; exact absurd h a
    . cases h
  . rw [Gs (.inr hk)] at h
    split at h
    . exact sO.1 h
    . cases h
theorem Ev (l:List aN):kC l=rU l:=by
  unfold kC rU; rw [GV]
open Int renaming toNat_natCast->L4
open List renaming append_assoc->q5,append_nil->s6,flatMap->q4,flatMap_cons->q1,map->s5,map_append->v2,nil_append->I0
theorem Ho (a b:List UInt8):(if om b a=true then b else a)=M.ls a b:=by
  unfold om M.ls
  by_cases c:b= []
  . rw [c]; simp
  . by_cases d:a= []
    . rw [d]; simp [c]
    . by_cases e:b < a <;> simp [c,d,e]
theorem Gu {r s:aL} (h:M.M r.aJ r.aR s.aJ s.aR):ng r s=(aL.mk (M.mx r.aJ s.aJ) (M.ls r.aR s.aR),true):=by
  obtain⟨b,c,a⟩:=h
  unfold ng
  simp only [dw,Ho,ET]
  rw [if_pos (tX.2 b),if_pos (tX.2 c)]
  unfold M.B at a
  by_cases g:M.ls r.aR s.aR= []
  . rw [if_neg (by simp [g])]
  . rw [if_pos g,if_neg (λ q=>(sN.2 q) (a.resolve_left g))]
theorem Gv {r s:aL} (h: ¬ M.M r.aJ r.aR s.aJ s.aR):ng r s=(aL.mk [] [],false):=by
  unfold ng
  simp only [dw,Ho,ET]
  by_cases a:gF r=0
  . by_cases b:gF s=0
    . rw [if_pos a,if_pos b]
      by_cases g:M.ls r.aR s.aR= []
      . exact absurd ⟨tX.1 a,tX.1 b, .inl g⟩ h
      . rw [if_pos g]
        by_cases c:M.ls r.aR s.aR<=M.mx r.aJ s.aJ
        . rw [if_pos c]
        . exact absurd ⟨tX.1 a,tX.1 b, .inr (List.not_le.1 c)⟩ h
    . rw [if_pos a,if_neg b]
  . rw [if_neg a]
theorem DN (r s:aL):kJ s r=ng r s:=by
  by_cases h:M.M r.aJ r.aR s.aJ s.aR
  . rw [Gu h,EU ((M.M_comm _ _ _ _).1 h),M.mx_comm,M.ls_comm]
  . rw [Gv h,EW (λ q=>h ((M.M_comm _ _ _ _).1 q))]
theorem zI (l:List aM) (p:Int) (o:aN):∀ (q:List aM) (a:List aN) (i:Nat),fH l p o q a i=dW l p o q a i
  | [],_,_=>rfl
  | x::q,a,i=>by simp only [dW,fH,dw,zI l p o q]
theorem zk {l:List aM} {p:Int} {k:Nat} {o:aN} (hk:o.aZ= []):∀ (q:List aM) (i:Nat) (a acc:List aN) (b:List Int),(iF l p k o q i (a++acc) b).1=a++dW l p o q acc i
  | [],_,_,_,_=>rfl
  | x::q,i,a,acc,b=>by
    have ih:=zk (l:=l) (p:=p) (k:=k) hk q
    rw [iF,dW]
    simp only [dw]
    by_cases h:x.bE=p
    . rw [if_pos h,if_pos h,if_neg (λ q=>q hk),Ba,DN]
      by_cases m:(ng (kX l (i:Int)) (aL.mk o.aJ o.aR)).2=true
      . rw [if_pos m,if_pos m,q5]; exact ih _ _ _ _
      . rw [if_neg m,if_neg m]; exact ih _ _ _ _
    . rw [if_neg h,if_neg h]; exact ih _ _ _ _
theorem rW {α:Type} {l q:List α} {x:α} {i:Nat} (h:r4 i l=x::q):l[i]? =some x/\r4 (i+1) l=q:=by
  refine⟨?_,by rw [<- List.drop_drop,h]; rfl⟩
  have e:(r4 i l)[0]? =some x:=by rw [h]; rfl
  rwa [List.getElem?_drop,Nat.add_zero] at e
theorem drop_nil {α:Type} {l:List α} {i:Nat} (h:r4 i l= []):l.length<=i:=by
  have:=congrArg List.length h
  rw [List.length_drop] at this
  simp only [List.length_nil] at this
  omega
theorem Cc {l:List aM} {p:Int} {k j:Nat} {o:aN} {y:aM} (hk:o.aZ≠ []) (hat:uN l o.aZ=((j:Nat):Int)) (hy:l[j]? =some y):∀ (q:List aM) (i:Nat) (a:List aN) (b:List Int),r4 i l=q->(iF l p k o q i a b).1=a++(if i<=j/\y.bE=p then [o] else [])
  | [],i,a,b,hd=>by
    have:=drop_nil hd
    have:=(List.getElem?_eq_some_iff.1 hy).1
    rw [if_neg e6,s6]; rfl
  | x::q,i,a,b,hd=>by
    obtain⟨hx,d⟩:=rW hd
    have ih:=λ a b=>Cc (p:=p) (k:=k) hk hat hy q (i+1) a b d
    rw [iF]
    simp only [dw]
    by_cases h:x.bE=p
    . rw [if_pos h,if_pos hk,hat]
      by_cases e:j=i
      . subst e
        rw [hx] at hy; cases hy
        rw [if_pos rfl,ih,if_neg e6,if_pos ⟨Nat.le_refl _,h⟩,s6]
      . rw [if_neg e6,ih]
        congr 1
        by_cases c:i+1<=j/\y.bE=p
        . rw [if_pos c,if_pos ⟨e6,c.2⟩]
        . rw [if_neg c,if_neg (λ q=>c ⟨e6,q.2⟩)]
    . rw [if_neg h,ih]
      congr 1
      by_cases c:i+1<=j/\y.bE=p
      . rw [if_pos c,if_pos ⟨e6,c.2⟩]
      . rw [if_neg c,if_neg (λ q=>c ⟨?_,q.2⟩)]
        by_cases e:j=i
        . subst e; rw [hx] at hy; cases hy; exact absurd q.2 h
        . omega
theorem Ih {l:List aM} (H:oZ l) {o:aN} (ho:eu o=0) (p:Int) (k:Nat) (a:List aN) (b:List Int):(iF l p k o l 0 a b).1=a++je l p o:=by
  have d:o.av=4\/o.av=5->(iF l p k o l 0 a b).1=a++dW l p o l [] 0:=λ h=>by
    have:=zk (l:=l) (p:=p) (k:=k) (Bb ho h) l 0 a [] b
    rwa [s6] at this
  unfold je
  by_cases e:o.av=4
  . rw [if_pos e,dw]; exact d (.inl e)
  rw [if_neg e]
  by_cases f:o.av=5
  . rw [if_pos f,dw,zI]; exact d (.inr f)
  rw [if_neg f]
  have hk:1<=o.av/\o.av<=5:=by
    by_cases c:1<=o.av/\o.av<=5
    . exact c
    . rw [Gt c] at ho; cases ho
  have kk:=DL ho e6
  obtain⟨j,hp⟩:=H.pos o.aZ
  obtain⟨y,hy⟩:∃ y,l[j]? =some y:=⟨_,p7 hp.lt⟩
  rw [Cc (tV.2 kk.1) (Gr H kk hp) hy l 0 a b rfl,xB hp]
  simp only [dw,L4,aT hy]
  by_cases c:y.bE=p
  . rw [if_pos ⟨Lp _,c⟩,if_pos c]
  . rw [if_neg (λ q=>c q.2),if_neg c]
theorem Hq {l:List aM} (H:oZ l) (p:Int):∀ {q:List aN} (k:Nat) (a:List aN) (b:List Int),(∀ o ∈ q,eu o=0)->(l5 l p q k a b).1=a++q4 (je l p) q
  | [],k,a,b,_=>(s6 a).symm
  | o::q,k,a,b,h=>by
    rw [l5,dw,Hq H p (k+1) _ _ (λ o ho=>h o (.tail _ ho)),Ih H (h o b1),q1,q5]
theorem zJ (l0:List aM) (pl:List fu) (k:Nat):∀ (q:List aN) (j:Nat) (l:List aN) (m:List Int),(jC l0 pl k q j l m).1=l++q4 (je l0 ((k:Nat):Int)) q
  | [],j,l,m=>(s6 l).symm
  | x::q,j,l,m=>by
    simp only [jC,bnd]
    rw [zJ l0 pl k q,q1,q5]
def DR (x:fu):Int × List aN:=(x.bE,x.aB.ls)
def DT (x:jA):Int × List aN:=(x.bE,x.aB.ls)
theorem xD {l:List aM} {ops:List aN} (H:oZ l) (ho:∀ o ∈ ops,eu o=0):∀ (n k:Nat) (a:List fu) (b:List jA),k+n=5->s5 DR a=s5 DT b->s5 DR (gp l ops n a k)=s5 DT (lu l ops (n+1) b k)
  | 0,k,a,b,hn,h=>by
    rw [lu,if_neg e6]; exact h
  | n+1,k,a,b,hn,h=>by
    have d:=zJ l a k ops 0 [] []
    have e:=Hq H (k:Int) (q:=ops) 0 [] [] ho
    rw [gp,lu,if_pos e6]
    unfold yu
    simp only [dw]
    rw [d,e]
    simp only [I0]
    by_cases c:((List.length (q4 (je l (k:Int)) ops):Nat):Int) > 0
    . rw [if_pos c,if_pos c]
      refine xD H ho n (k+1) _ _ e6 ?_
      rw [v2,v2,h]; rfl
    . rw [if_neg c,if_neg c]
      exact xD H ho n (k+1) _ _ e6 h
theorem DU {l:List aM} (H:oZ l) {o:aN} (ho:eu o=0):je l 0 o= []:=by
  have no:∀ (q:List aM) (i:Nat),(∀ x ∈ q,x ∈ l)->dW l 0 o q [] i= []:=by
    intro q
    induction q with
    | nil=>intro _ _; rfl
    | cons x q ih=>
      intro i h
      rw [dW,if_neg (by have:=(H.CQ x (h x b1)).1; omega)]
      exact ih _ λ y hy=>h y (.tail _ hy)
  unfold je
  by_cases a:o.av=4
  . rw [if_pos a,dw]; exact no l 0 λ _ h=>h
  rw [if_neg a]
  by_cases b:o.av=5
  . rw [if_pos b,dw,zI]; exact no l 0 λ _ h=>h
  rw [if_neg b]
  obtain⟨j,hp⟩:=H.pos o.aZ
  obtain⟨y,hy⟩:∃ y,l[j]? =some y:=⟨_,p7 hp.lt⟩
  rw [xB hp]
  simp only [dw,L4,aT hy]
  rw [if_neg (by have:=(H.CQ y (List.mem_of_getElem? hy)).1; omega)]
theorem Ce {l:List aN} (h:kC l=0):∀ o ∈ l,eu o=0:=by
  unfold kC mU at h
  simp only [bnd] at h
  split at h
  . cases h
  split at h
  . cases h
  have key:∀ l:List aN,lp (iH l) (λ _=>(0:Int))=0->∀ o ∈ l,eu o=0:=by
    intro l
    induction l with
    | nil=>intro _ o ho; cases ho
    | cons x q ih=>
      intro h o ho
      simp only [iH,bnd] at h
      by_cases e:eu x=0
      . rw [if_pos e] at h
        rcases List.mem_cons.1 ho with rfl | ho
        . exact e
        . exact ih h o ho
      . rw [if_neg e] at h; exact absurd h e
  exact key l h
theorem Gw {l:List aM} {ops:List aN} (H:oZ l) (ho:kC ops=0):∃ ps qs,ko l ops=(ps,0)/\sS l ops=(qs,0)/\s5 DR ps=s5 DT qs:=by
  have hE:=Ce ho
  unfold ko sS
  simp only [dw]
  rw [<- DI, <- Ev,if_pos (ww.2 H),if_pos ho,if_pos (ww.2 H),if_pos ho]
  refine⟨_,_,rfl,rfl, ?_⟩
  have z:q4 (je l ((0:Nat):Int)) ops= []:=List.flatMap_eq_nil_iff.2 λ o h=>DU H (hE o h)
  have e:gp l ops 5 [] 0=gp l ops 4 [] 1:=by
    have a:=zJ l [] 0 ops 0 [] []
    rw [I0,z] at a
    rw [gp]
    simp only [dw]
    rw [a,if_neg f2]
  rw [e]
  exact xD H hE 4 1 [] [] rfl rfl
theorem Cf {l:List aM} {p:Int} {r:aL} {i:Nat} {x:aM} (hx:l[i]? =some x) (hs:x.bE=p) (hc:nz (kX l ((i:Nat):Int)) r=true):∀ (q:List aM) (k:Nat),List.drop k l=q->k<=i->kw l p r q k= .inr true
  | [],k,hd,hk=>by
    have:=drop_nil hd
    have:=(List.getElem?_eq_some_iff.1 hx).1
    omega
  | y::q,k,hd,hk=>by
    obtain⟨hy,a⟩:=rW hd
    rw [kw]
    simp only [dw]
    by_cases e:k=i
    . subst e
      rw [hx] at hy; cases hy
      rw [if_pos hs,if_pos hc]
    . have ih:=Cf hx hs hc q (k+1) a e6
      by_cases c:y.bE=p
      . rw [if_pos c]
        by_cases b:nz (kX l (k:Int)) r=true
        . rw [if_pos b]
        . rw [if_neg b]; exact ih
      . rw [if_neg c]; exact ih
theorem Cg {l:List aM} (H:oZ l) {p:Int} {r:aL} {i:Nat} {x:aM} (hx:l[i]? =some x) (hs:x.bE=p) (hc:M.C x.aJ (ui l i) r.aJ r.aR):lv l p r=true:=by
  have hR:=((M.C_iff _ _ _ _).1 hc).2.1
  have hv:nz (kX l (i:Int)) r=true:=by rw [<- Ba,xC hx]; exact GQ.2 hc
  unfold lv
  simp only [dw]
  rw [<- DI,if_pos (ww.2 H),if_pos (tX.2 hR),Cf hx hs hv l 0 rfl (Lp _)]; rfl
theorem uZ {l:List aM} (H:oZ l) {p:Int} {o z:aN}:∀ (q:List aM) (acc:List aN) (k:Nat),List.drop k l=q->z ∈ dW l p o q acc k->z ∈ acc\/∃ i x,l[i]? =some x/\x.bE=p/\M.M o.aJ o.aR x.aJ (ui l i)/\z=aN.mk o.av [] [] (M.mx o.aJ x.aJ) (M.ls o.aR (ui l i)) o.aV
  | [],acc,k,_,h=> .inl h
  | x::q,acc,k,hd,h=>by
    obtain⟨hx,a⟩:=rW hd
    rw [dW] at h
    simp only [dw] at h
    by_cases c:x.bE=p
    . rw [if_pos c,xC hx] at h
      by_cases m:M.M o.aJ o.aR x.aJ (ui l k)
      . rw [EU (r:=aL.mk o.aJ o.aR) (s:=aL.mk x.aJ (ui l k)) m,if_pos rfl] at h
        rcases uZ H q _ (k+1) a h with b | b
        . rcases List.mem_append.1 b with d | d
          . exact .inl d
          . exact .inr ⟨k,x,hx,c,m,List.mem_singleton.1 d⟩
        . exact .inr b
      . rw [EW (r:=aL.mk o.aJ o.aR) (s:=aL.mk x.aJ (ui l k)) m,if_neg f2] at h
        exact uZ H q _ (k+1) a h
    . rw [if_neg c] at h
      exact uZ H q _ (k+1) a h
theorem Gx (a b:List UInt8):b<=M.mx a b:=((M.le_mx _ a b).1 (List.le_refl _)).2
theorem GZ (a b:List UInt8):b= []\/(M.ls a b≠ []/\M.ls a b<=b):=by
  unfold M.ls
  by_cases h:b= []
  . exact .inl h
  . refine .inr ?_
    by_cases c:a= []
    . rw [if_pos c]; exact⟨h,List.le_refl _⟩
    . rw [if_neg c,if_neg h]
      by_cases d:b < a
      . rw [if_pos d]; exact⟨h,List.le_refl _⟩
      . rw [if_neg d]; exact⟨c,List.not_lt.1 d⟩
theorem Ew {a b c d:List UInt8} (m:M.M a b c d):M.C c d (M.mx a c) (M.ls b d):=
  (M.C_iff _ _ _ _).2 ⟨m.2.1,M.R_meet m,Gx a c,GZ b d⟩
theorem G5 {k b:List UInt8} (hk:rV k) (hb:rV b) (h:k < b):ph k≠ []/\ph k<=b:=by
  unfold ph
  by_cases c:k.length < 12
  . rw [if_pos c]
    refine⟨by simp,List.not_lt.1 λ q=> ?_⟩
    rw [M.lt_snoc0] at q
    exact sN.2 q h
  . rw [if_neg c]
    have no: ¬ (M.nx k= []\/b < M.nx k):=λ q=>by
      have:=M.nx_only k b (by have:=hb.2; have:=hk.2; omega) (List.le_of_lt h) q
      subst this
      exact GL _ h
    exact⟨λ q=>no (.inl q),List.not_lt.1 λ q=>no (.inr q)⟩
theorem Ex {o:aN} (ho:eu o=0) (hk:rV o.aZ):(kD o).1=aL.mk o.aZ (ph o.aZ):=by
  unfold kD
  rw [dw, <- CL,if_pos ho,if_pos (tV.2 hk.1),dw,GR hk]
theorem CO {o:aN} (ho:eu o=0) (hk:o.aZ= []):(kD o).1=aL.mk o.aJ o.aR:=by
  unfold kD
  rw [dw, <- CL,if_pos ho,if_neg (λ q=>q hk)]
theorem Ey {o:aN} (ho:eu o=0) (c:o.av=4\/o.av=5) {a b:List UInt8} (hR:M.R a b):eu (aN.mk o.av [] [] a b o.aV)=0:=by
  have hs:iB (aL.mk a b)=0:=yP.2 hR
  rcases c with h | h
  . rw [EZ h] at ho
    rw [EZ (o:=aN.mk o.av [] [] a b o.aV) h,if_pos ⟨rfl,rfl⟩,CK,if_pos hs]
    split at ho
    . rw [CK] at ho
      split at ho
      . exact ho
      . rename_i q; exact absurd ho q
    . cases ho
  . rw [E5 h] at ho
    split at ho
    . rename_i q
      rw [E5 (o:=aN.mk o.av [] [] a b o.aV) h,if_pos ⟨rfl,rfl,q.2.2⟩,EX]; exact hs
    . cases ho
theorem Bq {l:List aM} (H:oZ l) {p:Int} {o z:aN} (ho:eu o=0) (hz:z ∈ je l p o):lv l p (kD z).1=true:=by
  have a:o.av=4\/o.av=5->z ∈ dW l p o l [] 0->lv l p (kD z).1=true:=λ b h=>by
    rcases uZ H l [] 0 rfl h with k | ⟨i,x,hx,hs,m,rfl⟩
    . cases k
    . rw [CO (Ey ho b (M.R_meet m)) rfl]
      exact Cg H hx hs (Ew m)
  unfold je at hz
  by_cases d:o.av=4
  . rw [if_pos d,dw] at hz; exact a (.inl d) hz
  rw [if_neg d] at hz
  by_cases f:o.av=5
  . rw [if_pos f,dw,zI] at hz; exact a (.inr f) hz
  rw [if_neg f] at hz
  have hk:1<=o.av/\o.av<=5:=by
    by_cases c:1<=o.av/\o.av<=5
    . exact c
    . rw [Gt c] at ho; cases ho
  have kk:=DL ho e6
  obtain⟨j,hp⟩:=H.pos o.aZ
  obtain⟨y,hy⟩:∃ y,l[j]? =some y:=⟨_,List.getElem?_eq_getElem hp.lt⟩
  rw [xB hp] at hz
  simp only [dw,Int.toNat_natCast,aT hy] at hz
  by_cases c:y.bE=p
  . rw [if_pos c] at hz
    obtain rfl:=List.mem_singleton.1 hz
    rw [Ex ho kk]
    refine Cg H hy c ((M.C_iff _ _ _ _).2 ⟨H.R hy,H7 kk,(hp.iff j y hy).2 (Nat.le_refl _), ?_⟩)
    unfold ui
    cases e:l[j+1]? with
    | none=>exact .inl rfl
    | some g=>exact .inr (G5 kk (H.key j g e) (CF.1 λ q=>absurd ((hp.iff (j+1) g e).1 q) e6))
  . rw [if_neg c] at hz; cases hz
theorem yQ {l:List aM} {ops:List aN} (H:oZ l) (ho:∀ o ∈ ops,eu o=0):∀ (n k:Nat) (a:List fu),(∀ y ∈ a, ∀ z ∈ y.aB.ls,lv l y.bE (kD z).1=true)->∀ y ∈ gp l ops n a k, ∀ z ∈ y.aB.ls,lv l y.bE (kD z).1=true
  | 0,k,a,h=>h
  | n+1,k,a,h=>by
    have d:=zJ l a k ops 0 [] []
    rw [gp]
    simp only [dw]
    rw [d]
    simp only [List.nil_append]
    by_cases c:((List.length (List.flatMap (je l (k:Int)) ops):Nat):Int) > 0
    . rw [if_pos c]
      refine yQ H ho n (k+1) _ λ y hy=> ?_
      rcases List.mem_append.1 hy with b | b
      . exact h y b
      . rw [List.mem_singleton.1 b]
        intro z hz
        obtain⟨o,e,f⟩:=List.mem_flatMap.1 hz
        exact Bq H (ho o e) f
    . rw [if_neg c]
      exact yQ H ho n (k+1) _ h
theorem DV {l:List aM} {ops:List aN} {ps:List fu} (H:oZ l) (ho:kC ops=0) (h:ko l ops=(ps,0)):∀ y ∈ ps, ∀ z ∈ y.aB.ls,lv l y.bE (kD z).1=true:=by
  unfold ko at h
  simp only [dw] at h
  rw [if_pos (ww.2 H),if_pos ho] at h
  obtain⟨rfl,_⟩:=Prod.mk.inj h
  exact yQ H (Ce ho) 5 0 [] λ y hy=>by cases hy
def qg (n low e:Nat) (y:fu):bW:=bW.mk 3 0 y.bE 0 0 0 0 0 n low 0 e 0 0 0 false (aL.mk [] []) (Ll.mk y.aB.ls) (Ll.mk []) (Ll.mk [])
theorem Fy (c:Int) (x:bW) (m:aD) (n:Nat) (ps:List fu):∃ low, ∀ (l:List fu) (k:Nat) (o:List bW),gD c x m n ps l k o=o++List.map (qg n low m.aa.aF) l:=by
  refine⟨gQ (AR m (ed.mk n c x.aU m.aa.aF (Ll.mk x.aB.ls) (Ll.mk ps) (Ll.mk (List.replicate (List.length ps) false)) (Ll.mk (List.replicate (List.length ps) (Ll.mk []:Ll aQ))) 0)),λ l=> ?_⟩
  induction l with
  | nil=>intro k o; exact(List.append_nil o).symm
  | cons y l ih=>
    intro k o
    have hf: ¬ (List.getD (List.replicate (List.length ps) false) k default=true):=by
      rw [List.getD_eq_getElem?_getD,List.getElem?_replicate]
      split <;> simp
    simp only [gD,bnd]
    rw [if_neg hf]
    refine(ih (k+1) _).trans ?_
    simp only [dM,iT,bnd]
    rw [List.append_assoc]; rfl
theorem Ch (p:bU) (c:Int) (n:Nat) (m:aD):∃ z,(dL p c n 2 [] m).1.bF.ls=p.bF.ls++ [z]/\z.av=2/\z.dK=2:=by
  simp only [dL,bnd]
  split
  . exact⟨_,rfl,rfl,rfl⟩
  split
  . exact⟨_,rfl,rfl,rfl⟩
  split
  . exact⟨_,rfl,rfl,rfl⟩
  . exact⟨_,rfl,rfl,rfl⟩
theorem Ez {m:aD} (ha:m.aC.ls= []) (hd: ¬ 0 < List.length m.aa.ak.ls):gQ m=gu m:=by
  have a:m.aa.ak.ls= []:=List.length_eq_zero_iff.1 e6
  rw [zf,BS]
  unfold nA nD
  rw [ha,a]; rfl
theorem DW {c:Int} {x:bW} {m:aD} {ps:List fu} (ha:m.aC.ls= []) (hc:ko m.aa.ag.ls x.aB.ls=(ps,0)):(∃ n low,(dS (bU.mk (Ll.mk [])) c x m).1.bF.ls=List.map (qg n low m.aa.aF) ps)\/∃ z,(dS (bU.mk (Ll.mk [])) c x m).1.bF.ls= [z]/\z.av=2/\z.dK=2/\0 < List.length m.aa.ak.ls:=by
  unfold dS
  simp only [bnd]
  have e: ¬ (((List.length ([]:List ed):Nat):Int) >= 6):=by decide
  rw [hc,ha,if_neg e]
  split
  . rename_i h
    obtain⟨z,a,b,d⟩:=Ch (bU.mk (Ll.mk [])) c x.aU (aD.mk m.aa (Int.toNat (IntKind.u64.wrap ((m.bT:Int)+1))) (Ll.mk []) m.bM m.bD m.bA m.bC m.bB m.dO m.dG m.dH m.dD m.dE)
    exact .inr ⟨z,a,b,d,by simp only [List.length_nil] at h; omega⟩
  split
  . rename_i h
    obtain⟨z,a,b,d⟩:=Ch (bU.mk (Ll.mk [])) c x.aU (aD.mk m.aa (Int.toNat (IntKind.u64.wrap ((m.bT:Int)+1))) (Ll.mk []) m.bM m.bD m.bA m.bC m.bB m.dO m.dG m.dH m.dD m.dE)
    refine .inr ⟨z,a,b,d, ?_⟩
    by_cases hd:0 < List.length m.aa.ak.ls
    . exact hd
    . rw [Ez ha hd,Int.sub_self,IntWalk.u64_in _ e6] at h
      omega
  rw [if_pos rfl]
  obtain⟨low,hl⟩:=Fy c x m (gu m) ps
  exact .inl ⟨_,low,(hl ps 0 []).trans (List.nil_append _)⟩
theorem Br {x:bW} {m:aD} (ha:m.aC.ls= []) (a:m.bA.dB=false) (hf:x.aI=12) (hb:x.ax=m.aa.ax):iU (bU.mk (Ll.mk [])) x m=dS (bU.mk (Ll.mk [])) 2 x m:=by
  unfold iU
  simp only [bnd]
  rw [hf,hb,ha,a,if_pos rfl,if_neg f2,if_neg f2,if_pos f2,if_neg f2]; rfl
theorem EA {x:bW} {m:aD} (hk:x.av=1) (ht:x.eO=0) (hf:x.aI=12):(kR x=0/\(dY m x).2.1=0/\(dY m x).1.cz.ls=(iU (bU.mk (Ll.mk [])) x m).1.bF.ls)\/(dY m x).2.1=180:=by
  unfold dY
  simp only [bnd]
  rw [hf,if_neg f2]
  by_cases h:kR x=0
  . rw [if_pos h,if_pos ht]
    refine .inl ⟨h,rfl, ?_⟩
    unfold kL
    rw [if_pos hk]; rfl
  . rw [if_neg h]; exact .inr rfl
theorem Fz {x:bW} (h:kR x=0) (hk:x.av=1):kC x.aB.ls=0:=by
  unfold kR p9 at h
  simp only [bnd] at h
  rw [hk,show oJ 1=(fT.mk 2 0 (Ll.mk ([0,1,7])),true) from rfl] at h
  split at h
  case isFalse=>cases h
  split at h
  case isFalse=>cases h
  split at h
  case isFalse=>cases h
  split at h
  case isFalse=>cases h
  split at h
  case isFalse=>cases h
  rename_i hm
  have:=AX hm 7 f2
  simp only [oD,p8,bnd,Int.reduceEq, ↓reduceIte] at this
  rw [if_pos hk] at this
  exact of_decide_eq_true this
theorem DX:uY=true:=by decide+kernel
theorem Gy {m:aD} {y:bZ} {k:Nat} (M:Mk m) (h:List.length m.aa.ag.ls<=1000/\m.aa.au<=4/\List.length m.aC.ls+List.length m.aa.ak.ls<=8/\List.length m.aa.aK.ls<=k) (a:lL m=y):(List.length y.ag.ls<=1000/\List.length y.ak.ls<=8/\List.length y.aK.ls<=k)/\(∀ x ∈ y.ak.ls,List.length x.au.ls<=1000000)/\∀ x ∈ y.aK.ls,List.length x.ah.ls<=1000000/\∀ z ∈ x.ah.ls,List.length z.aj.ls<=1000000:=by
  subst a
  exact⟨⟨h.1,(show List.length m.aa.ak.ls<=8 by omega),h.2.2.2⟩,ym M,yn M⟩
open Nat renaming le_trans->L8
theorem DY {p:bZ} (h:gq p=0):jc p.ag.ls=0/\p.au<=4:=by
  unfold gq at h
  rw [dw] at h
  split at h
  . rename_i b
    split at h
    . rw [dw] at h
      split at h
      . rename_i a
        unfold mR at a
        rw [dw] at a
        split at a
        . exact⟨f5,(Cu b).2⟩
        . cases a
      . rw [dw] at h; cases h
    . rw [dw] at h; cases h
  . rw [dw] at h; cases h
theorem DZ {p:bZ} {r:Int} (C:zb p) (h:gq p=r) (a:r=0):(s0 p.ag.ls<=6/\p.au<=4/\s0 p.ak.ls<=8/\s0 p.aK.ls<=4)/\(∀ x ∈ p.ak.ls,s0 x.au.ls<=1000000)/\∀ x ∈ p.aK.ls,s0 x.ah.ls<=1000000/\∀ z ∈ x.ah.ls,s0 z.aj.ls<=1000000:=by
  have h':=h.trans a
  have S:=AB h' C
  exact⟨⟨S.1,(DY h').2,S.2.2.1,S.2.2.2.2.1⟩,λ x hx=>L8 (S.2.2.2.1 x hx).2.2.2 f2,λ x hx=>⟨L8 (S.2.2.2.2.2.1 x hx).2.2.1 f2,λ z hz=>L8 ((S.2.2.2.2.2.1 x hx).2.2.2 z hz).2.1 f2⟩⟩
theorem G6 {p y:bZ} {m:aD} {r:Int} (C:zb p) (h:gq p=r) (a:r=0) (b:iq p=y) (e:rz y=m):Mk m:=by
  subst b; subst e
  have z:mV []/\jR 0:=⟨l9,Lp _⟩
  have S:=AB (h.trans a) C
  exact⟨(by dsimp only [rz]; exact lV _),(by dsimp only [rz]; exact pq _ _),C.2.2.1,Lp _,λ x hx=>⟨(C.2.2.2.1 x hx).1,(C.2.2.2.1 x hx).2.1,(C.2.2.2.1 x hx).2.2,L8 (S.2.2.2.1 x hx).2.2.2 f2⟩,λ x hx=>⟨(C.2.2.2.2 x hx).1,(C.2.2.2.2 x hx).2,L8 (S.2.2.2.2.2.1 x hx).2.2.1 f2,λ r hr=>L8 ((S.2.2.2.2.2.1 x hx).2.2.2 r hr).2.1 f2⟩,λ x hx=>(by cases hx),z,z,z,z,z⟩
theorem FB {p y:bZ} {m:aD} {r:Int} (C:zb p) (h:gq p=r) (b:r=0) (c:iq p=y) (e:rz y=m):s0 m.aa.ag.ls<=1000/\m.aa.au<=4/\s0 m.aC.ls+s0 m.aa.ak.ls<=8/\s0 m.aa.aK.ls<=4:=by
  subst c; subst e
  have a:=(DZ C h b).1
  refine⟨L8 a.1 f2,a.2.1, ?_,a.2.2.2⟩
  show 0+s0 p.ak.ls<=8
  have:=a.2.2.1; omega
open Int renaming toNat->C6
open IntKind renaming i64->C3,u64->C7
open List renaming getD->B8,mem_flatMap->Q6,mem_of_getElem?->D1,not_mem_nil->v7,toArray->v6
open Ll renaming mk->E0
open Sum renaming inl->B7,inr->B9
open _root_.Go.Proofs.Tryz renaming isAgg28->D2,isAgg29->V7,isAgg3->C2,isAgg33->U0,isAgg39->R6,isAgg45->U3,isAgg72->M8,sizeOf33->H2,sizeOf38->M9,sizeOf42->N9,sizeOf72->M7,underlying3->v8,underlying72->N3,underlying9->v9
open Wp renaming exit->C5,loop->C1
section
open Go.RowKit
def gT (d:bZ) (i:Nat) (e:jA) (f:bW):List aN->Nat->Unit ⊕ Bool
  | [],c=>B7 ()
  | b::j,c=>bnd (kD b) λ g=>bnd (B8 e.aB.ls c default) λ a=>if(b.av=a.av)/\(b.aZ=a.aZ)/\(b.aG=a.aG)/\(b.aJ=a.aJ)/\(b.aR=a.aR)/\(b.aV=a.aV) then bnd (lv d.ag.ls f.eO g.1) λ h=>if h=true then gT d i e f j (c+1) else B9 (false) else B9 (false)
def eZ (g:Bool) (d:bZ) (e:List jA):List bW->Nat->Unit ⊕ Bool
  | [],c=>B7 ()
  | a::f,c=>if a.av=3 then bnd (B8 e c default) λ b=>if a.eO=b.bE then if(a.aF:Int)=(d.aF:Int) then if(a.aB.ls.length:Int)=(b.aB.ls.length:Int) then sW (gT d c b a a.aB.ls 0) λ _=>eZ g d e f (c+1) else B9 (false) else B9 (false) else B9 (false) else B9 (false)
def iP (d:bZ) (i:Nat) (e:jA) (f:bW):List aN->Nat->Unit ⊕ Bool
  | [],c=>B7 ()
  | b::j,c=>bnd (kD b) λ g=>bnd (B8 e.aB.ls c default) λ a=>if(b.av=a.av)/\(b.aZ=a.aZ)/\(b.aG=a.aG)/\(b.aJ=a.aJ)/\(b.aR=a.aR)/\(b.aV=a.aV) then bnd (lv d.ag.ls f.eO g.1) λ h=>if h=true then iP d i e f j (c+1) else B9 (false) else B9 (false)
def fZ (g:Bool) (d:bZ) (e:List jA):List bW->Nat->Unit ⊕ Bool
  | [],c=>B7 ()
  | a::f,c=>if a.av=3 then bnd (B8 e c default) λ b=>if a.eO=b.bE then if(a.aF:Int)=(d.aF:Int) then if(a.aB.ls.length:Int)=(b.aB.ls.length:Int) then sW (iP d c b a a.aB.ls 0) λ _=>fZ g d e f (c+1) else B9 (false) else B9 (false) else B9 (false) else B9 (false)
def rA (i:bZ) (l1:List aN):Bool:=
 bnd (uY) λ b=>bnd (gq i) λ h=>if h=0 then if(i.ax:Int)=2147483647 then if b=true then true else false else bnd (iq i) λ c=>bnd ((aD.mk (bZ.mk c.au (C6 (C7.wrap ((c.ax:Int)+1))) (fQ (C6 (C7.wrap ((c.ax:Int)+1))) 32) c.aF (E0 c.ag.ls) (E0 c.ak.ls) (E0 c.aK.ls)) 0 (E0 []) (dU.mk false 0 0 (E0 [])) (dU.mk false 0 0 (E0 [])) (dU.mk false 0 0 (E0 [])) (dU.mk false 0 0 (E0 [])) (dU.mk false 0 0 (E0 [])) 0 0 0 0 0)) λ f=>bnd (lL f) λ d=>bnd (dY f (bW.mk 1 12 0 0 0 0 4611686018427387904 d.ax 0 0 0 0 0 0 0 false (aL.mk [] []) (E0 l1) (E0 []) (E0 []))) λ a=>if a.2.1=0 then bnd (sS d.ag.ls l1) λ e=>if e.2=0 then if(a.1.cz.ls.length:Int)=1 then bnd (B8 a.1.cz.ls 0 default) λ g=>if g.av=2 then if b=true then if g.dK=2 then decide ((d.ak.ls.length:Int) > 0) else false else false else if(a.1.cz.ls.length:Int)=(e.1.length:Int) then lp (eZ b d e.1 a.1.cz.ls 0) λ _=>b else false else if(a.1.cz.ls.length:Int)=(e.1.length:Int) then lp (fZ b d e.1 a.1.cz.ls 0) λ _=>b else false else false else if b=true then decide (a.2.1=180) else false else if b=true then true else false
set_option maxHeartbeats 4000000 in
theorem wQ (w D) (z:bZ) (bi fO aK bu fT aO dO bA fU aP dP A1 n1 c1 l1 r0) (H:Own w D w []) (gP:fO=z.ag.ls.length) (fu:Ro w D λ w'=>aY w' 2 bi z.ag.ls.length (q4 aM.cells z.ag.ls)) (l5:z.ag.ls.length<=aK/\z.ag.ls.length<=9223372036854775807) (d9:List.map ay.abs dO=z.ak.ls) (gQ:fT=z.ak.ls.length) (fA:Ro w D λ w'=>aY w' 5 bu z.ak.ls.length (q4 ay.cells dO)) (l6:z.ak.ls.length<=aO/\z.ak.ls.length<=9223372036854775807) (dE:∀ x ∈ dO,Ro w D (λ w'=>aY w' 1 x.au.A x.au.ls.length (q4 (eI .i64) x.au.ls))/\(x.au.ls.length<=x.au.c/\x.au.ls.length<=9223372036854775807)) (ed:List.map aS.abs dP=z.aK.ls) (gU:fU=z.aK.ls.length) (fC:Ro w D λ w'=>aY w' 4 bA z.aK.ls.length (q4 aS.cells dP)) (l7:z.aK.ls.length<=aP/\z.aK.ls.length<=9223372036854775807) (aR:∀ x ∈ dP,Ro w D (λ w'=>aY w' 3 x.ah.A x.ah.ls.length (q4 af.cells x.ah.ls))/\(x.ah.ls.length<=x.ah.c/\x.ah.ls.length<=9223372036854775807)/\(∀ y1 ∈ x.ah.ls,Ro w D (λ w'=>aY w' 2 y1.aj.A y1.aj.ls.length (q4 aH.cells y1.aj.ls))/\(y1.aj.ls.length<=y1.aj.c/\y1.aj.ls.length<=9223372036854775807))) (jm:Ro w D λ w'=>aY w' 6 A1 n1 (q4 aN.cells l1)) (l8:n1=l1.length) (qh:l1.length<=9223372036854775807) (qi:l1.length<=c1) (qj:(-9223372036854775808)<=z.au/\z.au<=9223372036854775807) (qm:z.ax<=18446744073709551615) (qo:z.bG<=18446744073709551615) (qw:z.aF<=18446744073709551615) (qx:z.ag.ls.length *24<=140737488351232) (qy:z.ak.ls.length *56<=140737488351232) (qz:z.aK.ls.length *48<=140737488351232) (qA:l1.length *80<=140737488351232) (qB:zb z) (qC:l1.length<=140737488351232) (hr:rA z l1=r0):
    Calls Tryz.prog 6 #[.agg #[vI z.au,vU z.ax,vU z.bG,vU z.aF, .slice bi fO aK, .slice bu fT aO, .slice bA fU aP], .slice A1 n1 c1] w (dA λ v w'=>v= .bool r0/\Own w D w' []):=by
 unfold rA at hr
 subst l8 gP gQ gU
 have lX:=aA d9
 have lY:=aA ed
 refine cb Tryz.func6 ?_
 refine sr ?_
 refine dn [vI z.au,vU z.ax,vU z.bG,vU z.aF, .slice bi z.ag.ls.length aK, .slice bu z.ak.ls.length aO, .slice bA z.aK.ls.length aP] 33 H ?_
 intro l9 qD ma
 refine Ar rfl ?_
 obtain⟨Q,J⟩:∃ q,uY=q:=⟨_,rfl⟩
 obtain⟨qE,jo,nY,jq,nZ⟩:=Iu ma
 refine cl Tryz.call7 (Bp _ _ Q jo J) ?_
 rintro _ qF ⟨rfl,jr⟩
 have jv:=jq _ _ jr
 refine Ar rfl (La ([vI z.au,vU z.ax,vU z.bG,vU z.aF, .slice bi z.ag.ls.length aK, .slice bu z.ak.ls.length aO, .slice bA z.aK.ls.length aP]) jv 0 U0 H2 ?_)
 refine WL.do rfl (IP Tryz.call8 rfl ?_ (λ _ _ k=>k))
 refine cb Tryz.func8 ?_
 refine sr ?_
 refine dn [vI z.au,vU z.ax,vU z.bG,vU z.aF, .slice bi z.ag.ls.length aK, .slice bu z.ak.ls.length aO, .slice bA z.aK.ls.length aP] 33 jv ?_
 intro mf qG jw
 refine Az rfl (An rfl (Ik (sr (La ([vI z.au,vU z.ax,vU z.bG,vU z.aF, .slice bi z.ag.ls.length aK, .slice bu z.ak.ls.length aO, .slice bA z.aK.ls.length aP]) jw 0 U0 H2 ?_))))
 obtain⟨fK,I⟩:∃ q,gq z=q:=⟨_,rfl⟩
 obtain⟨qH,jy,dw,jB,og⟩:=Iu jw
 refine cl Tryz.call19 (oC _ _ z bi z.ag.ls.length aK bu z.ak.ls.length aO dO bA z.aK.ls.length aP dP fK jy rfl (dw _ fu) e6 d9 rfl (dw _ fA) e6 (λ x9 h9=>⟨dw _ (dE x9 h9).1,(dE x9 h9).2⟩) ed rfl (dw _ fC) e6 (λ x9 h9=>⟨dw _ (aR x9 h9).1,(aR x9 h9).2.1,(λ y1 k1=>⟨dw _ ((aR x9 h9).2.2 y1 k1).1,((aR x9 h9).2.2 y1 k1).2⟩)⟩) e8 I) ?_
 rintro _ qI ⟨rfl,jD⟩
 have fD:=jB _ _ jD
 refine fw (.bool (decide (¬ (fK=0)))) (IM (e:= !(decide (fK=0))) yk decide_not.symm) (Mz rfl ?_)
 by_cases X:fK=0
 obtain⟨oh,ol,om⟩:=DZ f5 I f5
 refine gw (vP mf 1) (dF (Lr X)) yk (gw (vU z.ax) (dF (Lr X)) (IB rfl (bJ.one D2 (I1 (fD.cls (i:=0) rfl) rfl))) (gw (.bool (decide ((z.ax:Int)=2147483647))) (dF (Lr X)) yk (fw (.bool (decide ((z.ax:Int)=2147483647))) (Io rfl (dF (Lr X)) rfl) (nt ?_))))
 by_cases aB:(z.ax:Int)=2147483647
 refine jT (dT aB) (sr (Az rfl (An rfl (rt (tR (Fin.res (lH rfl rfl rfl) (Mz rfl (Kz (.pointer none) (Kz (vI 1) (Az rfl (An rfl (Ik (Ik ?_)))))))))))))
 have jE:=fD.pk []
 refine Il (Mz rfl (Kz (.bool true) (nt (jt (sr (Mz rfl (Mz rfl ?_)))))))
 rcases Ls (Q) with dG | dG
 refine I7 (v:=vI 1) rfl rfl dG rfl (IA rfl) (Gz (.bool true) dG (fw (.bool true) (Iw rfl dG rfl) (An rfl (rt (tR (rs ?_))))))
 have mg:=jE.pk []
 obtain rfl:=zj hr zq5
 exact⟨rfl,mg⟩
 refine Sz dG (Sz dG (fw (.bool false) (Io rfl dG rfl) (An rfl (rt (tR (rs ?_))))))
 have mh:=jE.pk []
 obtain rfl:=zj hr zq5
 exact⟨rfl,mh⟩
 refine jF (dF aB) (sk (sr (La ([vI z.au,vU z.ax,vU z.bG,vU z.aF, .slice bi z.ag.ls.length aK, .slice bu z.ak.ls.length aO, .slice bA z.aK.ls.length aP]) fD 0 U0 H2 ?_)))
 obtain⟨R,T⟩:∃ q,iq z=q:=⟨_,rfl⟩
 obtain⟨qJ,jG,dx,jH,oo⟩:=Iu fD
 refine cl Tryz.call20 (oO _ _ z bi z.ag.ls.length aK bu z.ak.ls.length aO dO bA z.aK.ls.length aP dP R jG rfl (dx _ fu) e6 d9 rfl (dx _ fA) e6 (λ x9 h9=>⟨dx _ (dE x9 h9).1,(dE x9 h9).2⟩) ed rfl (dx _ fC) e6 (λ x9 h9=>⟨dx _ (aR x9 h9).1,(aR x9 h9).2.1,(λ y1 k1=>⟨dx _ ((aR x9 h9).2.2 y1 k1).1,((aR x9 h9).2.2 y1 k1).2⟩)⟩) e8 (by first | assumption | exact ym f5 | exact λ _ h9=>absurd h9 v7) (by first | assumption | exact yn f5 | exact λ _ h9=>absurd h9 v7) T) ?_
 rintro _ qK ⟨jJ,jK,jL,jM,jN,jO,qL,qM,rfl,jP,fV,gm⟩
 have fM:=jH _ _ jP
 have oq:=aA fV
 have ou:=aA gm
 have ow:=zr 0 fM
 have oz:=zr 1 fM
 have oD:=zr 3 fM
 refine Kz (.agg #[vI R.au,vU R.ax,vU R.bG,vU R.aF, .slice jJ R.ag.ls.length jK, .slice jL R.ak.ls.length jM, .slice jN R.aK.ls.length jO, .int .u64 0, .slice none 0 0, .bool false, .int .u64 0,vI 0, .slice none 0 0, .bool false, .int .u64 0,vI 0, .slice none 0 0, .bool false, .int .u64 0,vI 0, .slice none 0 0, .bool false, .int .u64 0,vI 0, .slice none 0 0, .bool false, .int .u64 0,vI 0, .slice none 0 0, .int .u64 0, .int .u64 0, .int .u64 0, .int .u64 0, .int .u64 0, .pointer none]) ?_
 refine dn [vI R.au,vU R.ax,vU R.bG,vU R.aF, .slice jJ R.ag.ls.length jK, .slice jL R.ak.ls.length jM, .slice jN R.aK.ls.length jO, .int .u64 0, .slice none 0 0, .bool false, .int .u64 0,vI 0, .slice none 0 0, .bool false, .int .u64 0,vI 0, .slice none 0 0, .bool false, .int .u64 0,vI 0, .slice none 0 0, .bool false, .int .u64 0,vI 0, .slice none 0 0, .bool false, .int .u64 0,vI 0, .slice none 0 0, .int .u64 0, .int .u64 0, .int .u64 0, .int .u64 0, .int .u64 0, .pointer none] 86 fM ?_
 intro aU qN mi
 refine An rfl (Ik ?_)
 have jQ:=mi.px [] [6] []
 refine Il (Mz rfl (Kz (vP aU 0) (Kz (vP aU 0) (Kz (vP aU 1) (Lz (vU R.ax) jQ 0 D2 (fw (.int .u64 ((C6 (C7.wrap ((R.ax:Int)+1)):Nat):Int)) (Ir (e:=C7.wrap ((R.ax:Int)+1)) yk (fB _)) (Kz (vP aU 0) (Kz (vP aU 0) (Kz (vP aU 1) ?_)))))))))
 refine df [.int .u64 ((C6 (C7.wrap ((R.ax:Int)+1)):Nat):Int)] 1 jQ Tryz.sizeOf28 ?_
 intro qO jS
 refine ns (Mz rfl (Mz rfl (Kz (vP aU 0) (Kz (vP aU 0) (Kz (vP aU 1) (Lz (.int .u64 ((C6 (C7.wrap ((R.ax:Int)+1)):Nat):Int)) jS 0 D2 ?_))))))
 have oF:fQ (C6 (C7.wrap ((R.ax:Int)+1))) 32<=18446744073709551615:=pq _ _
 refine fw (.int .u64 ((fQ (C6 (C7.wrap ((R.ax:Int)+1))) 32:Nat):Int)) (Ir (JO (m:=32) rfl rfl) (fB _)) (Kz (vP aU 0) (Kz (vP aU 0) (Kz (vP aU 2) ?_)))
 refine df [.int .u64 ((fQ (C6 (C7.wrap ((R.ax:Int)+1))) 32:Nat):Int)] 2 jS Tryz.sizeOf28 ?_
 intro bI mo
 refine ns (Mz rfl (Az rfl (An rfl (rt (Fin.res (lH rfl rfl rfl) ?_)))))
 have mq:Own w D bI (sepL (q4 bK.own [])::_):=mo.sepNil
 have mr:Own w D bI (row none 0 0 (q4 bK.cells []) 107 9::_):=mq.free (eP 107 9)
 have mD:Own w D bI (sepL (q4 af.own [])::_):=mr.sepNil
 have mE:Own w D bI (row none 0 0 (q4 af.cells []) 149 3::_):=mD.free (eP 149 3)
 have mH:Own w D bI (sepL (q4 af.own [])::_):=mE.sepNil
 have mI:Own w D bI (row none 0 0 (q4 af.cells []) 149 3::_):=mH.free (eP 149 3)
 have mJ:Own w D bI (sepL (q4 af.own [])::_):=mI.sepNil
 have mK:Own w D bI (row none 0 0 (q4 af.cells []) 149 3::_):=mJ.free (eP 149 3)
 have mM:Own w D bI (sepL (q4 af.own [])::_):=mK.sepNil
 have mO:Own w D bI (row none 0 0 (q4 af.cells []) 149 3::_):=mM.free (eP 149 3)
 have jU:Own w D bI (sepL (q4 af.own [])::_):=mO.sepNil
 have jV:Own w D bI (row none 0 0 (q4 af.cells []) 149 3::_):=jU.free (eP 149 3)
 have jW:=jV.pf [12,13,14,15,16,17,10,11]
 have jX:Own w D bI (jZ aU (aD.mk (bZ.mk R.au (C6 (C7.wrap ((R.ax:Int)+1))) (fQ (C6 (C7.wrap ((R.ax:Int)+1))) 32) R.aF (E0 R.ag.ls) (E0 R.ak.ls) (E0 R.aK.ls)) 0 (E0 []) (dU.mk false 0 0 (E0 [])) (dU.mk false 0 0 (E0 [])) (dU.mk false 0 0 (E0 [])) (dU.mk false 0 0 (E0 [])) (dU.mk false 0 0 (E0 [])) 0 0 0 0 0)::_):=iK fV gm rfl rfl rfl rfl rfl rfl jW
 obtain⟨aI,B⟩:∃ q,(aD.mk (bZ.mk R.au (C6 (C7.wrap ((R.ax:Int)+1))) (fQ (C6 (C7.wrap ((R.ax:Int)+1))) 32) R.aF (E0 R.ag.ls) (E0 R.ak.ls) (E0 R.aK.ls)) 0 (E0 []) (dU.mk false 0 0 (E0 [])) (dU.mk false 0 0 (E0 [])) (dU.mk false 0 0 (E0 [])) (dU.mk false 0 0 (E0 [])) (dU.mk false 0 0 (E0 [])) 0 0 0 0 0)=q:=⟨_,rfl⟩
 have jY:Own w D bI [jZ aU aI,blk l9 [vI z.au,vU z.ax,vU z.bG,vU z.aF, .slice bi z.ag.ls.length aK, .slice bu z.ak.ls.length aO, .slice bA z.aK.ls.length aP] 33]:=by rw [<- B]; exact jX
 have mP:Mk aI:=G6 f5 f5 f5 f5 f5
 have mQ:aI.aa.ag.ls.length<=1000/\aI.aa.au<=4/\aI.aC.ls.length+aI.aa.ak.ls.length<=8/\aI.aa.aK.ls.length<=4:=FB f5 f5 f5 f5 f5
 refine Mz rfl (Kz (vP aU 0) (Kz (vI 0) (Az rfl (An rfl (Ik (Ik ?_))))))
 have j3:=jY.pk [0]
 refine Il (Mz rfl (Kz (.bool false) (nt (jf (sk (sr (Mz rfl ?_)))))))
 obtain⟨a,y⟩:∃ q,lL aI=q:=⟨_,rfl⟩
 obtain⟨oG,gV,mR,gW,mU⟩:=IZ j3
 refine cl Tryz.call11 (uq _ _ aU aI a gV e8 f5 y) ?_
 rintro _ oH ⟨aC,aF,bB,bC,bL,bM,bY,cu,rfl,gX,gY,gZ⟩
 have eU:=gW _ _ gX
 have mV:=aA gY
 have mW:=aA gZ
 have mX:=zr 0 eU
 have mY:=zr 1 eU
 have mZ:=zr 3 eU
 obtain⟨ng,ni,nk⟩:=Gy f5 f5 y
 refine dn [vI 0, .int .u64 0, .int .u64 0, .int .u64 0, .slice none 0 0, .slice none 0 0, .slice none 0 0] 33 eU ?_
 intro U oI j4
 refine df [vI a.au,vU a.ax,vU a.bG,vU a.aF, .slice aC a.ag.ls.length aF, .slice bB a.ak.ls.length bC, .slice bL a.aK.ls.length bM] 0 j4 H2 ?_
 intro oJ gp
 refine ns (Mz rfl (Kz (vP U 1) (Lz (vU a.ax) gp 0 D2 (Mz rfl (Kz (.agg (iA 1 12 0 0 0 0 4611686018427387904 a.ax 0 0 0 0 0 0 0 false [] [] A1 l1.length c1 none 0 0 none 0 0).toArray) ?_)))))
 have j5:=gp.pf [6]
 obtain⟨⟨g,bO,cK⟩,C⟩:∃ q:kG × Int × aD,dY aI (bW.mk 1 12 0 0 0 0 4611686018427387904 a.ax 0 0 0 0 0 0 0 false (aL.mk [] []) (E0 l1) (E0 []) (E0 []))=q:=⟨_,rfl⟩
 obtain⟨oK,ib,ic,ig,nu⟩:=IZ j5
 refine cl Tryz.call13 (jI _ _ aU aI (bW.mk 1 12 0 0 0 0 4611686018427387904 a.ax 0 0 0 0 0 0 0 false (aL.mk [] []) (E0 l1) (E0 []) (E0 [])) A1 l1.length c1 none 0 0 [] none 0 0 g bO cK ib rfl (ic _ jm) e6 rfl rfl (λ _ _=>aY.nil _ _ _) f3 (λ _ h9=>absurd h9 v7) rfl (λ _ _=>aY.nil _ _ _) f3 f8 f5 C) ?_
 rintro _ oL ⟨p,Z,aV,rfl,ik,dH,fE,fF⟩
 have gu:=ig _ _ ik
 have ny:=aA dH
 have nz:=zr 0 gu
 replace fE:cK.aa.ag.ls.length=aI.aa.ag.ls.length/\cK.aa.au=aI.aa.au/\cK.aC.ls.length+cK.aa.ak.ls.length<=8/\cK.aa.aK.ls.length<=aI.aa.aK.ls.length+1:=fE
 replace fF:Mk cK:=fF
 refine Mz rfl (Kz (.agg #[.slice p g.cz.ls.length Z, .bool g.jo]) (Kz (vI bO) ?_))
 refine dn [.slice none 0 0, .bool false] 47 gu ?_
 intro cO oM j6
 refine df [.slice p g.cz.ls.length Z, .bool g.jo] 0 j6 Tryz.sizeOf47 ?_
 intro oN kg
 refine An rfl (Ik (Ik ?_))
 have eX:=kg.px [] [3] []
 refine Il (Mz rfl (fw (.bool (decide (¬ (bO=0)))) (IM (e:= !(decide (bO=0))) yk decide_not.symm) (nt ?_)))
 by_cases S:bO=0
 refine jF (dF (Lr S)) (sk (sr (Kz (vP U 4) (Lz (.slice aC a.ag.ls.length aF) eX 3 V7 (Mz rfl ?_)))))
 obtain⟨⟨l,dR⟩,G⟩:∃ q:(List jA) × Int,sS a.ag.ls l1=q:=⟨_,rfl⟩
 obtain⟨oP,il,iw,iy,iB⟩:=Iu eX
 refine cl Tryz.call16 (CE _ _ aC a.ag.ls.length aF a.ag.ls A1 l1.length c1 l1 l dR il (iB _ 4 _ rfl aW) rfl e6 (iw _ jm) rfl e6 G) ?_
 rintro _ oQ ⟨f,M,bD,rfl,iD,eu⟩
 have N:=iy _ _ iD
 have nA:=aA eu
 have nC:=zr 0 N
 refine Mz rfl (Kz (.slice f l.length M) (Kz (vI dR) (Az rfl (An rfl (Ik (sr (Mz rfl (fw (.bool (decide (¬ (dR=0)))) (IM (e:= !(decide (dR=0))) yk decide_not.symm) (nt ?_)))))))))
 by_cases Y:dR=0
 refine jF (dF (Lr Y)) (sk (Ik (sr (Kz (vP cO 0) (Lz (.slice p g.cz.ls.length Z) N 2 U3 (Kz (vJ g.cz.ls.length) (Kz (.bool (decide ((g.cz.ls.length:Int)=1))) (Mz rfl ?_))))))))
 by_cases t:(g.cz.ls.length:Int)=1
 refine Gz (vP cO 0) (dT t) (Gl (.slice p g.cz.ls.length Z) (dT t) N 2 U3 ?_)
 obtain⟨ag,bS⟩:=dh (ls:=aV) (i:=0) bz.len f2 (N.rds (i:=3) rfl) e9
 have aG:=eY dH bS
 have nD:ag.aB.ls.length<=ag.aB.c/\ag.aB.ls.length<=9223372036854775807:=bq N (i:=4) rfl (φ:=λ _=>_) (az (Q6.2 ⟨ag,D1 bS,b1⟩) bn)
 have nE:ag.ah.ls.length<=ag.ah.c/\ag.ah.ls.length<=9223372036854775807:=bq N (i:=4) rfl (φ:=λ _=>_) (az (Q6.2 ⟨ag,D1 bS, .tail _ b1⟩) bn)
 have nG:ag.ag.ls.length<=ag.ag.c/\ag.ag.ls.length<=9223372036854775807:=bq N (i:=4) rfl (φ:=λ _=>_) (az (Q6.2 ⟨ag,D1 bS, .tail _ b2⟩) bn)
 refine gw (.pointer (some ⟨ab p,ao p+0 *21,none⟩)) (dT t) (Iz (rY) rfl rfl ((N.rds (i:=3) rfl).addr (i:=0) e6) e6) (Gz (.pointer (some ⟨ab p,ao p+0 *21,none⟩)) (dT t) (gw (vI ag.av) (dT t) (IB rfl (bJ.one C2 (((N.rds (i:=3) rfl).elem bz.len bS f2).at_ (k:=0) rfl))) (Gz (.bool (decide (ag.av=2))) (dT t) (fw (.bool (decide (ag.av=2))) (Iw rfl (dT t) rfl) (nt ?_)))))
 by_cases aJ:ag.av=2
 refine jT (dT aJ) (sr (Mz rfl (Mz rfl ?_)))
 rcases Ls (Q) with au | au
 refine Gz (vP cO 0) au (Gl (.slice p g.cz.ls.length Z) au N 2 U3 (I7 (v:= .pointer (some ⟨ab p,ao p+0 *21,none⟩)) rfl rfl au rfl (Iz (rY) rfl rfl ((N.rds (i:=3) rfl).addr (i:=0) e6) e6) (Gz (.pointer (some ⟨ab p,ao p+0 *21+4,none⟩)) au (I7 (v:=vI ag.dK) rfl rfl au rfl (IB rfl (bJ.one C2 (((N.rds (i:=3) rfl).elem bz.len bS f2).at_ (k:=4) rfl))) (Gz (.bool (decide (ag.dK=2))) au (fw (.bool (decide (ag.dK=2))) (Iw rfl au rfl) (Mz rfl ?_)))))))
 by_cases aQ:ag.dK=2
 refine Gz (vP U 5) (dT aQ) (Gl (.slice bB a.ak.ls.length bC) (dT aQ) N 5 Tryz.isAgg30 (Gz (vJ a.ak.ls.length) (dT aQ) (Gz (.bool (decide ((a.ak.ls.length:Int) > 0))) (dT aQ) (fw (.bool (decide ((a.ak.ls.length:Int) > 0))) (Iw rfl (dT aQ) rfl) (An rfl (rt (tR (rs ?_))))))))
 have ko:=N.pk []
 obtain rfl:_=decide (((a.ak.ls.length:Nat):Int) > 0):=zj hr (et (ae J) (et (ae I) (et (ip X) (et (iN aB) (et (ae T) (et (ae B) (et (ae y) (et (ae C) (et (ip S) (et (ae G) (et (ip Y) (et (ip t) (et (ae (aT aG)) (et (ip aJ) (et (ip au) (ip aQ))))))))))))))))
 exact⟨rfl,ko⟩
 refine Sz (dF aQ) (Sz (dF aQ) (Sz (dF aQ) (Sz (dF aQ) (fw (.bool false) (Io rfl (dF aQ) rfl) (An rfl (rt (tR (rs ?_))))))))
 have kr:=N.pk []
 obtain rfl:_=false:=zj hr (et (ae J) (et (ae I) (et (ip X) (et (iN aB) (et (ae T) (et (ae B) (et (ae y) (et (ae C) (et (ip S) (et (ae G) (et (ip Y) (et (ip t) (et (ae (aT aG)) (et (ip aJ) (et (ip au) (iN aQ))))))))))))))))
 exact⟨rfl,kr⟩
 refine Sz au (Sz au (Sz au (Sz au (Sz au (Sz au (fw (.bool false) (Io rfl au rfl) (Mz rfl (Sz rfl (Sz rfl (Sz rfl (Sz rfl (fw (.bool false) (Io rfl rfl rfl) (An rfl (rt (tR (rs ?_))))))))))))))))
 have ku:=N.pk []
 obtain rfl:_=false:=zj hr (et (ae J) (et (ae I) (et (ip X) (et (iN aB) (et (ae T) (et (ae B) (et (ae y) (et (ae C) (et (ip S) (et (ae G) (et (ip Y) (et (ip t) (et (ae (aT aG)) (et (ip aJ) (fP au)))))))))))))))
 exact⟨rfl,ku⟩
 refine jF (dF aJ) (sk (Ik (sr (Kz (vP cO 0) (Lz (.slice p g.cz.ls.length Z) N 2 U3 (Kz (vJ g.cz.ls.length) (Mz rfl (Kz (vJ l.length) (fw (.bool (decide (¬ ((g.cz.ls.length:Int)=(l.length:Int))))) (IM (e:= !(decide ((g.cz.ls.length:Int)=(l.length:Int)))) yk decide_not.symm) (nt ?_))))))))))
 by_cases bE:(g.cz.ls.length:Int)=(l.length:Int)
 refine jF (dF (Lr bE)) (sk (Ik (sr (Kz (vP cO 0) (Lz (.slice p g.cz.ls.length Z) N 2 U3 (Kz (vJ g.cz.ls.length) (Mn rfl (bo ?_))))))))
 have kv:=N.px [] [2] []
 obtain⟨kw,eB⟩:=lF λ (h:Nat) w'=>Own w D w' [row f l.length M (q4 dQ.cells bD) 70 3,sepL (q4 dQ.own bD),row p g.cz.ls.length Z (q4 bz.cells aV) 42 21,sepL (q4 bz.own aV),blk U [vI a.au,vU a.ax,vU a.bG,vU a.aF, .slice aC a.ag.ls.length aF, .slice bB a.ak.ls.length bC, .slice bL a.aK.ls.length bM] 33,row aC a.ag.ls.length aF (q4 aM.cells a.ag.ls) 89 2,row bB a.ak.ls.length bC (q4 ay.cells bY) 60 5,sepL (q4 ay.own bY),row bL a.aK.ls.length bM (q4 aS.cells cu) 56 4,sepL (q4 aS.own cu)]/\h<=g.cz.ls.length/\eZ Q a l g.cz.ls 0=eZ Q a l (r4 h g.cz.ls) h
 refine C1 (λ i:Nat=> [(4, .bool false),(95,vJ i),(94,vJ g.cz.ls.length),(93, .slice p g.cz.ls.length Z),(11, .slice f l.length M),(8,vP U 0),(5, .bool Q)]) kw (λ i=>g.cz.ls.length - i) 0 ⟨rfl,rfl,rfl,rfl,rfl,rfl,rfl,trivial⟩ (eB.2 ⟨kv,e6,rfl⟩) ?_
 rintro h oW iE
 obtain⟨cz,nH,aX⟩:=eB.1 iE
 refine sr (Kz (.bool (decide ((h:Int) < (g.cz.ls.length:Int)))) (nt (Ik ?_)))
 by_cases gy:(h:Int) < (g.cz.ls.length:Int)
 obtain⟨b,aZ⟩:=dh (ls:=aV) (i:=h) bz.len f2 (cz.rds (i:=2) rfl) e9
 have iF:=eY dH aZ
 have nI:b.aB.ls.length<=b.aB.c/\b.aB.ls.length<=9223372036854775807:=bq cz (i:=3) rfl (φ:=λ _=>_) (az (Q6.2 ⟨b,D1 aZ,b1⟩) bn)
 have nJ:b.ah.ls.length<=b.ah.c/\b.ah.ls.length<=9223372036854775807:=bq cz (i:=3) rfl (φ:=λ _=>_) (az (Q6.2 ⟨b,D1 aZ, .tail _ b1⟩) bn)
 have nK:b.ag.ls.length<=b.ag.c/\b.ag.ls.length<=9223372036854775807:=bq cz (i:=3) rfl (φ:=λ _=>_) (az (Q6.2 ⟨b,D1 aZ, .tail _ b2⟩) bn)
 have bG:=drop_at iF
 refine jT (dT gy) (sk (Ik (bo (sr (Mz rfl (fw (.pointer (some ⟨ab p,ao p+h *21,none⟩)) (Iz (rY) rfl rfl ((cz.rds (i:=2) rfl).addr (i:=h) e6) e6) (fw (.agg (bz.cells b).toArray) (IB rfl (IJ (cs:=(bz.cells b)) Tryz.isAgg42 N9 ((cz.rds (i:=2) rfl).elem bz.len aZ f2))) ?_)))))))
 refine dn (iA 0 0 0 0 0 0 0 0 0 0 0 0 0 0 0 false [] [] none 0 0 none 0 0 none 0 0) 42 cz ?_
 intro ah oZ ky
 refine Az rfl ?_
 refine df (bz.cells b) 0 ky N9 ?_
 intro o5 kz
 refine nt (Ik (Ik ?_))
 refine oV 11 [] (IE (IE (bv.block (IE (IE (bv.block (IE IQ))))))) kz ?_
 intro o6 dz
 refine qp ah 0 0 rfl (ql 1 rfl 0 C2 rfl rfl rfl (qt (v:= .bool (decide (¬ (b.av=3)))) 2 rfl (λ _ _=>IM (e:= !(decide (b.av=3))) yk decide_not.symm) (qv 3 rfl rfl ?_)))
 by_cases O:b.av=3
 refine Iy (v:=vP ah 2) (rs:= []) 4 rfl rfl rfl (dF (Lr O)) e7 (λ _ _=>yk) (Iy (v:=vI b.eO) (rs:= []) 5 rfl rfl rfl (dF (Lr O)) e7 (λ _ ⟨_,H9⟩=>IB rfl (bJ.one C2 (I1 (H9.cls (i:=0) rfl) rfl))) (Iy (v:= .slice f l.length M) (rs:= []) 6 rfl rfl rfl (dF (Lr O)) e7 (λ _ _=>IA rfl) (Iy (v:=vJ h) (rs:= []) 7 rfl rfl rfl (dF (Lr O)) e7 (λ _ _=>IA rfl) ?_)))
 obtain⟨n,bT⟩:=iG (ls:=bD) (i:=h) e9
 have bU:=eY eu bT
 refine Iy (v:= .pointer (some ⟨ab f,ao f+h *3,none⟩)) (rs:= []) 8 rfl rfl rfl (dF (Lr O)) e7 (λ _ ⟨_,H9⟩=>Iz (xe) rfl rfl ((H9.rds (i:=1) rfl).addr (i:=h) e6) e6) (Iy (v:= .pointer (some ⟨ab f,ao f+h *3,none⟩)) (rs:= []) 9 rfl rfl rfl (dF (Lr O)) e7 (λ _ _=>yk) (Iy (v:=vI n.bE) (rs:= []) 10 rfl rfl rfl (dF (Lr O)) e7 (λ _ ⟨_,H9⟩=>IB rfl (bJ.one C2 (((H9.rds (i:=1) rfl).elem dQ.len bT f2).at_ (k:=0) rfl))) (Iy (v:= .bool (decide (¬ (b.eO=n.bE)))) (rs:= []) 11 rfl rfl rfl (dF (Lr O)) e7 (λ _ _=>IM (e:= !(decide (b.eO=n.bE))) yk decide_not.symm) (qt (v:= .bool (decide (¬ (b.eO=n.bE)))) 12 rfl (λ _ _=>Io rfl (dF (Lr O)) rfl) (qv 13 rfl rfl ?_)))))
 by_cases av:b.eO=n.bE
 refine Iy (v:=vP ah 11) (rs:= []) 14 rfl rfl rfl (dF (Lr av)) e7 (λ _ _=>yk) (Iy (v:=vU b.aF) (rs:= []) 15 rfl rfl rfl (dF (Lr av)) e7 (λ _ ⟨_,H9⟩=>IB rfl (bJ.one D2 (I1 (H9.cls (i:=0) rfl) rfl))) (Iy (v:=vP U 3) (rs:= []) 16 rfl rfl rfl (dF (Lr av)) e7 (λ _ _=>yk) (Iy (v:=vU a.aF) (rs:= []) 17 rfl rfl rfl (dF (Lr av)) e7 (λ _ ⟨_,H9⟩=>IB rfl (bJ.one D2 (I1 (H9.cls (i:=5) rfl) rfl))) (Iy (v:= .bool (decide (¬ ((b.aF:Int)=(a.aF:Int))))) (rs:= []) 18 rfl rfl rfl (dF (Lr av)) e7 (λ _ _=>IM (e:= !(decide ((b.aF:Int)=(a.aF:Int)))) yk decide_not.symm) (qt (v:= .bool (decide (¬ ((b.aF:Int)=(a.aF:Int))))) 19 rfl (λ _ _=>Io rfl (dF (Lr av)) rfl) (qv 20 rfl rfl ?_))))))
 by_cases K:(b.aF:Int)=(a.aF:Int)
 refine Iy (v:=vP ah 18) (rs:= []) 21 rfl rfl rfl (dF (Lr K)) e7 (λ _ _=>yk) (Iy (v:= .slice b.aB.A b.aB.ls.length b.aB.c) (rs:= []) 22 rfl rfl rfl (dF (Lr K)) e7 (λ _ ⟨_,H9⟩=>IB rfl (bJ.one R6 (I1 (H9.cls (i:=0) rfl) rfl))) (Iy (v:=vJ b.aB.ls.length) (rs:= []) 23 rfl rfl rfl (dF (Lr K)) e7 (λ _ _=>yk) (Iy (v:= .slice f l.length M) (rs:= []) 24 rfl rfl rfl (dF (Lr K)) e7 (λ _ _=>IA rfl) (Iy (v:=vJ h) (rs:= []) 25 rfl rfl rfl (dF (Lr K)) e7 (λ _ _=>IA rfl) (Iy (v:= .pointer (some ⟨ab f,ao f+h *3,none⟩)) (rs:= []) 26 rfl rfl rfl (dF (Lr K)) e7 (λ _ ⟨_,H9⟩=>Iz (xe) rfl rfl ((H9.rds (i:=1) rfl).addr (i:=h) e6) e6) (Iy (v:= .pointer (some ⟨ab f,ao f+h *3+1,none⟩)) (rs:= []) 27 rfl rfl rfl (dF (Lr K)) e7 (λ _ _=>yk) (Iy (v:= .slice n.aB.A n.aB.ls.length n.aB.c) (rs:= []) 28 rfl rfl rfl (dF (Lr K)) e7 (λ _ ⟨_,H9⟩=>IB rfl (bJ.one R6 (((H9.rds (i:=1) rfl).elem dQ.len bT f2).at_ (k:=1) rfl))) (Iy (v:=vJ n.aB.ls.length) (rs:= []) 29 rfl rfl rfl (dF (Lr K)) e7 (λ _ _=>yk) (Iy (v:= .bool (decide (¬ ((b.aB.ls.length:Int)=(n.aB.ls.length:Int))))) (rs:= []) 30 rfl rfl rfl (dF (Lr K)) e7 (λ _ _=>IM (e:= !(decide ((b.aB.ls.length:Int)=(n.aB.ls.length:Int)))) yk decide_not.symm) (qt (v:= .bool (decide (¬ ((b.aB.ls.length:Int)=(n.aB.ls.length:Int))))) 31 rfl (λ _ _=>Io rfl (dF (Lr K)) rfl) (qn (Iq ?_))))))))))))
 by_cases dB:(b.aB.ls.length:Int)=(n.aB.ls.length:Int)
 refine jF (dF (Lr dB)) (sk (sr (Kz (vP ah 18) (Lz (.slice b.aB.A b.aB.ls.length b.aB.c) dz 0 R6 (Kz (vJ b.aB.ls.length) (Mn rfl (bo ?_)))))))
 have kC:=dz.pf []
 obtain⟨kE,eD⟩:=lF λ (V:Nat) w'=>Own w D w' [blk ah (bz.cells b) 42,row f l.length M (q4 dQ.cells bD) 70 3,sepL (q4 dQ.own bD),row p g.cz.ls.length Z (q4 bz.cells aV) 42 21,sepL (q4 bz.own aV),blk U [vI a.au,vU a.ax,vU a.bG,vU a.aF, .slice aC a.ag.ls.length aF, .slice bB a.ak.ls.length bC, .slice bL a.aK.ls.length bM] 33,row aC a.ag.ls.length aF (q4 aM.cells a.ag.ls) 89 2,row bB a.ak.ls.length bC (q4 ay.cells bY) 60 5,sepL (q4 ay.own bY),row bL a.aK.ls.length bM (q4 aS.cells cu) 56 4,sepL (q4 aS.own cu)]/\V<=b.aB.ls.length/\gT a h (dQ.abs n) (bz.abs b) b.aB.ls 0=gT a h (dQ.abs n) (bz.abs b) (r4 V b.aB.ls) V
 refine C1 (λ i:Nat=> [(4, .bool false),(135,vJ i),(134,vJ b.aB.ls.length),(133, .slice b.aB.A b.aB.ls.length b.aB.c),(132,vP ah 18),(131, .bool (decide (¬ ((b.aB.ls.length:Int)=(n.aB.ls.length:Int))))),(130, .bool (decide (¬ ((b.aB.ls.length:Int)=(n.aB.ls.length:Int))))),(129,vJ n.aB.ls.length),(128, .slice n.aB.A n.aB.ls.length n.aB.c),(127, .pointer (some ⟨ab f,ao f+h *3+1,none⟩)),(126, .pointer (some ⟨ab f,ao f+h *3,none⟩)),(125,vJ h),(124, .slice f l.length M),(123,vJ b.aB.ls.length),(122, .slice b.aB.A b.aB.ls.length b.aB.c),(121,vP ah 18),(120, .bool (decide (¬ ((b.aF:Int)=(a.aF:Int))))),(119, .bool (decide (¬ ((b.aF:Int)=(a.aF:Int))))),(118, .bool (decide (¬ ((b.aF:Int)=(a.aF:Int))))),(117,vU a.aF),(116,vP U 3),(115,vU b.aF),(114,vP ah 11),(113, .bool (decide (¬ (b.eO=n.bE)))),(112, .bool (decide (¬ (b.eO=n.bE)))),(111, .bool (decide (¬ (b.eO=n.bE)))),(110,vI n.bE),(109, .pointer (some ⟨ab f,ao f+h *3,none⟩)),(108, .pointer (some ⟨ab f,ao f+h *3,none⟩)),(107,vJ h),(106, .slice f l.length M),(105,vI b.eO),(104,vP ah 2),(103, .bool (decide (¬ (b.av=3)))),(102, .bool (decide (¬ (b.av=3)))),(101,vI b.av),(100,vP ah 0),(13,vJ h),(14,vP ah 0),(99, .agg (bz.cells b).toArray),(98, .pointer (some ⟨ab p,ao p+h *21,none⟩)),(97,vJ h),(96, .bool (decide ((h:Int) < (g.cz.ls.length:Int)))),(95,vJ h),(94,vJ g.cz.ls.length),(93, .slice p g.cz.ls.length Z),(11, .slice f l.length M),(8,vP U 0),(5, .bool Q)]) kE (λ i=>b.aB.ls.length - i) 0 ⟨rfl,rfl,rfl,rfl,rfl,rfl,rfl,rfl,rfl,rfl,rfl,rfl,rfl,rfl,rfl,rfl,rfl,rfl,rfl,rfl,rfl,rfl,rfl,rfl,rfl,rfl,rfl,rfl,rfl,rfl,rfl,rfl,rfl,rfl,rfl,rfl,rfl,rfl,rfl,rfl,rfl,rfl,rfl,rfl,rfl,rfl,rfl,rfl,rfl,trivial⟩ (eD.2 ⟨kC,e6,rfl⟩) ?_
 rintro V o7 iH
 obtain⟨dS,nL,dI⟩:=eD.1 iH
 refine sr (Kz (.bool (decide ((V:Int) < (b.aB.ls.length:Int)))) (nt (Ik ?_)))
 by_cases gz:(V:Int) < (b.aB.ls.length:Int)
 obtain⟨r,fG⟩:=dh (ls:=b.aB.ls) (i:=V) aN.len f2 (bq dS (i:=4) rfl (az (Q6.2 ⟨b,D1 aZ,b1⟩) aW)) e9
 have eF:=drop_at fG
 refine jT (dT gz) (sk (Ik (bo (sr (Mz rfl (fw (.pointer (some ⟨ab b.aB.A,ao b.aB.A+V *6,none⟩)) (Iz (mG) rfl rfl ((bq dS (i:=4) rfl (az (Q6.2 ⟨b,D1 aZ,b1⟩) aW)).addr (i:=V) e6) e6) (fw (.agg (aN.cells r).toArray) (IB rfl (IJ (cs:=(aN.cells r)) M8 M7 ((bq dS (i:=4) rfl (az (Q6.2 ⟨b,D1 aZ,b1⟩) aW)).elem aN.len fG f2))) ?_)))))))
 refine dn [vI 0, .string ⟨v6 []⟩, .string ⟨v6 []⟩, .string ⟨v6 []⟩, .string ⟨v6 []⟩,vI 0] 72 dS ?_
 intro o8 pg kF
 refine Az rfl ?_
 refine df (aN.cells r) 0 kF M7 ?_
 intro pu gB
 refine ns (La (aN.cells r) gB 0 M8 M7 ?_)
 obtain⟨⟨cZ,gD⟩,dJ⟩:∃ q:aL × Int,kD r=q:=⟨_,rfl⟩
 obtain⟨pz,iI,nM,iJ,nN⟩:=Iu gB
 refine cl Tryz.call17 (wU _ _ r cZ gD iI dJ) ?_
 rintro _ pE ⟨rfl,iL⟩
 have kH:=iJ _ _ iL
 refine Mz rfl (Kz (.agg (aL.cells cZ).toArray) (Kz (vI gD) ?_))
 refine dn [.string ⟨v6 []⟩, .string ⟨v6 []⟩] 38 kH ?_
 intro pF pG kI
 refine df (aL.cells cZ) 0 kI M9 ?_
 intro pI kJ
 refine An rfl (Ik ?_)
 refine oV 13 [] (IE (bv.block (IE (IE (bv.block (bv.block (IE (IE (bv.block (IE IQ)))))))))) kJ ?_
 intro pJ gF
 refine qt (v:= .agg (aN.cells r).toArray) 0 rfl (λ _ ⟨_,H9⟩=>IB rfl (IJ (cs:=(aN.cells r)) M8 M7 ((H9.cls (i:=1) rfl).lit (k:=0) (m:=6) rfl))) (qv 1 rfl rfl (qv 2 rfl rfl (qt (v:= .pointer (some ⟨ab f,ao f+h *3,none⟩)) 3 rfl (λ _ ⟨_,H9⟩=>Iz (xe) rfl rfl ((H9.rds (i:=3) rfl).addr (i:=h) e6) e6) (qk (.pointer (some ⟨ab f,ao f+h *3+1,none⟩)) 4 rfl (qt (v:= .slice n.aB.A n.aB.ls.length n.aB.c) 5 rfl (λ _ ⟨_,H9⟩=>IB rfl (bJ.one R6 (((H9.rds (i:=3) rfl).elem dQ.len bT f2).at_ (k:=1) rfl))) (qv 6 rfl rfl ?_))))))
 obtain⟨E,dK⟩:=iG (ls:=n.aB.ls) (i:=V) e9
 refine qt (v:= .pointer (some ⟨ab n.aB.A,ao n.aB.A+V *6,none⟩)) 7 rfl (λ _ ⟨_,H9⟩=>Iz (mG) rfl rfl ((bq H9 (i:=4) rfl (az (Q6.2 ⟨n,D1 bT,b1⟩) aW)).addr (i:=V) e6) e6) (qt (v:= .agg (aN.cells E).toArray) 8 rfl (λ _ ⟨_,H9⟩=>IB rfl (IJ (cs:=(aN.cells E)) M8 M7 ((bq H9 (i:=4) rfl (az (Q6.2 ⟨n,D1 bT,b1⟩) aW)).elem aN.len dK f2))) (qt (v:= .bool (decide (¬ ((r.av=E.av)/\(r.aZ=E.aZ)/\(r.aG=E.aG)/\(r.aJ=E.aJ)/\(r.aR=E.aR)/\(r.aV=E.aV))))) 9 rfl (λ _ _=>IM (e:= !(decide ((r.av=E.av)/\(r.aZ=E.aZ)/\(r.aG=E.aG)/\(r.aJ=E.aJ)/\(r.aR=E.aR)/\(r.aV=E.aV)))) (Jo rfl rfl e7 rfl (iQ.struct N3 e7 (iC.dec (iC.cons (u:=vI r.av) (v:=vI E.av) f2 (λ _=>by kernel_rfl) (λ _=>by kernel_rfl) (iQ.int v8) (iC.cons (u:= .string ⟨v6 r.aZ⟩) (v:= .string ⟨v6 E.aZ⟩) f2 (λ _=>by kernel_rfl) (λ _=>by kernel_rfl) (iQ.string v9) (iC.cons (u:= .string ⟨v6 r.aG⟩) (v:= .string ⟨v6 E.aG⟩) f2 (λ _=>by kernel_rfl) (λ _=>by kernel_rfl) (iQ.string v9) (iC.cons (u:= .string ⟨v6 r.aJ⟩) (v:= .string ⟨v6 E.aJ⟩) f2 (λ _=>by kernel_rfl) (λ _=>by kernel_rfl) (iQ.string v9) (iC.cons (u:= .string ⟨v6 r.aR⟩) (v:= .string ⟨v6 E.aR⟩) f2 (λ _=>by kernel_rfl) (λ _=>by kernel_rfl) (iQ.string v9) (iC.cons (u:=vI r.aV) (v:=vI E.aV) f2 (λ _=>by kernel_rfl) (λ _=>by kernel_rfl) (iQ.int v8) (iC.nil.up (Lp _)))))))) ((congrArg (decide (r.av=E.av) && ·) ((congrArg (decide (r.aZ=E.aZ) && ·) ((congrArg (decide (r.aG=E.aG) && ·) ((congrArg (decide (r.aJ=E.aJ) && ·) ((congrArg (decide (r.aR=E.aR) && ·) o9).trans gG)).trans gG)).trans gG)).trans gG)).trans gG)))) decide_not.symm) (qv 10 rfl rfl ?_)))
 by_cases ai:(r.av=E.av)/\(r.aZ=E.aZ)/\(r.aG=E.aG)/\(r.aJ=E.aJ)/\(r.aR=E.aR)/\(r.aV=E.aV)
 refine Iy (v:=vP U 4) (rs:= []) 11 rfl rfl rfl (dF (Lr ai)) e7 (λ _ _=>yk) (Iy (v:= .slice aC a.ag.ls.length aF) (rs:= []) 12 rfl rfl rfl (dF (Lr ai)) e7 (λ _ ⟨_,H9⟩=>IB rfl (bJ.one V7 (I1 (H9.cls (i:=7) rfl) rfl))) (Iy (v:=vP ah 2) (rs:= []) 13 rfl rfl rfl (dF (Lr ai)) e7 (λ _ _=>yk) (Iy (v:=vI b.eO) (rs:= []) 14 rfl rfl rfl (dF (Lr ai)) e7 (λ _ ⟨_,H9⟩=>IB rfl (bJ.one C2 (I1 (H9.cls (i:=2) rfl) rfl))) (Iy (v:= .agg (aL.cells cZ).toArray) (rs:= []) 15 rfl rfl rfl (dF (Lr ai)) e7 (λ _ ⟨_,H9⟩=>IB rfl (IJ (cs:=(aL.cells cZ)) Tryz.isAgg38 M9 ((H9.cls (i:=0) rfl).lit (k:=0) (m:=2) rfl))) ?_))))
 obtain⟨fe,eG⟩:∃ q,lv a.ag.ls b.eO cZ=q:=⟨_,rfl⟩
 obtain⟨pK,iM,nO,iO,iR⟩:=Iu gF
 refine Jl 16 rfl rfl rfl (dF (Lr ai)) e7 (IP Tryz.call18 rfl (wV _ _ aC a.ag.ls.length aF a.ag.ls b.eO cZ fe iM (iR _ 8 _ rfl aW) rfl e6 eG) ?_)
 rintro _ pM ⟨rfl,iT⟩
 have fH:=iO _ _ iT
 refine⟨.inr ⟨_,fH⟩, ?_⟩
 refine Iy (v:= .bool (!fe)) (rs:= []) 17 rfl rfl rfl (dF (Lr ai)) e7 (λ _ _=>yk) (qt (v:= .bool (!fe)) 18 rfl (λ _ _=>Io rfl (dF (Lr ai)) rfl) (qn (Iq ?_)))
 rcases Ls (fe) with dV | dV
 refine jF (cn dV) (IU (bN (Iq (Il (fw (vJ (V+1)) (Ir (e:=C3.wrap ((V:Int)+1)) yk f0) (Mz rfl (WL.nil ?_)))))))
 have kK:=fH.px [] [0,1] []
 exact II (V+1) ⟨rfl,rfl,rfl,rfl,rfl,rfl,rfl,rfl,rfl,rfl,rfl,rfl,rfl,rfl,rfl,rfl,rfl,rfl,rfl,rfl,rfl,rfl,rfl,rfl,rfl,rfl,rfl,rfl,rfl,rfl,rfl,rfl,rfl,rfl,rfl,rfl,rfl,rfl,rfl,rfl,rfl,rfl,rfl,rfl,rfl,rfl,rfl,rfl,rfl,trivial⟩ (eD.2 ⟨kK,e6,et (dI) (et (congrArg (λ q=>gT a h (dQ.abs n) (bz.abs b) q V) eF) (et (ae dJ) (et (ae (aT dK)) (et (ip ai) (et (ae eG) (ip dV))))))⟩) (by show b.aB.ls.length - (V+1) < b.aB.ls.length - V; omega)
 refine jT (cn dV) (sr (An rfl (rt (bR (tR (tR (bR (bR (tR (tR (bR (tR (rs ?_)))))))))))))
 have kL:=fH.pk []
 obtain rfl:_=false:=zj hr (et (ae J) (et (ae I) (et (ip X) (et (iN aB) (et (ae T) (et (ae B) (et (ae y) (et (ae C) (et (ip S) (et (ae G) (et (ip Y) (et (ip t) (et (ae (aT aG)) (et (iN aJ) (et (ip bE) (gL (et (aX) (et (congrArg (λ q=>eZ Q a l q h) bG) (et (ip O) (et (ae (aT bU)) (et (ip av) (et (ip K) (et (ip dB) (oU (et (dI) (et (congrArg (λ q=>gT a h (dQ.abs n) (bz.abs b) q V) eF) (et (ae dJ) (et (ae (aT dK)) (et (ip ai) (et (ae eG) (fP dV)))))))))))))))))))))))))))))))
 exact⟨rfl,kL⟩
 refine Ip (rs:= []) 11 rfl rfl rfl (dT ai) e7 (Ip (rs:= []) 12 rfl rfl rfl (dT ai) e7 (Ip (rs:= []) 13 rfl rfl rfl (dT ai) e7 (Ip (rs:= []) 14 rfl rfl rfl (dT ai) e7 (Ip (rs:= []) 15 rfl rfl rfl (dT ai) e7 (Ip (rs:= []) 16 rfl rfl rfl (dT ai) e7 (Ip (rs:= []) 17 rfl rfl rfl (dT ai) e7 (qt (v:= .bool true) 18 rfl (λ _ _=>Iw rfl (dT ai) rfl) (qn (Iq (jt (sr (An rfl (rt (bR (tR (tR (bR (bR (tR (tR (bR (tR (rs ?_)))))))))))))))))))))))
 have kM:=gF.pk []
 obtain rfl:_=false:=zj hr (et (ae J) (et (ae I) (et (ip X) (et (iN aB) (et (ae T) (et (ae B) (et (ae y) (et (ae C) (et (ip S) (et (ae G) (et (ip Y) (et (ip t) (et (ae (aT aG)) (et (iN aJ) (et (ip bE) (gL (et (aX) (et (congrArg (λ q=>eZ Q a l q h) bG) (et (ip O) (et (ae (aT bU)) (et (ip av) (et (ip K) (et (ip dB) (oU (et (dI) (et (congrArg (λ q=>gT a h (dQ.abs n) (bz.abs b) q V) eF) (et (ae dJ) (et (ae (aT dK)) (iN ai)))))))))))))))))))))))))))))
 exact⟨rfl,kM⟩
 refine jF (dF gz) (C5 (IC ?_))
 have iU:gT a h (dQ.abs n) (bz.abs b) b.aB.ls 0=B7 ():=et (dI) (et (congrArg (λ q=>gT a h (dQ.abs n) (bz.abs b) q V) (dZ (ls:=b.aB.ls) (i:=V) e6)) rfl)
 refine IC (IK (bN (Iq (Il (fw (vJ (h+1)) (Ir (e:=C3.wrap ((h:Int)+1)) yk f0) (Mz rfl (WL.nil ?_)))))))
 have kN:=dS.px [] [0] []
 exact II (h+1) ⟨rfl,rfl,rfl,rfl,rfl,rfl,rfl,trivial⟩ (eB.2 ⟨kN,e6,et (aX) (et (congrArg (λ q=>eZ Q a l q h) bG) (et (ip O) (et (ae (aT bU)) (et (ip av) (et (ip K) (et (ip dB) (sH iU)))))))⟩) (by show g.cz.ls.length - (h+1) < g.cz.ls.length - h; omega)
 refine jT (dT dB) (sr (An rfl (rt (tR (bR (tR (tR (bR (tR (rs ?_))))))))))
 have kP:=dz.pk []
 obtain rfl:_=false:=zj hr (et (ae J) (et (ae I) (et (ip X) (et (iN aB) (et (ae T) (et (ae B) (et (ae y) (et (ae C) (et (ip S) (et (ae G) (et (ip Y) (et (ip t) (et (ae (aT aG)) (et (iN aJ) (et (ip bE) (gL (et (aX) (et (congrArg (λ q=>eZ Q a l q h) bG) (et (ip O) (et (ae (aT bU)) (et (ip av) (et (ip K) (iN dB)))))))))))))))))))))))
 exact⟨rfl,kP⟩
 refine Ip (rs:= []) 21 rfl rfl rfl (dT K) e7 (Ip (rs:= []) 22 rfl rfl rfl (dT K) e7 (Ip (rs:= []) 23 rfl rfl rfl (dT K) e7 (Ip (rs:= []) 24 rfl rfl rfl (dT K) e7 (Ip (rs:= []) 25 rfl rfl rfl (dT K) e7 (Ip (rs:= []) 26 rfl rfl rfl (dT K) e7 (Ip (rs:= []) 27 rfl rfl rfl (dT K) e7 (Ip (rs:= []) 28 rfl rfl rfl (dT K) e7 (Ip (rs:= []) 29 rfl rfl rfl (dT K) e7 (Ip (rs:= []) 30 rfl rfl rfl (dT K) e7 (qt (v:= .bool true) 31 rfl (λ _ _=>Iw rfl (dT K) rfl) (qn (Iq (jt (sr (An rfl (rt (tR (bR (tR (tR (bR (tR (rs ?_)))))))))))))))))))))))
 have kQ:=dz.pk []
 obtain rfl:_=false:=zj hr (et (ae J) (et (ae I) (et (ip X) (et (iN aB) (et (ae T) (et (ae B) (et (ae y) (et (ae C) (et (ip S) (et (ae G) (et (ip Y) (et (ip t) (et (ae (aT aG)) (et (iN aJ) (et (ip bE) (gL (et (aX) (et (congrArg (λ q=>eZ Q a l q h) bG) (et (ip O) (et (ae (aT bU)) (et (ip av) (iN K))))))))))))))))))))))
 exact⟨rfl,kQ⟩
 refine Ip (rs:= []) 14 rfl rfl rfl (dT av) e7 (Ip (rs:= []) 15 rfl rfl rfl (dT av) e7 (Ip (rs:= []) 16 rfl rfl rfl (dT av) e7 (Ip (rs:= []) 17 rfl rfl rfl (dT av) e7 (Ip (rs:= []) 18 rfl rfl rfl (dT av) e7 (qt (v:= .bool true) 19 rfl (λ _ _=>Iw rfl (dT av) rfl) (qv 20 rfl rfl (Ip (rs:= []) 21 rfl rfl rfl rfl e7 (Ip (rs:= []) 22 rfl rfl rfl rfl e7 (Ip (rs:= []) 23 rfl rfl rfl rfl e7 (Ip (rs:= []) 24 rfl rfl rfl rfl e7 (Ip (rs:= []) 25 rfl rfl rfl rfl e7 (Ip (rs:= []) 26 rfl rfl rfl rfl e7 (Ip (rs:= []) 27 rfl rfl rfl rfl e7 (Ip (rs:= []) 28 rfl rfl rfl rfl e7 (Ip (rs:= []) 29 rfl rfl rfl rfl e7 (Ip (rs:= []) 30 rfl rfl rfl rfl e7 (qt (v:= .bool true) 31 rfl (λ _ _=>Iw rfl rfl rfl) (qn (Iq (jt (sr (An rfl (rt (tR (bR (tR (tR (bR (tR (rs ?_))))))))))))))))))))))))))))))
 have kR:=dz.pk []
 obtain rfl:_=false:=zj hr (et (ae J) (et (ae I) (et (ip X) (et (iN aB) (et (ae T) (et (ae B) (et (ae y) (et (ae C) (et (ip S) (et (ae G) (et (ip Y) (et (ip t) (et (ae (aT aG)) (et (iN aJ) (et (ip bE) (gL (et (aX) (et (congrArg (λ q=>eZ Q a l q h) bG) (et (ip O) (et (ae (aT bU)) (iN av)))))))))))))))))))))
 exact⟨rfl,kR⟩
 refine Ip (rs:= []) 4 rfl rfl rfl (dT O) e7 (Ip (rs:= []) 5 rfl rfl rfl (dT O) e7 (Ip (rs:= []) 6 rfl rfl rfl (dT O) e7 (Ip (rs:= []) 7 rfl rfl rfl (dT O) e7 (Ip (rs:= []) 8 rfl rfl rfl (dT O) e7 (Ip (rs:= []) 9 rfl rfl rfl (dT O) e7 (Ip (rs:= []) 10 rfl rfl rfl (dT O) e7 (Ip (rs:= []) 11 rfl rfl rfl (dT O) e7 (qt (v:= .bool true) 12 rfl (λ _ _=>Iw rfl (dT O) rfl) (qv 13 rfl rfl (Ip (rs:= []) 14 rfl rfl rfl rfl e7 (Ip (rs:= []) 15 rfl rfl rfl rfl e7 (Ip (rs:= []) 16 rfl rfl rfl rfl e7 (Ip (rs:= []) 17 rfl rfl rfl rfl e7 (Ip (rs:= []) 18 rfl rfl rfl rfl e7 (qt (v:= .bool true) 19 rfl (λ _ _=>Iw rfl rfl rfl) (qv 20 rfl rfl (Ip (rs:= []) 21 rfl rfl rfl rfl e7 (Ip (rs:= []) 22 rfl rfl rfl rfl e7 (Ip (rs:= []) 23 rfl rfl rfl rfl e7 (Ip (rs:= []) 24 rfl rfl rfl rfl e7 (Ip (rs:= []) 25 rfl rfl rfl rfl e7 (Ip (rs:= []) 26 rfl rfl rfl rfl e7 (Ip (rs:= []) 27 rfl rfl rfl rfl e7 (Ip (rs:= []) 28 rfl rfl rfl rfl e7 (Ip (rs:= []) 29 rfl rfl rfl rfl e7 (Ip (rs:= []) 30 rfl rfl rfl rfl e7 (qt (v:= .bool true) 31 rfl (λ _ _=>Iw rfl rfl rfl) (qn (Iq (jt (sr (An rfl (rt (tR (bR (tR ?_))))))))))))))))))))))))))))))))))))
 refine tR (bR (tR (rs ?_)))
 have kS:=dz.pk []
 obtain rfl:_=false:=zj hr (et (ae J) (et (ae I) (et (ip X) (et (iN aB) (et (ae T) (et (ae B) (et (ae y) (et (ae C) (et (ip S) (et (ae G) (et (ip Y) (et (ip t) (et (ae (aT aG)) (et (iN aJ) (et (ip bE) (gL (et (aX) (et (congrArg (λ q=>eZ Q a l q h) bG) (iN O)))))))))))))))))))
 exact⟨rfl,kS⟩
 refine jF (dF gy) (C5 (IC ?_))
 have iV:eZ Q a l g.cz.ls 0=B7 ():=et (aX) (et (congrArg (λ q=>eZ Q a l q h) (dZ (ls:=g.cz.ls) (i:=h) e6)) rfl)
 refine IC (IK (Iq (Ik ?_)))
 have kT:=cz.pk []
 refine Il (Mz rfl (An rfl (rt (rs ?_))))
 have kU:=kT.pk []
 obtain rfl:_=Q:=zj hr (et (ae J) (et (ae I) (et (ip X) (et (iN aB) (et (ae T) (et (ae B) (et (ae y) (et (ae C) (et (ip S) (et (ae G) (et (ip Y) (et (ip t) (et (ae (aT aG)) (et (iN aJ) (et (ip bE) (mF iV))))))))))))))))
 exact⟨rfl,kU⟩
 refine jT (dT bE) (sr (An rfl (rt (tR (rs ?_)))))
 have kV:=N.pk []
 obtain rfl:_=false:=zj hr (et (ae J) (et (ae I) (et (ip X) (et (iN aB) (et (ae T) (et (ae B) (et (ae y) (et (ae C) (et (ip S) (et (ae G) (et (ip Y) (et (ip t) (et (ae (aT aG)) (et (iN aJ) (iN bE)))))))))))))))
 exact⟨rfl,kV⟩
 refine Sz (dF t) (Sz (dF t) (Sz (dF t) (Sz (dF t) (Sz (dF t) (Sz (dF t) (fw (.bool false) (Io rfl (dF t) rfl) (nt (jf (sk (Ik (sr (Kz (vP cO 0) (Lz (.slice p g.cz.ls.length Z) N 2 U3 (Kz (vJ g.cz.ls.length) (Mz rfl (Kz (vJ l.length) (fw (.bool (decide (¬ ((g.cz.ls.length:Int)=(l.length:Int))))) (IM (e:= !(decide ((g.cz.ls.length:Int)=(l.length:Int)))) yk decide_not.symm) (nt ?_))))))))))))))))))
 by_cases bF:(g.cz.ls.length:Int)=(l.length:Int)
 refine jF (dF (Lr bF)) (sk (Ik (sr (Kz (vP cO 0) (Lz (.slice p g.cz.ls.length Z) N 2 U3 (Kz (vJ g.cz.ls.length) (Mn rfl (bo ?_))))))))
 have kW:=N.px [] [2] []
 obtain⟨kX,eH⟩:=lF λ (j:Nat) w'=>Own w D w' [row f l.length M (q4 dQ.cells bD) 70 3,sepL (q4 dQ.own bD),row p g.cz.ls.length Z (q4 bz.cells aV) 42 21,sepL (q4 bz.own aV),blk U [vI a.au,vU a.ax,vU a.bG,vU a.aF, .slice aC a.ag.ls.length aF, .slice bB a.ak.ls.length bC, .slice bL a.aK.ls.length bM] 33,row aC a.ag.ls.length aF (q4 aM.cells a.ag.ls) 89 2,row bB a.ak.ls.length bC (q4 ay.cells bY) 60 5,sepL (q4 ay.own bY),row bL a.aK.ls.length bM (q4 aS.cells cu) 56 4,sepL (q4 aS.own cu)]/\j<=g.cz.ls.length/\fZ Q a l g.cz.ls 0=fZ Q a l (r4 j g.cz.ls) j
 refine C1 (λ i:Nat=> [(4, .bool false),(95,vJ i),(94,vJ g.cz.ls.length),(93, .slice p g.cz.ls.length Z),(11, .slice f l.length M),(8,vP U 0),(5, .bool Q)]) kX (λ i=>g.cz.ls.length - i) 0 ⟨rfl,rfl,rfl,rfl,rfl,rfl,rfl,trivial⟩ (eH.2 ⟨kW,e6,rfl⟩) ?_
 rintro j pO iW
 obtain⟨cB,nP,bf⟩:=eH.1 iW
 refine sr (Kz (.bool (decide ((j:Int) < (g.cz.ls.length:Int)))) (nt (Ik ?_)))
 by_cases gH:(j:Int) < (g.cz.ls.length:Int)
 obtain⟨d,bg⟩:=dh (ls:=aV) (i:=j) bz.len f2 (cB.rds (i:=2) rfl) e9
 have iX:=eY dH bg
 have nQ:d.aB.ls.length<=d.aB.c/\d.aB.ls.length<=9223372036854775807:=bq cB (i:=3) rfl (φ:=λ _=>_) (az (Q6.2 ⟨d,D1 bg,b1⟩) bn)
 have nR:d.ah.ls.length<=d.ah.c/\d.ah.ls.length<=9223372036854775807:=bq cB (i:=3) rfl (φ:=λ _=>_) (az (Q6.2 ⟨d,D1 bg, .tail _ b1⟩) bn)
 have nS:d.ag.ls.length<=d.ag.c/\d.ag.ls.length<=9223372036854775807:=bq cB (i:=3) rfl (φ:=λ _=>_) (az (Q6.2 ⟨d,D1 bg, .tail _ b2⟩) bn)
 have bH:=drop_at iX
 refine jT (dT gH) (sk (Ik (bo (sr (Mz rfl (fw (.pointer (some ⟨ab p,ao p+j *21,none⟩)) (Iz (rY) rfl rfl ((cB.rds (i:=2) rfl).addr (i:=j) e6) e6) (fw (.agg (bz.cells d).toArray) (IB rfl (IJ (cs:=(bz.cells d)) Tryz.isAgg42 N9 ((cB.rds (i:=2) rfl).elem bz.len bg f2))) ?_)))))))
 refine dn (iA 0 0 0 0 0 0 0 0 0 0 0 0 0 0 0 false [] [] none 0 0 none 0 0 none 0 0) 42 cB ?_
 intro aj pQ kY
 refine Az rfl ?_
 refine df (bz.cells d) 0 kY N9 ?_
 intro pR kZ
 refine nt (Ik (Ik ?_))
 refine oV 11 [] (IE (IE (bv.block (IE (IE (bv.block (IE IQ))))))) kZ ?_
 intro pU dC
 refine qp aj 0 0 rfl (ql 1 rfl 0 C2 rfl rfl rfl (qt (v:= .bool (decide (¬ (d.av=3)))) 2 rfl (λ _ _=>IM (e:= !(decide (d.av=3))) yk decide_not.symm) (qv 3 rfl rfl ?_)))
 by_cases P:d.av=3
 refine Iy (v:=vP aj 2) (rs:= []) 4 rfl rfl rfl (dF (Lr P)) e7 (λ _ _=>yk) (Iy (v:=vI d.eO) (rs:= []) 5 rfl rfl rfl (dF (Lr P)) e7 (λ _ ⟨_,H9⟩=>IB rfl (bJ.one C2 (I1 (H9.cls (i:=0) rfl) rfl))) (Iy (v:= .slice f l.length M) (rs:= []) 6 rfl rfl rfl (dF (Lr P)) e7 (λ _ _=>IA rfl) (Iy (v:=vJ j) (rs:= []) 7 rfl rfl rfl (dF (Lr P)) e7 (λ _ _=>IA rfl) ?_)))
 obtain⟨o,bV⟩:=iG (ls:=bD) (i:=j) e9
 have bX:=eY eu bV
 refine Iy (v:= .pointer (some ⟨ab f,ao f+j *3,none⟩)) (rs:= []) 8 rfl rfl rfl (dF (Lr P)) e7 (λ _ ⟨_,H9⟩=>Iz (xe) rfl rfl ((H9.rds (i:=1) rfl).addr (i:=j) e6) e6) (Iy (v:= .pointer (some ⟨ab f,ao f+j *3,none⟩)) (rs:= []) 9 rfl rfl rfl (dF (Lr P)) e7 (λ _ _=>yk) (Iy (v:=vI o.bE) (rs:= []) 10 rfl rfl rfl (dF (Lr P)) e7 (λ _ ⟨_,H9⟩=>IB rfl (bJ.one C2 (((H9.rds (i:=1) rfl).elem dQ.len bV f2).at_ (k:=0) rfl))) (Iy (v:= .bool (decide (¬ (d.eO=o.bE)))) (rs:= []) 11 rfl rfl rfl (dF (Lr P)) e7 (λ _ _=>IM (e:= !(decide (d.eO=o.bE))) yk decide_not.symm) (qt (v:= .bool (decide (¬ (d.eO=o.bE)))) 12 rfl (λ _ _=>Io rfl (dF (Lr P)) rfl) (qv 13 rfl rfl ?_)))))
 by_cases ax:d.eO=o.bE
 refine Iy (v:=vP aj 11) (rs:= []) 14 rfl rfl rfl (dF (Lr ax)) e7 (λ _ _=>yk) (Iy (v:=vU d.aF) (rs:= []) 15 rfl rfl rfl (dF (Lr ax)) e7 (λ _ ⟨_,H9⟩=>IB rfl (bJ.one D2 (I1 (H9.cls (i:=0) rfl) rfl))) (Iy (v:=vP U 3) (rs:= []) 16 rfl rfl rfl (dF (Lr ax)) e7 (λ _ _=>yk) (Iy (v:=vU a.aF) (rs:= []) 17 rfl rfl rfl (dF (Lr ax)) e7 (λ _ ⟨_,H9⟩=>IB rfl (bJ.one D2 (I1 (H9.cls (i:=5) rfl) rfl))) (Iy (v:= .bool (decide (¬ ((d.aF:Int)=(a.aF:Int))))) (rs:= []) 18 rfl rfl rfl (dF (Lr ax)) e7 (λ _ _=>IM (e:= !(decide ((d.aF:Int)=(a.aF:Int)))) yk decide_not.symm) (qt (v:= .bool (decide (¬ ((d.aF:Int)=(a.aF:Int))))) 19 rfl (λ _ _=>Io rfl (dF (Lr ax)) rfl) (qv 20 rfl rfl ?_))))))
 by_cases L:(d.aF:Int)=(a.aF:Int)
 refine Iy (v:=vP aj 18) (rs:= []) 21 rfl rfl rfl (dF (Lr L)) e7 (λ _ _=>yk) (Iy (v:= .slice d.aB.A d.aB.ls.length d.aB.c) (rs:= []) 22 rfl rfl rfl (dF (Lr L)) e7 (λ _ ⟨_,H9⟩=>IB rfl (bJ.one R6 (I1 (H9.cls (i:=0) rfl) rfl))) (Iy (v:=vJ d.aB.ls.length) (rs:= []) 23 rfl rfl rfl (dF (Lr L)) e7 (λ _ _=>yk) (Iy (v:= .slice f l.length M) (rs:= []) 24 rfl rfl rfl (dF (Lr L)) e7 (λ _ _=>IA rfl) (Iy (v:=vJ j) (rs:= []) 25 rfl rfl rfl (dF (Lr L)) e7 (λ _ _=>IA rfl) (Iy (v:= .pointer (some ⟨ab f,ao f+j *3,none⟩)) (rs:= []) 26 rfl rfl rfl (dF (Lr L)) e7 (λ _ ⟨_,H9⟩=>Iz (xe) rfl rfl ((H9.rds (i:=1) rfl).addr (i:=j) e6) e6) (Iy (v:= .pointer (some ⟨ab f,ao f+j *3+1,none⟩)) (rs:= []) 27 rfl rfl rfl (dF (Lr L)) e7 (λ _ _=>yk) (Iy (v:= .slice o.aB.A o.aB.ls.length o.aB.c) (rs:= []) 28 rfl rfl rfl (dF (Lr L)) e7 (λ _ ⟨_,H9⟩=>IB rfl (bJ.one R6 (((H9.rds (i:=1) rfl).elem dQ.len bV f2).at_ (k:=1) rfl))) (Iy (v:=vJ o.aB.ls.length) (rs:= []) 29 rfl rfl rfl (dF (Lr L)) e7 (λ _ _=>yk) (Iy (v:= .bool (decide (¬ ((d.aB.ls.length:Int)=(o.aB.ls.length:Int))))) (rs:= []) 30 rfl rfl rfl (dF (Lr L)) e7 (λ _ _=>IM (e:= !(decide ((d.aB.ls.length:Int)=(o.aB.ls.length:Int)))) yk decide_not.symm) (qt (v:= .bool (decide (¬ ((d.aB.ls.length:Int)=(o.aB.ls.length:Int))))) 31 rfl (λ _ _=>Io rfl (dF (Lr L)) rfl) (qn (Iq ?_))))))))))))
 by_cases dD:(d.aB.ls.length:Int)=(o.aB.ls.length:Int)
 refine jF (dF (Lr dD)) (sk (sr (Kz (vP aj 18) (Lz (.slice d.aB.A d.aB.ls.length d.aB.c) dC 0 R6 (Kz (vJ d.aB.ls.length) (Mn rfl (bo ?_)))))))
 have lc:=dC.pf []
 obtain⟨lg,eO⟩:=lF λ (W:Nat) w'=>Own w D w' [blk aj (bz.cells d) 42,row f l.length M (q4 dQ.cells bD) 70 3,sepL (q4 dQ.own bD),row p g.cz.ls.length Z (q4 bz.cells aV) 42 21,sepL (q4 bz.own aV),blk U [vI a.au,vU a.ax,vU a.bG,vU a.aF, .slice aC a.ag.ls.length aF, .slice bB a.ak.ls.length bC, .slice bL a.aK.ls.length bM] 33,row aC a.ag.ls.length aF (q4 aM.cells a.ag.ls) 89 2,row bB a.ak.ls.length bC (q4 ay.cells bY) 60 5,sepL (q4 ay.own bY),row bL a.aK.ls.length bM (q4 aS.cells cu) 56 4,sepL (q4 aS.own cu)]/\W<=d.aB.ls.length/\iP a j (dQ.abs o) (bz.abs d) d.aB.ls 0=iP a j (dQ.abs o) (bz.abs d) (r4 W d.aB.ls) W
 refine C1 (λ i:Nat=> [(4, .bool false),(135,vJ i),(134,vJ d.aB.ls.length),(133, .slice d.aB.A d.aB.ls.length d.aB.c),(132,vP aj 18),(131, .bool (decide (¬ ((d.aB.ls.length:Int)=(o.aB.ls.length:Int))))),(130, .bool (decide (¬ ((d.aB.ls.length:Int)=(o.aB.ls.length:Int))))),(129,vJ o.aB.ls.length),(128, .slice o.aB.A o.aB.ls.length o.aB.c),(127, .pointer (some ⟨ab f,ao f+j *3+1,none⟩)),(126, .pointer (some ⟨ab f,ao f+j *3,none⟩)),(125,vJ j),(124, .slice f l.length M),(123,vJ d.aB.ls.length),(122, .slice d.aB.A d.aB.ls.length d.aB.c),(121,vP aj 18),(120, .bool (decide (¬ ((d.aF:Int)=(a.aF:Int))))),(119, .bool (decide (¬ ((d.aF:Int)=(a.aF:Int))))),(118, .bool (decide (¬ ((d.aF:Int)=(a.aF:Int))))),(117,vU a.aF),(116,vP U 3),(115,vU d.aF),(114,vP aj 11),(113, .bool (decide (¬ (d.eO=o.bE)))),(112, .bool (decide (¬ (d.eO=o.bE)))),(111, .bool (decide (¬ (d.eO=o.bE)))),(110,vI o.bE),(109, .pointer (some ⟨ab f,ao f+j *3,none⟩)),(108, .pointer (some ⟨ab f,ao f+j *3,none⟩)),(107,vJ j),(106, .slice f l.length M),(105,vI d.eO),(104,vP aj 2),(103, .bool (decide (¬ (d.av=3)))),(102, .bool (decide (¬ (d.av=3)))),(101,vI d.av),(100,vP aj 0),(13,vJ j),(14,vP aj 0),(99, .agg (bz.cells d).toArray),(98, .pointer (some ⟨ab p,ao p+j *21,none⟩)),(97,vJ j),(96, .bool (decide ((j:Int) < (g.cz.ls.length:Int)))),(95,vJ j),(94,vJ g.cz.ls.length),(93, .slice p g.cz.ls.length Z),(11, .slice f l.length M),(8,vP U 0),(5, .bool Q)]) lg (λ i=>d.aB.ls.length - i) 0 ⟨rfl,rfl,rfl,rfl,rfl,rfl,rfl,rfl,rfl,rfl,rfl,rfl,rfl,rfl,rfl,rfl,rfl,rfl,rfl,rfl,rfl,rfl,rfl,rfl,rfl,rfl,rfl,rfl,rfl,rfl,rfl,rfl,rfl,rfl,rfl,rfl,rfl,rfl,rfl,rfl,rfl,rfl,rfl,rfl,rfl,rfl,rfl,rfl,rfl,trivial⟩ (eO.2 ⟨lc,e6,rfl⟩) ?_
 rintro W pV iY
 obtain⟨dW,nT,dL⟩:=eO.1 iY
 refine sr (Kz (.bool (decide ((W:Int) < (d.aB.ls.length:Int)))) (nt (Ik ?_)))
 by_cases gI:(W:Int) < (d.aB.ls.length:Int)
 obtain⟨s,fI⟩:=dh (ls:=d.aB.ls) (i:=W) aN.len f2 (bq dW (i:=4) rfl (az (Q6.2 ⟨d,D1 bg,b1⟩) aW)) e9
 have eQ:=drop_at fI
 refine jT (dT gI) (sk (Ik (bo (sr (Mz rfl (fw (.pointer (some ⟨ab d.aB.A,ao d.aB.A+W *6,none⟩)) (Iz (mG) rfl rfl ((bq dW (i:=4) rfl (az (Q6.2 ⟨d,D1 bg,b1⟩) aW)).addr (i:=W) e6) e6) (fw (.agg (aN.cells s).toArray) (IB rfl (IJ (cs:=(aN.cells s)) M8 M7 ((bq dW (i:=4) rfl (az (Q6.2 ⟨d,D1 bg,b1⟩) aW)).elem aN.len fI f2))) ?_)))))))
 refine dn [vI 0, .string ⟨v6 []⟩, .string ⟨v6 []⟩, .string ⟨v6 []⟩, .string ⟨v6 []⟩,vI 0] 72 dW ?_
 intro pW pX lh
 refine Az rfl ?_
 refine df (aN.cells s) 0 lh M7 ?_
 intro pY gJ
 refine ns (La (aN.cells s) gJ 0 M8 M7 ?_)
 obtain⟨⟨di,gK⟩,dM⟩:∃ q:aL × Int,kD s=q:=⟨_,rfl⟩
 obtain⟨p8,iZ,nU,ja,nV⟩:=Iu gJ
 refine cl Tryz.call17 (wU _ _ s di gK iZ dM) ?_
 rintro _ p9 ⟨rfl,jb⟩
 have ll:=ja _ _ jb
 refine Mz rfl (Kz (.agg (aL.cells di).toArray) (Kz (vI gK) ?_))
 refine dn [.string ⟨v6 []⟩, .string ⟨v6 []⟩] 38 ll ?_
 intro qa qb lm
 refine df (aL.cells di) 0 lm M9 ?_
 intro qc lq
 refine An rfl (Ik ?_)
 refine oV 13 [] (IE (bv.block (IE (IE (bv.block (bv.block (IE (IE (bv.block (IE IQ)))))))))) lq ?_
 intro qd gM
 refine qt (v:= .agg (aN.cells s).toArray) 0 rfl (λ _ ⟨_,H9⟩=>IB rfl (IJ (cs:=(aN.cells s)) M8 M7 ((H9.cls (i:=1) rfl).lit (k:=0) (m:=6) rfl))) (qv 1 rfl rfl (qv 2 rfl rfl (qt (v:= .pointer (some ⟨ab f,ao f+j *3,none⟩)) 3 rfl (λ _ ⟨_,H9⟩=>Iz (xe) rfl rfl ((H9.rds (i:=3) rfl).addr (i:=j) e6) e6) (qk (.pointer (some ⟨ab f,ao f+j *3+1,none⟩)) 4 rfl (qt (v:= .slice o.aB.A o.aB.ls.length o.aB.c) 5 rfl (λ _ ⟨_,H9⟩=>IB rfl (bJ.one R6 (((H9.rds (i:=3) rfl).elem dQ.len bV f2).at_ (k:=1) rfl))) (qv 6 rfl rfl ?_))))))
 obtain⟨F,dN⟩:=iG (ls:=o.aB.ls) (i:=W) e9
 refine qt (v:= .pointer (some ⟨ab o.aB.A,ao o.aB.A+W *6,none⟩)) 7 rfl (λ _ ⟨_,H9⟩=>Iz (mG) rfl rfl ((bq H9 (i:=4) rfl (az (Q6.2 ⟨o,D1 bV,b1⟩) aW)).addr (i:=W) e6) e6) (qt (v:= .agg (aN.cells F).toArray) 8 rfl (λ _ ⟨_,H9⟩=>IB rfl (IJ (cs:=(aN.cells F)) M8 M7 ((bq H9 (i:=4) rfl (az (Q6.2 ⟨o,D1 bV,b1⟩) aW)).elem aN.len dN f2))) (qt (v:= .bool (decide (¬ ((s.av=F.av)/\(s.aZ=F.aZ)/\(s.aG=F.aG)/\(s.aJ=F.aJ)/\(s.aR=F.aR)/\(s.aV=F.aV))))) 9 rfl (λ _ _=>IM (e:= !(decide ((s.av=F.av)/\(s.aZ=F.aZ)/\(s.aG=F.aG)/\(s.aJ=F.aJ)/\(s.aR=F.aR)/\(s.aV=F.aV)))) (Jo rfl rfl e7 rfl (iQ.struct N3 e7 (iC.dec (iC.cons (u:=vI s.av) (v:=vI F.av) f2 (λ _=>by kernel_rfl) (λ _=>by kernel_rfl) (iQ.int v8) (iC.cons (u:= .string ⟨v6 s.aZ⟩) (v:= .string ⟨v6 F.aZ⟩) f2 (λ _=>by kernel_rfl) (λ _=>by kernel_rfl) (iQ.string v9) (iC.cons (u:= .string ⟨v6 s.aG⟩) (v:= .string ⟨v6 F.aG⟩) f2 (λ _=>by kernel_rfl) (λ _=>by kernel_rfl) (iQ.string v9) (iC.cons (u:= .string ⟨v6 s.aJ⟩) (v:= .string ⟨v6 F.aJ⟩) f2 (λ _=>by kernel_rfl) (λ _=>by kernel_rfl) (iQ.string v9) (iC.cons (u:= .string ⟨v6 s.aR⟩) (v:= .string ⟨v6 F.aR⟩) f2 (λ _=>by kernel_rfl) (λ _=>by kernel_rfl) (iQ.string v9) (iC.cons (u:=vI s.aV) (v:=vI F.aV) f2 (λ _=>by kernel_rfl) (λ _=>by kernel_rfl) (iQ.int v8) (iC.nil.up (Lp _)))))))) ((congrArg (decide (s.av=F.av) && ·) ((congrArg (decide (s.aZ=F.aZ) && ·) ((congrArg (decide (s.aG=F.aG) && ·) ((congrArg (decide (s.aJ=F.aJ) && ·) ((congrArg (decide (s.aR=F.aR) && ·) o9).trans gG)).trans gG)).trans gG)).trans gG)).trans gG)))) decide_not.symm) (qv 10 rfl rfl ?_)))
 by_cases ak:(s.av=F.av)/\(s.aZ=F.aZ)/\(s.aG=F.aG)/\(s.aJ=F.aJ)/\(s.aR=F.aR)/\(s.aV=F.aV)
 refine Iy (v:=vP U 4) (rs:= []) 11 rfl rfl rfl (dF (Lr ak)) e7 (λ _ _=>yk) (Iy (v:= .slice aC a.ag.ls.length aF) (rs:= []) 12 rfl rfl rfl (dF (Lr ak)) e7 (λ _ ⟨_,H9⟩=>IB rfl (bJ.one V7 (I1 (H9.cls (i:=7) rfl) rfl))) (Iy (v:=vP aj 2) (rs:= []) 13 rfl rfl rfl (dF (Lr ak)) e7 (λ _ _=>yk) (Iy (v:=vI d.eO) (rs:= []) 14 rfl rfl rfl (dF (Lr ak)) e7 (λ _ ⟨_,H9⟩=>IB rfl (bJ.one C2 (I1 (H9.cls (i:=2) rfl) rfl))) (Iy (v:= .agg (aL.cells di).toArray) (rs:= []) 15 rfl rfl rfl (dF (Lr ak)) e7 (λ _ ⟨_,H9⟩=>IB rfl (IJ (cs:=(aL.cells di)) Tryz.isAgg38 M9 ((H9.cls (i:=0) rfl).lit (k:=0) (m:=2) rfl))) ?_))))
 obtain⟨fo,eT⟩:∃ q,lv a.ag.ls d.eO di=q:=⟨_,rfl⟩
 obtain⟨qf,jc,nW,jd,je⟩:=Iu gM
 refine Jl 16 rfl rfl rfl (dF (Lr ak)) e7 (IP Tryz.call18 rfl (wV _ _ aC a.ag.ls.length aF a.ag.ls d.eO di fo jc (je _ 8 _ rfl aW) rfl e6 eT) ?_)
 rintro _ qg ⟨rfl,jg⟩
 have fJ:=jd _ _ jg
 refine⟨.inr ⟨_,fJ⟩, ?_⟩
 refine Iy (v:= .bool (!fo)) (rs:= []) 17 rfl rfl rfl (dF (Lr ak)) e7 (λ _ _=>yk) (qt (v:= .bool (!fo)) 18 rfl (λ _ _=>Io rfl (dF (Lr ak)) rfl) (qn (Iq ?_)))
 rcases Ls (fo) with dX | dX
 refine jF (cn dX) (IU (bN (Iq (Il (fw (vJ (W+1)) (Ir (e:=C3.wrap ((W:Int)+1)) yk f0) (Mz rfl (WL.nil ?_)))))))
 have lu:=fJ.px [] [0,1] []
 exact II (W+1) ⟨rfl,rfl,rfl,rfl,rfl,rfl,rfl,rfl,rfl,rfl,rfl,rfl,rfl,rfl,rfl,rfl,rfl,rfl,rfl,rfl,rfl,rfl,rfl,rfl,rfl,rfl,rfl,rfl,rfl,rfl,rfl,rfl,rfl,rfl,rfl,rfl,rfl,rfl,rfl,rfl,rfl,rfl,rfl,rfl,rfl,rfl,rfl,rfl,rfl,trivial⟩ (eO.2 ⟨lu,e6,et (dL) (et (congrArg (λ q=>iP a j (dQ.abs o) (bz.abs d) q W) eQ) (et (ae dM) (et (ae (aT dN)) (et (ip ak) (et (ae eT) (ip dX))))))⟩) (by show d.aB.ls.length - (W+1) < d.aB.ls.length - W; omega)
 refine jT (cn dX) (sr (An rfl (rt (bR (tR (tR (bR (bR (tR (tR (bR (tR (rs ?_)))))))))))))
 have lw:=fJ.pk []
 obtain rfl:_=false:=zj hr (et (ae J) (et (ae I) (et (ip X) (et (iN aB) (et (ae T) (et (ae B) (et (ae y) (et (ae C) (et (ip S) (et (ae G) (et (ip Y) (et (iN t) (et (ip bF) (gL (et (bf) (et (congrArg (λ q=>fZ Q a l q j) bH) (et (ip P) (et (ae (aT bX)) (et (ip ax) (et (ip L) (et (ip dD) (oU (et (dL) (et (congrArg (λ q=>iP a j (dQ.abs o) (bz.abs d) q W) eQ) (et (ae dM) (et (ae (aT dN)) (et (ip ak) (et (ae eT) (fP dX)))))))))))))))))))))))))))))
 exact⟨rfl,lw⟩
 refine Ip (rs:= []) 11 rfl rfl rfl (dT ak) e7 (Ip (rs:= []) 12 rfl rfl rfl (dT ak) e7 (Ip (rs:= []) 13 rfl rfl rfl (dT ak) e7 (Ip (rs:= []) 14 rfl rfl rfl (dT ak) e7 (Ip (rs:= []) 15 rfl rfl rfl (dT ak) e7 (Ip (rs:= []) 16 rfl rfl rfl (dT ak) e7 (Ip (rs:= []) 17 rfl rfl rfl (dT ak) e7 (qt (v:= .bool true) 18 rfl (λ _ _=>Iw rfl (dT ak) rfl) (qn (Iq (jt (sr (An rfl (rt (bR (tR (tR (bR (bR (tR (tR (bR (tR (rs ?_)))))))))))))))))))))))
 have lC:=gM.pk []
 obtain rfl:_=false:=zj hr (et (ae J) (et (ae I) (et (ip X) (et (iN aB) (et (ae T) (et (ae B) (et (ae y) (et (ae C) (et (ip S) (et (ae G) (et (ip Y) (et (iN t) (et (ip bF) (gL (et (bf) (et (congrArg (λ q=>fZ Q a l q j) bH) (et (ip P) (et (ae (aT bX)) (et (ip ax) (et (ip L) (et (ip dD) (oU (et (dL) (et (congrArg (λ q=>iP a j (dQ.abs o) (bz.abs d) q W) eQ) (et (ae dM) (et (ae (aT dN)) (iN ak)))))))))))))))))))))))))))
 exact⟨rfl,lC⟩
 refine jF (dF gI) (C5 (IC ?_))
 have jh:iP a j (dQ.abs o) (bz.abs d) d.aB.ls 0=B7 ():=et (dL) (et (congrArg (λ q=>iP a j (dQ.abs o) (bz.abs d) q W) (dZ (ls:=d.aB.ls) (i:=W) e6)) rfl)
 refine IC (IK (bN (Iq (Il (fw (vJ (j+1)) (Ir (e:=C3.wrap ((j:Int)+1)) yk f0) (Mz rfl (WL.nil ?_)))))))
 have lD:=dW.px [] [0] []
 exact II (j+1) ⟨rfl,rfl,rfl,rfl,rfl,rfl,rfl,trivial⟩ (eH.2 ⟨lD,e6,et (bf) (et (congrArg (λ q=>fZ Q a l q j) bH) (et (ip P) (et (ae (aT bX)) (et (ip ax) (et (ip L) (et (ip dD) (sH jh)))))))⟩) (by show g.cz.ls.length - (j+1) < g.cz.ls.length - j; omega)
 refine jT (dT dD) (sr (An rfl (rt (tR (bR (tR (tR (bR (tR (rs ?_))))))))))
 have lG:=dC.pk []
 obtain rfl:_=false:=zj hr (et (ae J) (et (ae I) (et (ip X) (et (iN aB) (et (ae T) (et (ae B) (et (ae y) (et (ae C) (et (ip S) (et (ae G) (et (ip Y) (et (iN t) (et (ip bF) (gL (et (bf) (et (congrArg (λ q=>fZ Q a l q j) bH) (et (ip P) (et (ae (aT bX)) (et (ip ax) (et (ip L) (iN dD)))))))))))))))))))))
 exact⟨rfl,lG⟩
 refine Ip (rs:= []) 21 rfl rfl rfl (dT L) e7 (Ip (rs:= []) 22 rfl rfl rfl (dT L) e7 (Ip (rs:= []) 23 rfl rfl rfl (dT L) e7 (Ip (rs:= []) 24 rfl rfl rfl (dT L) e7 (Ip (rs:= []) 25 rfl rfl rfl (dT L) e7 (Ip (rs:= []) 26 rfl rfl rfl (dT L) e7 (Ip (rs:= []) 27 rfl rfl rfl (dT L) e7 (Ip (rs:= []) 28 rfl rfl rfl (dT L) e7 (Ip (rs:= []) 29 rfl rfl rfl (dT L) e7 (Ip (rs:= []) 30 rfl rfl rfl (dT L) e7 (qt (v:= .bool true) 31 rfl (λ _ _=>Iw rfl (dT L) rfl) (qn (Iq (jt (sr (An rfl (rt (tR (bR (tR (tR (bR (tR (rs ?_)))))))))))))))))))))))
 have lI:=dC.pk []
 obtain rfl:_=false:=zj hr (et (ae J) (et (ae I) (et (ip X) (et (iN aB) (et (ae T) (et (ae B) (et (ae y) (et (ae C) (et (ip S) (et (ae G) (et (ip Y) (et (iN t) (et (ip bF) (gL (et (bf) (et (congrArg (λ q=>fZ Q a l q j) bH) (et (ip P) (et (ae (aT bX)) (et (ip ax) (iN L))))))))))))))))))))
 exact⟨rfl,lI⟩
 refine Ip (rs:= []) 14 rfl rfl rfl (dT ax) e7 (Ip (rs:= []) 15 rfl rfl rfl (dT ax) e7 (Ip (rs:= []) 16 rfl rfl rfl (dT ax) e7 (Ip (rs:= []) 17 rfl rfl rfl (dT ax) e7 (Ip (rs:= []) 18 rfl rfl rfl (dT ax) e7 (qt (v:= .bool true) 19 rfl (λ _ _=>Iw rfl (dT ax) rfl) (qv 20 rfl rfl (Ip (rs:= []) 21 rfl rfl rfl rfl e7 (Ip (rs:= []) 22 rfl rfl rfl rfl e7 (Ip (rs:= []) 23 rfl rfl rfl rfl e7 (Ip (rs:= []) 24 rfl rfl rfl rfl e7 (Ip (rs:= []) 25 rfl rfl rfl rfl e7 (Ip (rs:= []) 26 rfl rfl rfl rfl e7 (Ip (rs:= []) 27 rfl rfl rfl rfl e7 (Ip (rs:= []) 28 rfl rfl rfl rfl e7 (Ip (rs:= []) 29 rfl rfl rfl rfl e7 (Ip (rs:= []) 30 rfl rfl rfl rfl e7 (qt (v:= .bool true) 31 rfl (λ _ _=>Iw rfl rfl rfl) (qn (Iq (jt (sr (An rfl (rt (tR (bR (tR (tR (bR (tR (rs ?_))))))))))))))))))))))))))))))
 have lJ:=dC.pk []
 obtain rfl:_=false:=zj hr (et (ae J) (et (ae I) (et (ip X) (et (iN aB) (et (ae T) (et (ae B) (et (ae y) (et (ae C) (et (ip S) (et (ae G) (et (ip Y) (et (iN t) (et (ip bF) (gL (et (bf) (et (congrArg (λ q=>fZ Q a l q j) bH) (et (ip P) (et (ae (aT bX)) (iN ax)))))))))))))))))))
 exact⟨rfl,lJ⟩
 refine Ip (rs:= []) 4 rfl rfl rfl (dT P) e7 (Ip (rs:= []) 5 rfl rfl rfl (dT P) e7 (Ip (rs:= []) 6 rfl rfl rfl (dT P) e7 (Ip (rs:= []) 7 rfl rfl rfl (dT P) e7 (Ip (rs:= []) 8 rfl rfl rfl (dT P) e7 (Ip (rs:= []) 9 rfl rfl rfl (dT P) e7 (Ip (rs:= []) 10 rfl rfl rfl (dT P) e7 (Ip (rs:= []) 11 rfl rfl rfl (dT P) e7 (qt (v:= .bool true) 12 rfl (λ _ _=>Iw rfl (dT P) rfl) (qv 13 rfl rfl (Ip (rs:= []) 14 rfl rfl rfl rfl e7 (Ip (rs:= []) 15 rfl rfl rfl rfl e7 (Ip (rs:= []) 16 rfl rfl rfl rfl e7 (Ip (rs:= []) 17 rfl rfl rfl rfl e7 (Ip (rs:= []) 18 rfl rfl rfl rfl e7 (qt (v:= .bool true) 19 rfl (λ _ _=>Iw rfl rfl rfl) (qv 20 rfl rfl (Ip (rs:= []) 21 rfl rfl rfl rfl e7 (Ip (rs:= []) 22 rfl rfl rfl rfl e7 (Ip (rs:= []) 23 rfl rfl rfl rfl e7 (Ip (rs:= []) 24 rfl rfl rfl rfl e7 (Ip (rs:= []) 25 rfl rfl rfl rfl e7 (Ip (rs:= []) 26 rfl rfl rfl rfl e7 (Ip (rs:= []) 27 rfl rfl rfl rfl e7 (Ip (rs:= []) 28 rfl rfl rfl rfl e7 (Ip (rs:= []) 29 rfl rfl rfl rfl e7 (Ip (rs:= []) 30 rfl rfl rfl rfl e7 (qt (v:= .bool true) 31 rfl (λ _ _=>Iw rfl rfl rfl) (qn (Iq (jt (sr (An rfl (rt (tR (bR (tR ?_))))))))))))))))))))))))))))))))))))
 refine tR (bR (tR (rs ?_)))
 have lK:=dC.pk []
 obtain rfl:_=false:=zj hr (et (ae J) (et (ae I) (et (ip X) (et (iN aB) (et (ae T) (et (ae B) (et (ae y) (et (ae C) (et (ip S) (et (ae G) (et (ip Y) (et (iN t) (et (ip bF) (gL (et (bf) (et (congrArg (λ q=>fZ Q a l q j) bH) (iN P)))))))))))))))))
 exact⟨rfl,lK⟩
 refine jF (dF gH) (C5 (IC ?_))
 have ji:fZ Q a l g.cz.ls 0=B7 ():=et (bf) (et (congrArg (λ q=>fZ Q a l q j) (dZ (ls:=g.cz.ls) (i:=j) e6)) rfl)
 refine IC (IK (Iq (Ik ?_)))
 have lM:=cB.pk []
 refine Il (Mz rfl (An rfl (rt (rs ?_))))
 have lN:=lM.pk []
 obtain rfl:_=Q:=zj hr (et (ae J) (et (ae I) (et (ip X) (et (iN aB) (et (ae T) (et (ae B) (et (ae y) (et (ae C) (et (ip S) (et (ae G) (et (ip Y) (et (iN t) (et (ip bF) (mF ji))))))))))))))
 exact⟨rfl,lN⟩
 refine jT (dT bF) (sr (An rfl (rt (tR (rs ?_)))))
 have lQ:=N.pk []
 obtain rfl:=zj hr zq13
 exact⟨rfl,lQ⟩
 refine jT (dT Y) (sr (An rfl (rt (tR (rs ?_)))))
 have lS:=N.pk []
 obtain rfl:=zj hr zq11
 exact⟨rfl,lS⟩
 refine jT (dT S) (sr (Mz rfl (Mz rfl ?_)))
 rcases Ls (Q) with bP | bP
 refine I7 (v:=vI bO) rfl rfl bP rfl (IA rfl) (Gz (.bool (decide (bO=180))) bP (fw (.bool (decide (bO=180))) (Iw rfl bP rfl) (An rfl (rt (tR (rs ?_))))))
 have lT:=eX.pk []
 obtain rfl:=zj hr zq10
 exact⟨rfl,lT⟩
 refine Sz bP (Sz bP (fw (.bool false) (Io rfl bP rfl) (An rfl (rt (tR (rs ?_))))))
 have lU:=eX.pk []
 obtain rfl:=zj hr zq10
 exact⟨rfl,lU⟩
 refine Sz (dT X) (Sz (dT X) (Sz (dT X) (fw (.bool true) (Iw rfl (dT X) rfl) (nt (jt (sr (Az rfl (An rfl (rt (tR (Fin.res (lH rfl rfl rfl) (Mz rfl (Kz (.pointer none) (Kz (vI 1) (Az rfl (An rfl (Ik (Ik ?_))))))))))))))))))
 have gN:=fD.pk []
 refine Il (Mz rfl (Kz (.bool true) (nt (jt (sr (Mz rfl (Mz rfl ?_)))))))
 rcases Ls (Q) with bQ | bQ
 refine I7 (v:=vI 1) rfl rfl bQ rfl (IA rfl) (Gz (.bool true) bQ (fw (.bool true) (Iw rfl bQ rfl) (An rfl (rt (tR (rs ?_))))))
 have lV:=gN.pk []
 obtain rfl:=zj hr zq4
 exact⟨rfl,lV⟩
 refine Sz bQ (Sz bQ (fw (.bool false) (Io rfl bQ rfl) (An rfl (rt (tR (rs ?_))))))
 have lW:=gN.pk []
 obtain rfl:=zj hr zq4
 exact⟨rfl,lW⟩
end
theorem GA {w:World} {a:jW} (h:JR w a):zb (jW.abs a):=by
  obtain⟨_,b,v,e,_,hd,hl⟩:=h
  refine⟨b,v,e,λ x hx=> ?_,λ x hx=> ?_⟩
  . obtain⟨y,hy,rfl⟩:=List.mem_map.1 hx
    have:=hd.2.2.2 y hy
    exact⟨this.1,this.2.2.1,this.2.2.2.1⟩
  . obtain⟨y,hy,rfl⟩:=List.mem_map.1 hx
    have:=hl.2.2.2 y hy
    exact⟨this.2.1,this.2.2.1⟩
theorem Bc {r:bZ} {j:Nat} {x:jA} {z:bW} (ho:∀ o ∈ x.aB.ls,lv r.ag.ls z.eO (kD o).1=true):∀ (q:List aN) (k:Nat),List.drop k x.aB.ls=q->gT r j x z q k= .inl ()
  | [],k,_=>rfl
  | y::q,k,hd=>by
    obtain⟨hy,a⟩:=rW hd
    rw [gT]
    simp only [dw]
    rw [aT hy,if_pos ⟨rfl,rfl,rfl,rfl,rfl,rfl⟩,if_pos (ho y (List.mem_of_getElem? hy))]
    exact Bc ho q (k+1) a
theorem zl (r:bZ) (j:Nat) (x:jA) (z:bW):∀ (q:List aN) (k:Nat),iP r j x z q k=gT r j x z q k
  | [],_=>rfl
  | y::q,k=>by simp only [gT,iP,dw,zl r j x z q]
theorem zm (b:Bool) (r:bZ) (qs:List jA):∀ (q:List bW) (k:Nat),fZ b r qs q k=eZ b r qs q k
  | [],_=>rfl
  | y::q,k=>by simp only [eZ,fZ,dw,zl,zm b r qs q]
theorem Be {b:Bool} {r:bZ} {n low:Nat} {ps:List fu} {qs:List jA} (hm:List.map DR ps=List.map DT qs) (ho:∀ y ∈ ps, ∀ z ∈ y.aB.ls,lv r.ag.ls y.bE (kD z).1=true):∀ (q:List fu) (k:Nat),List.drop k ps=q->eZ b r qs (List.map (qg n low r.aF) q) k= .inl ()
  | [],k,_=>rfl
  | y::q,k,hd=>by
    obtain⟨hy,a⟩:=rW hd
    have e:(List.map DT qs)[k]? =some (DR y):=by rw [<- hm,List.getElem?_map,hy]; rfl
    rw [List.getElem?_map] at e
    obtain⟨x,hx,d⟩:=Option.map_eq_some_iff.1 e
    have f:x.bE=y.bE:=(Prod.mk.inj d).1
    have c:x.aB.ls=y.aB.ls:=(Prod.mk.inj d).2
    rw [List.map_cons,eZ]
    simp only [dw]
    rw [if_pos (show (qg n low r.aF y).av=3 from rfl),aT hx,if_pos (show (qg n low r.aF y).eO=x.bE from f.symm),if_pos (show (((qg n low r.aF y).aF:Nat):Int)=(r.aF:Int) from rfl),if_pos (show ((List.length (qg n low r.aF y).aB.ls:Nat):Int)=((List.length x.aB.ls:Nat):Int) by rw [c]; rfl)]
    refine(sH (Bc (r:=r) (j:=k) (x:=x) (z:=qg n low r.aF y) (λ o h=>ho y (List.mem_of_getElem? hy) o (c ▸ h)) _ 0 (show List.drop 0 x.aB.ls=y.aB.ls from c))).trans ?_
    exact Be hm ho q (k+1) a
def E8 (b:Bool) (r:bZ) (l:List aN) (d:kG) (e:Int):Bool:=
  if e=0 then bnd (sS r.ag.ls l) λ a=>if a.2=0 then if(d.cz.ls.length:Int)=1 then bnd (List.getD d.cz.ls 0 default) λ c=>if c.av=2 then if b=true then if c.dK=2 then decide ((r.ak.ls.length:Int) > 0) else false else false else if(d.cz.ls.length:Int)=(a.1.length:Int) then lp (eZ b r a.1 d.cz.ls 0) λ _=>b else false else if(d.cz.ls.length:Int)=(a.1.length:Int) then lp (fZ b r a.1 d.cz.ls 0) λ _=>b else false else false else if b=true then decide (e=180) else false
theorem CP {m:aD} {x:bW} (hk:x.av=1) (ht:x.eO=0) (hf:x.aI=12) (ha:m.aC.ls= []) (h:m.bA.dB=false) (hb:x.ax=m.aa.ax) (H:oZ m.aa.ag.ls):E8 true m.aa x.aB.ls (dY m x).1 (dY m x).2.1=true:=by
  unfold E8
  rcases EA (m:=m) hk ht hf with ⟨i,a,j⟩ | a
  . have ho:=Fz i hk
    obtain⟨ps,qs,d,k,f⟩:=Gw H ho
    have hl:List.length ps=List.length qs:=by
      have:=congrArg List.length f
      rwa [List.length_map,List.length_map] at this
    rw [if_pos a,k,dw,if_pos rfl,j,Br ha h hf hb]
    rcases DW (c:=2) (x:=x) ha d with ⟨n,low,e⟩ | ⟨z,e,l,o,p⟩
    . rw [e,List.length_map]
      have hw:=Be (b:=true) (r:=m.aa) (n:=n) (low:=low) f (DV H ho d) ps 0 rfl
      have g:lp (eZ true m.aa qs (List.map (qg n low m.aa.aF) ps) 0) (λ _=>true)=true:=mF hw
      by_cases c:((List.length ps:Nat):Int)=1
      . rw [if_pos c]
        cases ps with
        | nil=>exact absurd c f2
        | cons y ps=>
          rw [dw,show List.getD (List.map (qg n low m.aa.aF) (y::ps)) 0 default=qg n low m.aa.aF y from rfl,if_neg (show ¬ (qg n low m.aa.aF y).av=2 from by show ¬ (3:Int)=2; decide),if_pos (by rw [hl]),g]
      . rw [if_neg c,if_pos (by rw [hl]),zm,g]
    . rw [e,if_pos (show ((List.length [z]:Nat):Int)=1 from rfl),dw,show List.getD [z] 0 default=z from rfl,if_pos l,if_pos rfl,if_pos o]
      exact decide_eq_true e6
  . rw [if_neg (by rw [a]; decide),if_pos rfl,a]; rfl
theorem D5 {a:bZ} {l1:List aN}:rA a l1=true:=by
  unfold rA
  refine(ae DX).trans ?_
  rw [dw]
  by_cases h:gq a=0
  . rw [if_pos h]
    by_cases b:(a.ax:Int)=2147483647
    . rw [if_pos b,if_pos rfl]
    . rw [if_neg b]
      refine(ae (show iq a=a from rfl)).trans ?_
      refine(ae (rfl:_=rz a)).trans ?_
      refine(ae (show lL (rz a)=(rz a).aa from rfl)).trans ?_
      exact CP (m:=rz a) (x:=bW.mk 1 12 0 0 0 0 4611686018427387904 (rz a).aa.ax 0 0 0 0 0 0 0 false (aL.mk [] []) (Ll.mk l1) (Ll.mk []) (Ll.mk [])) rfl rfl rfl rfl rfl rfl (ww.1 (DY h).1)
  . rw [if_neg h,if_pos rfl]
open List renaming length_map->s3
section
open Go.RowKit
theorem Bf (w) (b:jW) (a:JR w b) (i:Sv aN) (d:mo w 6 80 aN.cells (JF w) i):
    Calls Tryz.prog 6 #[.agg #[vI b.au,vU b.ax,vU b.bG,vU b.aF, .slice b.ag.A b.ag.ls.length b.ag.c, .slice b.ak.A b.ak.ls.length b.ak.c, .slice b.aK.A b.aK.ls.length b.aK.c], .slice i.A i.ls.length i.c] w λ e w'=>e= .returned (.bool true)/\Below w.heap.size w w':=
 (wQ w (λ _:Nat=>False) (jW.abs b) b.ag.A b.ag.ls.length b.ag.c b.ak.A b.ak.ls.length b.ak.c b.ak.ls b.aK.A b.aK.ls.length b.aK.c b.aK.ls i.A i.ls.length i.c i.ls true (KE w) rfl (aY.ro a.2.2.2.2.1.2.2.1 f2) (show b.ag.ls.length<=_/\b.ag.ls.length<=_ from by have k:=a.2.2.2.2.1.1; have h:=a.2.2.2.2.1.2.1; exact⟨k,e6⟩) rfl (s3 ..).symm (show Ro w _ λ w'=>aY w' _ _ (s0 (s5 _ _)) _ from by rw [s3]; exact aY.ro a.2.2.2.2.2.1.2.2.1 f2) (show s0 (s5 _ _)<=_/\s0 (s5 _ _)<=_ from by rw [s3]; have k:=a.2.2.2.2.2.1.1; have h:=a.2.2.2.2.2.1.2.1; exact⟨k,e6⟩) (λ f g=>⟨aY.ro (a.2.2.2.2.2.1.2.2.2 f g).2.2.2.2.2.2.1 f2,(by have h:=(a.2.2.2.2.2.1.2.2.2 f g).2.2.2.2.1; have j:=(a.2.2.2.2.2.1.2.2.2 f g).2.2.2.2.2.1; omega)⟩) rfl (s3 ..).symm (show Ro w _ λ w'=>aY w' _ _ (s0 (s5 _ _)) _ from by rw [s3]; exact aY.ro a.2.2.2.2.2.2.2.2.1 f2) (show s0 (s5 _ _)<=_/\s0 (s5 _ _)<=_ from by rw [s3]; have k:=a.2.2.2.2.2.2.1; have h:=a.2.2.2.2.2.2.2.1; exact⟨k,e6⟩) (λ f g=>⟨aY.ro (a.2.2.2.2.2.2.2.2.2 f g).2.2.2.2.2.1 f2,(by have h:=(a.2.2.2.2.2.2.2.2.2 f g).2.2.2.1; have j:=(a.2.2.2.2.2.2.2.2.2 f g).2.2.2.2.1; omega),(λ l m=>⟨aY.ro ((a.2.2.2.2.2.2.2.2.2 f g).2.2.2.2.2.2 l m).2.2.2.2.1 f2,(by have h:=((a.2.2.2.2.2.2.2.2.2 f g).2.2.2.2.2.2 l m).2.2.1; have j:=((a.2.2.2.2.2.2.2.2.2 f g).2.2.2.2.2.2 l m).2.2.2.1; omega)⟩)⟩) (aY.ro d.2.2.1 f2) rfl (by have:=d.1; have:=d.2.1; omega) d.1 a.1 a.2.1 a.2.2.1 a.2.2.2.1 (show b.ag.ls.length *_<=_ from by have h:=a.2.2.2.2.1.1; have j:=a.2.2.2.2.1.2.1; omega) (show s0 (s5 _ _) *_<=_ from by rw [s3]; have h:=a.2.2.2.2.2.1.1; have j:=a.2.2.2.2.2.1.2.1; omega) (show s0 (s5 _ _) *_<=_ from by rw [s3]; have h:=a.2.2.2.2.2.2.1; have j:=a.2.2.2.2.2.2.2.1; omega) (by have:=d.1; have:=d.2.1; omega) (GA a) (by have h:=d.1; have j:=d.2.1; omega) (D5)).mono λ e w' ⟨v,he,hv,H⟩=>⟨by rw [he,hv],H.below⟩
end
end Go.Proofs.YtbkagebjhbphaaaGreat
