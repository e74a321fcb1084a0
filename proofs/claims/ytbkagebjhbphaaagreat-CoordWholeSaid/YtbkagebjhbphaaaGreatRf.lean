/-
 the document's answers.
-/
import Derived.Test.YtbkagebjhbphaaaGreatLv
namespace Go.Proofs.YtbkagebjhbphaaaGreat
open Int renaming toNat→C6
open IntKind renaming i64→C3
open List renaming drop→r4,flatMap→q4,flatMap_append→r5,getD→B8,length→s0,length_append→o2,length_cons→s1,length_nil→E7,take→r3,toArray→v6
open Sum renaming inl→B7,inr→B9
open Sv renaming mk→G3
open _root_.Go.Proofs.Tryz renaming call36→U4,call38→U7,call67→U5,call70→V1,isAgg3→C2,isAgg38→N0,isAgg39→R6,isAgg58→D4,isAgg70→V2,isAgg72→M8,isAgg89→U6,isAgg9→C0,prog→v5,sizeOf38→M9,sizeOf39→U9,sizeOf58→V0,sizeOf70→U8,sizeOf72→M7,sizeOf89→P3,underlying39→F2,underlying58→y4,underlying9→v9
open WL renaming nil→C4
open Wp renaming exit→C5,loop→C1
set_option maxRecDepth 100000
open Go.RowKit
set_option linter.unusedVariables false
set_option linter.unusedSectionVars false
set_option linter.unusedSimpArgs false
def iO (a:List UInt8):Int:=
 if((a.length:Nat):Int) < 1 then 20 else if((a.length:Nat):Int) > 12 then 20 else 0
theorem mg (w D b d) (H:Own w D w []) (hr:iO b=d):
    Calls v5 67 #[.string ⟨v6 b⟩] w (dA fun v w'=>v=vI d∧Own w D w' []∧(¬ (d=0)∨(1≤b.length∧b.length≤12))):=by
 refine cb Tryz.func67 ?_
 refine sr (An rfl (Ik (sr (Mz rfl (Kz (vJ b.length) (Kz (.bool (decide (((b.length:Nat):Int) < 1))) (Mz rfl ?_)))))))
 by_cases a:((b.length:Nat):Int) < 1
 refine Sz (dT a) (Sz (dT a) (Sz (dT a) (fw (.bool true) (Iw rfl (dT a) rfl) (nt (jt (sr (An rfl (rt (tR (rs ?_))))))))))
 have e:=H.pk []
 obtain rfl:_=20:=hr.symm.trans (ip a)
 exact⟨rfl,e,e6⟩
 refine gw (.string ⟨v6 b⟩) (dF a) (IA rfl) (Gz (vJ b.length) (dF a) (Gz (.bool (decide (((b.length:Nat):Int) > 12))) (dF a) (fw (.bool (decide (((b.length:Nat):Int) > 12))) (Io rfl (dF a) rfl) (nt ?_))))
 by_cases c:((b.length:Nat):Int) > 12
 refine jT (dT c) (sr (An rfl (rt (tR (rs ?_)))))
 have f:=H.pk []
 obtain rfl:_=20:=hr.symm.trans (et (iN a) (ip c))
 exact⟨rfl,f,e6⟩
 refine jF (dF c) (sk (sr (An rfl (rt (rs ?_)))))
 have g:=H.pk []
 obtain rfl:_=0:=hr.symm.trans (et (iN a) (iN c))
 exact⟨rfl,g,e6⟩
def gF (a:aL):Int:=
 if((a.aJ.length:Nat):Int) > 12 then 21 else if((a.aR.length:Nat):Int) > 12 then 21 else if a.aR≠([]) then if a.aR≤a.aJ then 21 else 0 else 0
theorem lZ (w D) (d:aL) (n) (H:Own w D w []) (hr:gF d=n):
    Calls v5 36 #[.agg (aL.cells d).toArray] w (dA fun v w'=>v=vI n∧Own w D w' []):=by
 refine cb Tryz.func36 ?_
 refine sr ?_
 refine dn (aL.cells d) 38 H ?_
 intro g o f
 refine An rfl (Ik (sr (Kz (vP g 0) (Lz (.string ⟨v6 d.aJ⟩) f 0 C0 (Kz (vJ d.aJ.length) (Kz (.bool (decide (((d.aJ.length:Nat):Int) > 12))) (Mz rfl ?_)))))))
 by_cases b:((d.aJ.length:Nat):Int) > 12
 refine Sz (dT b) (Sz (dT b) (Sz (dT b) (Sz (dT b) (fw (.bool true) (Iw rfl (dT b) rfl) (Mz rfl (Sz rfl (Sz rfl (Sz rfl (Sz rfl (IG rfl rfl rfl (IG rfl rfl rfl (IG rfl rfl rfl (IG rfl rfl rfl (IG rfl rfl rfl (Sz rfl (fw (.bool true) (Iw rfl rfl rfl) (nt (jt (sr (An rfl (rt (tR (rs ?_)))))))))))))))))))))))
 have i:=f.pk []
 obtain rfl:_=21:=hr.symm.trans (ip b)
 exact⟨rfl,i⟩
 refine Gz (vP g 1) (dF b) (Gl (.string ⟨v6 d.aR⟩) (dF b) f 0 C0 (Gz (vJ d.aR.length) (dF b) (Gz (.bool (decide (((d.aR.length:Nat):Int) > 12))) (dF b) (fw (.bool (decide (((d.aR.length:Nat):Int) > 12))) (Io rfl (dF b) rfl) (Mz rfl ?_)))))
 by_cases a:((d.aR.length:Nat):Int) > 12
 refine Sz (dT a) (Sz (dT a) (Sz (dT a) (Sz (dT a) (IG rfl rfl rfl (IG rfl rfl rfl (IG rfl rfl rfl (IG rfl rfl rfl (IG rfl rfl rfl (Sz (dT a) (fw (.bool true) (Iw rfl (dT a) rfl) (nt (jt (sr (An rfl (rt (tR (rs ?_)))))))))))))))))
 have j:=f.pk []
 obtain rfl:_=21:=hr.symm.trans (et (iN b) (ip a))
 exact⟨rfl,j⟩
 refine Gz (vP g 1) (dF a) (Gl (.string ⟨v6 d.aR⟩) (dF a) f 0 C0 (gw (.bool (decide (d.aR≠([])))) (dF a) (I6 rfl rfl) (gw (.bool (decide (d.aR≠([])))) (dF a) (IA rfl) ?_)))
 by_cases c:d.aR≠([])
 refine Gz (vP g 0) (dT c) (Gl (.string ⟨v6 d.aJ⟩) (dT c) f 0 C0 (Gz (vP g 1) (dT c) (Gl (.string ⟨v6 d.aR⟩) (dT c) f 0 C0 (gw (.bool (decide (d.aR≤d.aJ))) (dT c) (IM (e:= !(Op.bytesLess d.aJ d.aR)) (JL rfl rfl) (zz _ _)) (gw (.bool (decide (d.aR≤d.aJ))) (dF a) (Iw rfl (dT c) rfl) (fw (.bool (decide (d.aR≤d.aJ))) (Io rfl (dF a) rfl) (nt ?_)))))))
 by_cases h:d.aR≤d.aJ
 refine jT (dT h) (sr (An rfl (rt (tR (rs ?_)))))
 have k:=f.pk []
 obtain rfl:_=21:=hr.symm.trans (et (iN b) (et (iN a) (et (ip c) (ip h))))
 exact⟨rfl,k⟩
 refine jF (dF h) (sk (sr (An rfl (rt (rs ?_)))))
 have l:=f.pk []
 obtain rfl:_=0:=hr.symm.trans (et (iN b) (et (iN a) (et (ip c) (iN h))))
 exact⟨rfl,l⟩
 refine Sz (dF c) (Sz (dF c) (Sz (dF c) (Sz (dF c) (Sz (dF c) (gw (.bool false) (dF a) (Io rfl (dF c) rfl) (fw (.bool false) (Io rfl (dF a) rfl) (nt (jf (sk (sr (An rfl (rt (rs ?_)))))))))))))
 have m:=f.pk []
 obtain rfl:_=0:=hr.symm.trans (et (iN b) (et (iN a) (iN c)))
 exact⟨rfl,m⟩
def uK (c:aL) (d:List UInt8):Bool:=
 bnd (gF c) fun a=>if a=0 then bnd (iO d) fun b=>if b=0 then if c.aJ≤d then if c.aR=([]) then true else decide (d < c.aR) else false else false else false
theorem Cz (w D) (f:aL) (h F) (H:Own w D w []) (hr:uK f h=F):
    Calls v5 110 #[.agg (aL.cells f).toArray, .string ⟨v6 h⟩] w (dA fun v w'=>v= .bool F∧Own w D w' []):=by
 refine cb Tryz.func110 ?_
 refine sr ?_
 refine dn (aL.cells f) 38 H ?_
 intro m L o
 refine Ar rfl (La (aL.cells f) o 0 N0 M9 ?_)
 obtain⟨n,g⟩:∃ q,gF f=q:=⟨_,rfl⟩
 obtain⟨M,p,G,r,I⟩:=Iu o
 refine cl U4 (lZ _ _ f n p g) ?_
 rintro _ N ⟨rfl,s⟩
 have t:=r _ _ s
 refine Kz (.bool (decide (n=0))) (Mz rfl ?_)
 by_cases c:n=0
 refine gw (.string ⟨v6 h⟩) (dT c) (IA rfl) ?_
 obtain⟨k,i⟩:∃ q,iO h=q:=⟨_,rfl⟩
 obtain⟨O,u,J,x,K⟩:=Iu t
 refine pW (dT c) U5 (mg _ _ h k u i) ?_
 rintro _ P ⟨rfl,y,l⟩
 have j:=x _ _ y
 replace l: ¬ (k=0)∨(1≤h.length∧h.length≤12):=l
 refine Gz (.bool (decide (k=0))) (dT c) (fw (.bool (decide (k=0))) (Iw rfl (dT c) rfl) (Mz rfl ?_))
 by_cases b:k=0
 refine gw (.string ⟨v6 h⟩) (dT b) (IA rfl) (Gz (vP m 0) (dT b) (Gl (.string ⟨v6 f.aJ⟩) (dT b) j 0 C0 (gw (.bool (decide (f.aJ≤h))) (dT b) (IM (e:= !(Op.bytesLess h f.aJ)) (JL rfl rfl) (zz _ _)) (fw (.bool (decide (f.aJ≤h))) (Iw rfl (dT b) rfl) (Mz rfl ?_)))))
 by_cases a:f.aJ≤h
 refine Gz (vP m 1) (dT a) (Gl (.string ⟨v6 f.aR⟩) (dT a) j 0 C0 (gw (.bool (decide (f.aR=([])))) (dT a) (JC rfl rfl) (gw (.bool (decide (f.aR=([])))) (dT a) (IA rfl) ?_)))
 by_cases d:f.aR=([])
 refine Sz (dT d) (Sz (dT d) (Sz (dT d) (Sz (dT d) (gw (.bool true) (dT a) (Iw rfl (dT d) rfl) (fw (.bool true) (Iw rfl (dT a) rfl) (An rfl (rt (rs ?_))))))))
 have z:=j.pk []
 obtain rfl:_=true:=hr.symm.trans (et (ae g) (et (ip c) (et (ae i) (et (ip b) (et (ip a) (ip d))))))
 exact⟨rfl,z⟩
 refine gw (.string ⟨v6 h⟩) (dF d) (IA rfl) (Gz (vP m 1) (dF d) (Gl (.string ⟨v6 f.aR⟩) (dF d) j 0 C0 (gw (.bool (decide (h < f.aR))) (dF d) (IM (e:=Op.bytesLess h f.aR) (JK rfl rfl) (wz _ _)) (gw (.bool (decide (h < f.aR))) (dT a) (Io rfl (dF d) rfl) (fw (.bool (decide (h < f.aR))) (Iw rfl (dT a) rfl) (An rfl (rt (rs ?_))))))))
 have A:=j.pk []
 obtain rfl:_=decide (h < f.aR):=hr.symm.trans (et (ae g) (et (ip c) (et (ae i) (et (ip b) (et (ip a) (iN d))))))
 exact⟨rfl,A⟩
 refine Sz (dF a) (Sz (dF a) (Sz (dF a) (Sz (dF a) (IG rfl rfl rfl (IG rfl rfl rfl (IG rfl rfl rfl (IG rfl rfl rfl (Sz (dF a) (fw (.bool false) (Io rfl (dF a) rfl) (An rfl (rt (rs ?_))))))))))))
 have B:=j.pk []
 obtain rfl:_=false:=hr.symm.trans (et (ae g) (et (ip c) (et (ae i) (et (ip b) (iN a)))))
 exact⟨rfl,B⟩
 refine Sz (dF b) (Sz (dF b) (Sz (dF b) (Sz (dF b) (fw (.bool false) (Io rfl (dF b) rfl) (Mz rfl (Sz rfl (Sz rfl (Sz rfl (Sz rfl (IG rfl rfl rfl (IG rfl rfl rfl (IG rfl rfl rfl (IG rfl rfl rfl (Sz rfl (fw (.bool false) (Io rfl rfl rfl) (An rfl (rt (rs ?_))))))))))))))))))
 have C:=j.pk []
 obtain rfl:_=false:=hr.symm.trans (et (ae g) (et (ip c) (et (ae i) (iN b))))
 exact⟨rfl,C⟩
 refine Sz (dF c) (Sz (dF c) (Sz (dF c) (fw (.bool false) (Io rfl (dF c) rfl) (Mz rfl (Sz rfl (Sz rfl (Sz rfl (Sz rfl (fw (.bool false) (Io rfl rfl rfl) (Mz rfl (Sz rfl (Sz rfl (Sz rfl (Sz rfl (IG rfl rfl rfl (IG rfl rfl rfl (IG rfl rfl rfl (IG rfl rfl rfl (Sz rfl (fw (.bool false) (Io rfl rfl rfl) (An rfl (rt (rs ?_)))))))))))))))))))))))
 have E:=t.pk []
 obtain rfl:_=false:=hr.symm.trans (et (ae g) (iN c))
 exact⟨rfl,E⟩
def om (a:List UInt8) (b:List UInt8):Bool:=
 if a≠([]) then if b=([]) then true else decide (a < b) else false
theorem wo (w D d c i) (H:Own w D w []) (hr:om d c=i):
    Calls v5 71 #[.string ⟨v6 d⟩, .string ⟨v6 c⟩] w (dA fun v w'=>v= .bool i∧Own w D w' []):=by
 refine cb Tryz.func71 ?_
 refine sr (Ar rfl (Mz rfl (fw (.bool (decide (d≠([])))) (I6 rfl rfl) (Mz rfl ?_))))
 by_cases a:d≠([])
 refine gw (.string ⟨v6 c⟩) (dT a) (IA rfl) (gw (.bool (decide (c=([])))) (dT a) (JC rfl rfl) (gw (.bool (decide (c=([])))) (dT a) (IA rfl) ?_))
 by_cases b:c=([])
 refine Sz (dT b) (Sz (dT b) (Sz (dT b) (gw (.bool true) (dT a) (Iw rfl (dT b) rfl) (fw (.bool true) (Iw rfl (dT a) rfl) (An rfl (rt (rs ?_)))))))
 have f:=H.pk []
 obtain rfl:_=true:=hr.symm.trans (et (ip a) (ip b))
 exact⟨rfl,f⟩
 refine gw (.string ⟨v6 d⟩) (dF b) (IA rfl) (gw (.string ⟨v6 c⟩) (dF b) (IA rfl) (gw (.bool (decide (d < c))) (dF b) (IM (e:=Op.bytesLess d c) (JK rfl rfl) (wz _ _)) (gw (.bool (decide (d < c))) (dT a) (Io rfl (dF b) rfl) (fw (.bool (decide (d < c))) (Iw rfl (dT a) rfl) (An rfl (rt (rs ?_)))))))
 have g:=H.pk []
 obtain rfl:_=decide (d < c):=hr.symm.trans (et (ip a) (iN b))
 exact⟨rfl,g⟩
 refine Sz (dF a) (Sz (dF a) (Sz (dF a) (IG rfl rfl rfl (IG rfl rfl rfl (IG rfl rfl rfl (Sz (dF a) (fw (.bool false) (Io rfl (dF a) rfl) (An rfl (rt (rs ?_))))))))))
 have h:=H.pk []
 obtain rfl:_=false:=hr.symm.trans (iN a)
 exact⟨rfl,h⟩
def ng (a:aL) (b:aL):aL × Bool:=
 bnd (gF a) fun c=>if c=0 then bnd (gF b) fun d=>if d=0 then bnd (om b.aR a.aR) fun e=>bnd (if e=true then b.aR else a.aR) fun sJrbtbtbJ=>if sJrbtbtbJ≠([]) then if sJrbtbtbJ≤(jK a.aJ b.aJ) then(aL.mk ([]) ([]),false) else(aL.mk (jK a.aJ b.aJ) sJrbtbtbJ,true) else(aL.mk (jK a.aJ b.aJ) sJrbtbtbJ,true) else(aL.mk ([]) ([]),false) else(aL.mk ([]) ([]),false)
theorem ut (w D) (d:aL) (c:aL) (r0:aL) (r1) (H:Own w D w []) (hr:ng d c=(r0,r1)):
    Calls v5 70 #[.agg (aL.cells d).toArray, .agg (aL.cells c).toArray] w (dA fun v w'=>v= .tuple #[.agg (aL.cells r0).toArray, .bool r1]∧Own w D w' []):=by
 refine cb Tryz.func70 ?_
 refine sr ?_
 refine dn (aL.cells d) 38 H ?_
 intro I aU aA
 refine dn (aL.cells c) 38 aA ?_
 intro y aV aB
 refine dn [.string ⟨v6 ([])⟩, .string ⟨v6 ([])⟩] 38 aB ?_
 intro J aW O
 refine An rfl (Ik (sr (La (aL.cells d) O 2 N0 M9 ?_)))
 obtain⟨z,h⟩:∃ q,gF d=q:=⟨_,rfl⟩
 obtain⟨aX,P,aG,Q,aH⟩:=Iu O
 refine cl U4 (lZ _ _ d z P h) ?_
 rintro _ aY ⟨rfl,R⟩
 have K:=Q _ _ R
 refine fw (.bool (decide (¬ (z=0)))) (IM (e:= !(decide (z=0))) yk decide_not.symm) (Mz rfl ?_)
 by_cases f:z=0
 refine gw (.agg (aL.cells c).toArray) (dF (Lr f)) (IB rfl (IJ (cs:=(aL.cells c)) N0 M9 ((K.cls (i:=1) rfl).lit (k:=0) (m:=2) rfl))) ?_
 obtain⟨u,j⟩:∃ q,gF c=q:=⟨_,rfl⟩
 obtain⟨aZ,S,aI,T,aJ⟩:=Iu K
 refine pW (dF (Lr f)) U4 (lZ _ _ c u S j) ?_
 rintro _ bf ⟨rfl,U⟩
 have x:=T _ _ U
 refine gw (.bool (decide (¬ (u=0)))) (dF (Lr f)) (IM (e:= !(decide (u=0))) yk decide_not.symm) (fw (.bool (decide (¬ (u=0)))) (Io rfl (dF (Lr f)) rfl) (nt ?_))
 by_cases t:u=0
 refine jF (dF (Lr t)) (sk (sr (Kz (vP I 0) (Lz (.string ⟨v6 d.aJ⟩) x 2 C0 (Kz (vP y 0) (Lz (.string ⟨v6 c.aJ⟩) x 1 C0 (fw (.string ⟨v6 (jK d.aJ c.aJ)⟩) (J4 rfl) (Kz (vP I 1) (Lz (.string ⟨v6 d.aR⟩) x 2 C0 (Kz (.agg #[.string ⟨v6 (jK d.aJ c.aJ)⟩, .string ⟨v6 d.aR⟩]) ?_))))))))))
 refine dn [.string ⟨v6 ([])⟩, .string ⟨v6 ([])⟩] 38 x ?_
 intro n bg aC
 refine df [.string ⟨v6 (jK d.aJ c.aJ)⟩, .string ⟨v6 d.aR⟩] 0 aC M9 ?_
 intro bi L
 refine nt (Ik (sr (Kz (vP y 1) (Lz (.string ⟨v6 c.aR⟩) L 2 C0 (Kz (vP I 1) (Lz (.string ⟨v6 d.aR⟩) L 3 C0 ?_))))))
 obtain⟨M,r⟩:∃ q,om c.aR d.aR=q:=⟨_,rfl⟩
 obtain⟨bn,V,aK,W,aM⟩:=Iu L
 refine cl Tryz.call71 (wo _ _ c.aR d.aR M V r) ?_
 rintro _ bq ⟨rfl,X⟩
 have Y:=W _ _ X
 refine nt ?_
 obtain⟨Z,o⟩:=lF fun a w'=>Own w D w' [blk n [.string ⟨v6 (jK d.aJ c.aJ)⟩, .string ⟨v6 a⟩] 38,blk J [.string ⟨v6 ([])⟩, .string ⟨v6 ([])⟩] 38,blk y (aL.cells c) 38]∧(if M=true then c.aR else d.aR)=a
 refine Jg (fun i:(List UInt8)=> [(6,vP n 0),(5, .bool false),(4,vP J 0)]) Z ?_ ?_
 rcases Ls (M) with l | l
 refine jT l ?_
 have A:=Y.pk [0,1,2]
 refine Il (Kz (vP y 1) (Lz (.string ⟨v6 c.aR⟩) A 2 C0 (Kz (vP n 1) ?_)))
 refine df [.string ⟨v6 c.aR⟩] 1 A Tryz.sizeOf9 ?_
 intro aN aa
 refine C4 ?_
 have af:=aa.pf []
 exact I8 c.aR ⟨rfl,rfl,rfl,trivial⟩ (o.2 ⟨af,ip l⟩)
 refine jF l (IU ?_)
 have ag:=Y.pk [0,1,2]
 exact I8 d.aR ⟨rfl,rfl,rfl,trivial⟩ (o.2 ⟨ag,fP l⟩)
 rintro a aO N
 obtain⟨ah,p⟩:=o.1 N
 refine Ik (Ik ?_)
 have g:=ah.pk [0,1]
 refine Il (Kz (vP n 1) (Lz (.string ⟨v6 a⟩) g 0 C0 (fw (.bool (decide (a≠([])))) (I6 rfl rfl) (Mz rfl ?_))))
 by_cases b:a≠([])
 refine Gz (vP n 0) (dT b) (Gl (.string ⟨v6 (jK d.aJ c.aJ)⟩) (dT b) g 0 C0 (Gz (vP n 1) (dT b) (Gl (.string ⟨v6 a⟩) (dT b) g 0 C0 (gw (.bool (decide (a≤(jK d.aJ c.aJ)))) (dT b) (IM (e:= !(Op.bytesLess (jK d.aJ c.aJ) a)) (JL rfl rfl) (zz _ _)) (fw (.bool (decide (a≤(jK d.aJ c.aJ)))) (Iw rfl (dT b) rfl) (nt ?_))))))
 by_cases s:a≤(jK d.aJ c.aJ)
 refine jT (dT s) (sr (Kz (.agg #[.string ⟨v6 ([])⟩, .string ⟨v6 ([])⟩]) ?_))
 have ai:=g.pb [0]
 refine df [.string ⟨v6 ([])⟩, .string ⟨v6 ([])⟩] 0 ai M9 ?_
 intro aP B
 refine An rfl (rt (tR (Fin.res (jb (vs:= [.agg #[.string ⟨v6 ([])⟩, .string ⟨v6 ([])⟩], .bool false]) rfl (cK.cell rfl (IJ (cs:= [.string ⟨v6 ([])⟩, .string ⟨v6 ([])⟩]) N0 M9 ((B.cls (i:=0) rfl).lit (k:=0) (m:=2) rfl)) (cK.tmp rfl cK.nil)) (Lj rfl)) ?_)))
 have aj:=B.pk []
 obtain⟨rfl,rfl⟩:=fD (hr.symm.trans (show _=(aL.mk ([]) ([]),false) from et (ae h) (et (ip f) (et (ae j) (et (ip t) (et (ae r) (et (ae p) (et (ip b) (ip s)))))))))
 exact⟨rfl,aj⟩
 refine jF (dF s) (sk (sr (La ([.string ⟨v6 (jK d.aJ c.aJ)⟩, .string ⟨v6 a⟩]) g 0 N0 M9 ?_)))
 have ak:=g.pb [0]
 refine df [.string ⟨v6 (jK d.aJ c.aJ)⟩, .string ⟨v6 a⟩] 0 ak M9 ?_
 intro aQ C
 refine An rfl (rt (Fin.res (jb (vs:= [.agg #[.string ⟨v6 (jK d.aJ c.aJ)⟩, .string ⟨v6 a⟩], .bool true]) rfl (cK.cell rfl (IJ (cs:= [.string ⟨v6 (jK d.aJ c.aJ)⟩, .string ⟨v6 a⟩]) N0 M9 ((C.cls (i:=0) rfl).lit (k:=0) (m:=2) rfl)) (cK.tmp rfl cK.nil)) (Lj rfl)) ?_))
 have au:=C.pk []
 obtain⟨rfl,rfl⟩:=fD (hr.symm.trans (show _=(aL.mk (jK d.aJ c.aJ) a,true) from et (ae h) (et (ip f) (et (ae j) (et (ip t) (et (ae r) (et (ae p) (et (ip b) (iN s)))))))))
 exact⟨rfl,au⟩
 refine Sz (dF b) (Sz (dF b) (Sz (dF b) (Sz (dF b) (Sz (dF b) (fw (.bool false) (Io rfl (dF b) rfl) (nt (jf (sk (sr (La ([.string ⟨v6 (jK d.aJ c.aJ)⟩, .string ⟨v6 a⟩]) g 0 N0 M9 ?_))))))))))
 have av:=g.pb [0]
 refine df [.string ⟨v6 (jK d.aJ c.aJ)⟩, .string ⟨v6 a⟩] 0 av M9 ?_
 intro aR E
 refine An rfl (rt (Fin.res (jb (vs:= [.agg #[.string ⟨v6 (jK d.aJ c.aJ)⟩, .string ⟨v6 a⟩], .bool true]) rfl (cK.cell rfl (IJ (cs:= [.string ⟨v6 (jK d.aJ c.aJ)⟩, .string ⟨v6 a⟩]) N0 M9 ((E.cls (i:=0) rfl).lit (k:=0) (m:=2) rfl)) (cK.tmp rfl cK.nil)) (Lj rfl)) ?_))
 have ax:=E.pk []
 obtain⟨rfl,rfl⟩:=fD (hr.symm.trans (show _=(aL.mk (jK d.aJ c.aJ) a,true) from et (ae h) (et (ip f) (et (ae j) (et (ip t) (et (ae r) (et (ae p) (iN b))))))))
 exact⟨rfl,ax⟩
 refine jT (dT t) (sr (Kz (.agg #[.string ⟨v6 ([])⟩, .string ⟨v6 ([])⟩]) ?_))
 refine df [.string ⟨v6 ([])⟩, .string ⟨v6 ([])⟩] 0 x M9 ?_
 intro aS F
 refine An rfl (rt (tR (Fin.res (jb (vs:= [.agg #[.string ⟨v6 ([])⟩, .string ⟨v6 ([])⟩], .bool false]) rfl (cK.cell rfl (IJ (cs:= [.string ⟨v6 ([])⟩, .string ⟨v6 ([])⟩]) N0 M9 ((F.cls (i:=0) rfl).lit (k:=0) (m:=2) rfl)) (cK.tmp rfl cK.nil)) (Lj rfl)) ?_)))
 have ay:=F.pk []
 obtain⟨rfl,rfl⟩:=fD (hr.symm.trans (show _=(aL.mk ([]) ([]),false) from et (ae h) (et (ip f) (et (ae j) (iN t)))))
 exact⟨rfl,ay⟩
 refine Sz (dT f) (Sz (dT f) (Sz (dT f) (fw (.bool true) (Iw rfl (dT f) rfl) (nt (jt (sr (Kz (.agg #[.string ⟨v6 ([])⟩, .string ⟨v6 ([])⟩]) ?_)))))))
 refine df [.string ⟨v6 ([])⟩, .string ⟨v6 ([])⟩] 0 K M9 ?_
 intro aT G
 refine An rfl (rt (tR (Fin.res (jb (vs:= [.agg #[.string ⟨v6 ([])⟩, .string ⟨v6 ([])⟩], .bool false]) rfl (cK.cell rfl (IJ (cs:= [.string ⟨v6 ([])⟩, .string ⟨v6 ([])⟩]) N0 M9 ((G.cls (i:=0) rfl).lit (k:=0) (m:=2) rfl)) (cK.tmp rfl cK.nil)) (Lj rfl)) ?_)))
 have az:=G.pk []
 obtain⟨rfl,rfl⟩:=fD (hr.symm.trans (show _=(aL.mk ([]) ([]),false) from et (ae h) (iN f)))
 exact⟨rfl,az⟩
def nz (d:aL) (e:aL):Bool:=
 bnd (gF d) fun a=>if a=0 then bnd (gF e) fun b=>if b=0 then if d.aJ≤e.aJ then bnd (om d.aR e.aR) fun c=> !c else false else false else false
theorem zy (w D) (f:aL) (g:aL) (L) (H:Own w D w []) (hr:nz f g=L):
    Calls v5 37 #[.agg (aL.cells f).toArray, .agg (aL.cells g).toArray] w (dA fun v w'=>v= .bool L∧Own w D w' []):=by
 refine cb Tryz.func37 ?_
 refine sr ?_
 refine dn (aL.cells f) 38 H ?_
 intro o S E
 refine dn (aL.cells g) 38 E ?_
 intro p T r
 refine Ar rfl (La (aL.cells f) r 1 N0 M9 ?_)
 obtain⟨m,d⟩:∃ q,gF f=q:=⟨_,rfl⟩
 obtain⟨U,s,M,t,N⟩:=Iu r
 refine cl U4 (lZ _ _ f m s d) ?_
 rintro _ V ⟨rfl,u⟩
 have n:=t _ _ u
 refine Kz (.bool (decide (m=0))) (Mz rfl ?_)
 by_cases c:m=0
 refine Ga (aL.cells g) (dT c) n 0 N0 M9 ?_
 obtain⟨j,i⟩:∃ q,gF g=q:=⟨_,rfl⟩
 obtain⟨W,x,O,y,P⟩:=Iu n
 refine pW (dT c) U4 (lZ _ _ g j x i) ?_
 rintro _ X ⟨rfl,z⟩
 have h:=y _ _ z
 refine Gz (.bool (decide (j=0))) (dT c) (fw (.bool (decide (j=0))) (Iw rfl (dT c) rfl) (Mz rfl ?_))
 by_cases b:j=0
 refine Gz (vP o 0) (dT b) (Gl (.string ⟨v6 f.aJ⟩) (dT b) h 1 C0 (Gz (vP p 0) (dT b) (Gl (.string ⟨v6 g.aJ⟩) (dT b) h 0 C0 (gw (.bool (decide (f.aJ≤g.aJ))) (dT b) (IM (e:=Op.bytesLess f.aJ g.aJ || decide (f.aJ=g.aJ)) (JD rfl rfl) (xI _ _)) (fw (.bool (decide (f.aJ≤g.aJ))) (Iw rfl (dT b) rfl) (Mz rfl ?_))))))
 by_cases a:f.aJ≤g.aJ
 refine Gz (vP o 1) (dT a) (Gl (.string ⟨v6 f.aR⟩) (dT a) h 1 C0 (Gz (vP p 1) (dT a) (Gl (.string ⟨v6 g.aR⟩) (dT a) h 0 C0 ?_)))
 obtain⟨k,l⟩:∃ q,om f.aR g.aR=q:=⟨_,rfl⟩
 obtain⟨Y,A,Q,B,R⟩:=Iu h
 refine pW (dT a) Tryz.call71 (wo _ _ f.aR g.aR k A l) ?_
 rintro _ Z ⟨rfl,C⟩
 have F:=B _ _ C
 refine Gz (.bool (!k)) (dT a) (fw (.bool (!k)) (Iw rfl (dT a) rfl) (An rfl (rt (rs ?_))))
 have G:=F.pk []
 obtain rfl:_= !k:=hr.symm.trans (et (ae d) (et (ip c) (et (ae i) (et (ip b) (et (ip a) (ae l))))))
 exact⟨rfl,G⟩
 refine Sz (dF a) (Sz (dF a) (Sz (dF a) (Sz (dF a) (Sz (dF a) (Sz (dF a) (fw (.bool false) (Io rfl (dF a) rfl) (An rfl (rt (rs ?_)))))))))
 have I:=h.pk []
 obtain rfl:_=false:=hr.symm.trans (et (ae d) (et (ip c) (et (ae i) (et (ip b) (iN a)))))
 exact⟨rfl,I⟩
 refine Sz (dF b) (Sz (dF b) (Sz (dF b) (Sz (dF b) (Sz (dF b) (fw (.bool false) (Io rfl (dF b) rfl) (Mz rfl (Sz rfl (Sz rfl (Sz rfl (Sz rfl (Sz rfl (Sz rfl (fw (.bool false) (Io rfl rfl rfl) (An rfl (rt (rs ?_))))))))))))))))
 have J:=h.pk []
 obtain rfl:_=false:=hr.symm.trans (et (ae d) (et (ip c) (et (ae i) (iN b))))
 exact⟨rfl,J⟩
 refine Sz (dF c) (Sz (dF c) (Sz (dF c) (fw (.bool false) (Io rfl (dF c) rfl) (Mz rfl (Sz rfl (Sz rfl (Sz rfl (Sz rfl (Sz rfl (fw (.bool false) (Io rfl rfl rfl) (Mz rfl (Sz rfl (Sz rfl (Sz rfl (Sz rfl (Sz rfl (Sz rfl (fw (.bool false) (Io rfl rfl rfl) (An rfl (rt (rs ?_)))))))))))))))))))))
 have K:=n.pk []
 obtain rfl:_=false:=hr.symm.trans (et (ae d) (iN c))
 exact⟨rfl,K⟩
def ni (d:List UInt8):Nat→Nat→Nat
  | 0,a=>default
  | c+1,a=>if((a:Nat):Int) > 0 then bnd (B8 d (a - 1) default) fun b=>if((b.toNat:Nat):Int)=255 then ni d c (a - 1) else a else a
def rT (a:List UInt8):aL × Int:=
 bnd (iO a) fun b=>if b=0 then if((a.length:Nat):Int) < 12 then(aL.mk a (a++([0])),0) else bnd (bnd (ni a (12+1) 12) fun sLrbtfJjL=>sLrbtfJjL) fun sJrbtfJ=>if((sJrbtfJ:Nat):Int)=0 then(aL.mk a ([]),0) else bnd (B8 a (sJrbtfJ - 1) default) fun c=>(aL.mk a ((r3 (sJrbtfJ - 1) a)++([(c+(1:UInt8))])),0) else(aL.mk ([]) ([]),b)
theorem AZ (w D c) (r0:aL) (r1) (H:Own w D w []) (hr:rT c=(r0,r1)):
    Calls v5 35 #[.string ⟨v6 c⟩] w (dA fun v w'=>v= .tuple #[.agg (aL.cells r0).toArray,vI r1]∧Own w D w' []):=by
 refine cb Tryz.func35 ?_
 refine sr ?_
 refine dn [.string ⟨v6 ([])⟩, .string ⟨v6 ([])⟩] 38 H ?_
 intro B aR ay
 refine An rfl (Ik (sr (Mz rfl ?_)))
 obtain⟨n,g⟩:∃ q,iO c=q:=⟨_,rfl⟩
 obtain⟨aS,T,aH,U,aI⟩:=Iu ay
 refine cl U5 (mg _ _ c n T g) ?_
 rintro _ aU ⟨rfl,V,L⟩
 have P:=U _ _ V
 replace L: ¬ (n=0)∨(1≤c.length∧c.length≤12):=L
 refine Ar rfl (Mz rfl (fw (.bool (decide (¬ (n=0)))) (IM (e:= !(decide (n=0))) yk decide_not.symm) (nt ?_)))
 by_cases C:n=0
 refine jF (dF (Lr C)) (sk (Ik (sr (Mz rfl (Kz (vJ c.length) (Kz (.bool (decide (((c.length:Nat):Int) < 12))) (nt ?_)))))))
 by_cases E:((c.length:Nat):Int) < 12
 refine jT (decide_eq_true E) (sr (Mz rfl (Mz rfl (fw (.string ⟨v6 (c++([0]))⟩) (J3 rfl rfl i4) (Kz (.agg #[.string ⟨v6 c⟩, .string ⟨v6 (c++([0]))⟩]) ?_)))))
 refine df [.string ⟨v6 c⟩, .string ⟨v6 (c++([0]))⟩] 0 P M9 ?_
 intro aV W
 refine An rfl (rt (tR (Fin.res (jb (vs:= [.agg #[.string ⟨v6 c⟩, .string ⟨v6 (c++([0]))⟩],vI 0]) rfl (cK.cell rfl (IJ (cs:= [.string ⟨v6 c⟩, .string ⟨v6 (c++([0]))⟩]) N0 M9 ((W.cls (i:=0) rfl).lit (k:=0) (m:=2) rfl)) (cK.tmp rfl cK.nil)) (Lj rfl)) ?_)))
 have az:=W.pk []
 obtain⟨rfl,rfl⟩:=fD (hr.symm.trans (show _=(aL.mk c (c++([0])),0) from et (ae g) (et (ip C) (ip E))))
 exact⟨rfl,az⟩
 refine jF (dF E) (sk (sr (An rfl (Ik ?_))))
 obtain⟨X,p⟩:=lF fun (a:Nat) w'=>Own w D w' [blk B [.string ⟨v6 ([])⟩, .string ⟨v6 ([])⟩] 38]∧a≤9223372036854775807∧a≤c.length∧(bnd (ni c (12+1) 12) fun sLrbtfJjL=>sLrbtfJjL)=a
 refine Jg (fun i:Nat=> [(5,vJ i),(3,vI 0),(2,vP B 0),(0, .string ⟨v6 c⟩)]) X ?_ ?_
 refine bo ?_
 have Y:=P.pf []
 obtain⟨Z,r⟩:=FI fun (b:Nat) (h:Nat) w'=>Own w D w' [blk B [.string ⟨v6 ([])⟩, .string ⟨v6 ([])⟩] 38]∧b≤c.length∧b < h∧ni c (12+1) 12=ni c h b
 refine C1 (fun i:Nat × Nat=> [(5,vJ i.1),(3,vI 0),(2,vP B 0),(0, .string ⟨v6 c⟩)]) Z (fun i=>i.2) (12,12+1) ⟨rfl,rfl,rfl,rfl,trivial⟩ (r.2 ⟨Y,e6,e6,rfl⟩) ?_
 rintro ⟨b,h⟩ aJ Q
 obtain⟨F,aA,aB,s⟩:=r.1 Q
 obtain⟨G,R⟩:∃ q,h=q+1:=⟨h - 1,e6⟩
 subst R
 refine Ik (sr (Mz rfl (Kz (.bool (decide (((b:Nat):Int) > 0))) (Mz rfl ?_))))
 by_cases d:((b:Nat):Int) > 0
 refine gw (.string ⟨v6 c⟩) (dT d) (IA rfl) (gw (vJ b) (dT d) (IA rfl) (gw (vJ (b - 1)) (dT d) (Ir (e:=C3.wrap (((b:Nat):Int) - 1)) yk f0) ?_))
 obtain⟨x,u⟩:=iG (ls:=c) (i:=b - 1) e6
 refine gw (.int .u8 ((x.toNat:Nat):Int)) (dT d) (JS v9 rfl rfl u) (Gz (.bool (decide (((x.toNat:Nat):Int)=255))) (dT d) (fw (.bool (decide (((x.toNat:Nat):Int)=255))) (Iw rfl (dT d) rfl) (nt ?_)))
 by_cases z:((x.toNat:Nat):Int)=255
 refine jT (dT z) (sk (bo (Il (Mz rfl (fw (vJ (b - 1)) (Ir (e:=C3.wrap (((b:Nat):Int) - 1)) yk f0) (Az rfl (C4 (bN ?_))))))))
 have aa:=F.pf []
 exact II (b - 1,G) ⟨rfl,rfl,rfl,rfl,trivial⟩ (r.2 ⟨aa,e6,e6,et (s) (et (ip d) (et (ae (aT u)) (ip z)))⟩) (by show G < G+1; omega)
 refine jF (dF z) (C5 (IC (IC (IK ?_))))
 have af:=F.pf []
 exact I8 b ⟨rfl,rfl,rfl,rfl,trivial⟩ (p.2 ⟨af,e6,e6,ae (et (s) (et (ip d) (et (ae (aT u)) (iN z))))⟩)
 refine Sz (dF d) (Sz (dF d) (Sz (dF d) (Sz (dF d) (Sz (dF d) (fw (.bool false) (Io rfl (dF d) rfl) (nt (jf (C5 (IC (IC (IK ?_)))))))))))
 have ag:=F.pf []
 exact I8 b ⟨rfl,rfl,rfl,rfl,trivial⟩ (p.2 ⟨ag,e6,e6,ae (et (s) (iN d))⟩)
 rintro a aK S
 obtain⟨M,aC,aD,I⟩:=p.1 S
 refine Ik (sr (Mz rfl (Kz (.bool (decide (((a:Nat):Int)=0))) (nt ?_))))
 by_cases A:((a:Nat):Int)=0
 refine jT (dT A) (sr (Mz rfl (Kz (.agg #[.string ⟨v6 c⟩, .string ⟨v6 ([])⟩]) ?_)))
 refine df [.string ⟨v6 c⟩, .string ⟨v6 ([])⟩] 0 M M9 ?_
 intro aM N
 refine An rfl (rt (tR (Fin.res (jb (vs:= [.agg #[.string ⟨v6 c⟩, .string ⟨v6 ([])⟩],vI 0]) rfl (cK.cell rfl (IJ (cs:= [.string ⟨v6 c⟩, .string ⟨v6 ([])⟩]) N0 M9 ((N.cls (i:=0) rfl).lit (k:=0) (m:=2) rfl)) (cK.tmp rfl cK.nil)) (Lj rfl)) ?_)))
 have ah:=N.pk []
 obtain⟨rfl,rfl⟩:=fD (hr.symm.trans (show _=(aL.mk c ([]),0) from et (ae g) (et (ip C) (et (iN E) (et (ae I) (ip A))))))
 exact⟨rfl,ah⟩
 refine jF (dF A) (sk (Ik ?_))
 refine G9 [] (IE IQ) M ?_
 intro aN ai
 refine qv 0 rfl rfl (qv 1 rfl rfl (qv 2 rfl rfl (qt (v:=vJ (a - 1)) 3 rfl (fun _ _=>Ir (e:=C3.wrap (((a:Nat):Int) - 1)) yk f0) (qt (v:= .string ⟨v6 (r3 (a - 1) c)⟩) 4 rfl (fun _ _=>KO v9 rfl rfl i4) (qv 5 rfl rfl (qv 6 rfl rfl (qt (v:=vJ (a - 1)) 7 rfl (fun _ _=>Ir (e:=C3.wrap (((a:Nat):Int) - 1)) yk f0) ?_)))))))
 obtain⟨f,J⟩:=iG (ls:=c) (i:=a - 1) e6
 refine qt (v:= .int .u8 ((f.toNat:Nat):Int)) 8 rfl (fun _ _=>JS v9 rfl rfl J) (qt (v:= .int .u8 (((f+(1:UInt8)).toNat:Nat):Int)) 9 rfl (fun _ _=>Ir (e:=IntKind.u8.wrap (((f.toNat:Nat):Int)+1)) yk (FC f (1:UInt8))) ?_)
 refine qd 10 rfl (Jq (cs:= [.int .u8 (((f+(1:UInt8)).toNat:Nat):Int)]) (t:=5) (sz:=1) (m:=1) ai rfl rfl (fun _=>by kernel_rfl) rfl f2 ?_)
 intro aj aO j
 replace j:=IX (y:=row aj 1 1 (q4 eB ([(f+(1:UInt8))])) 5 1) rfl j
 refine⟨.inr ⟨_,j⟩, ?_⟩
 refine Ib j (qt (v:= .string ⟨v6 ([(f+(1:UInt8))])⟩) 11 rfl (fun _ ⟨_,H9⟩=>JE (l:= [(f+(1:UInt8))]) Tryz.underlying134 Tryz.underlying5 v9 (H9.rds (i:=0) rfl) rfl) (qt (v:= .string ⟨v6 ((r3 (a - 1) c)++([(f+(1:UInt8))]))⟩) 12 rfl (fun _ _=>J3 rfl rfl i4) (qk (.agg #[.string ⟨v6 c⟩, .string ⟨v6 ((r3 (a - 1) c)++([(f+(1:UInt8))]))⟩]) 13 rfl ?_)))
 have ak:=j.pb [0]
 refine qe 14 rfl (Do.store (vs:= [.string ⟨v6 c⟩, .string ⟨v6 ((r3 (a - 1) c)++([(f+(1:UInt8))]))⟩]) (o:=0) ak rfl rfl M9 rfl rfl rfl rfl ?_)
 intro aP au
 have K:=au.pb [0]
 refine⟨.inr ⟨_,K⟩, ?_⟩
 refine qa 15 rfl rfl (qn (Iq (rt (Fin.res (jb (vs:= [.agg #[.string ⟨v6 c⟩, .string ⟨v6 ((r3 (a - 1) c)++([(f+(1:UInt8))]))⟩],vI 0]) rfl (cK.cell rfl (IJ (cs:= [.string ⟨v6 c⟩, .string ⟨v6 ((r3 (a - 1) c)++([(f+(1:UInt8))]))⟩]) N0 M9 ((K.cls (i:=1) rfl).lit (k:=0) (m:=2) rfl)) (cK.tmp rfl cK.nil)) (Lj rfl)) ?_))))
 have av:=K.pk []
 obtain⟨rfl,rfl⟩:=fD (hr.symm.trans (show _=(aL.mk c ((r3 (a - 1) c)++([(f+(1:UInt8))])),0) from et (ae g) (et (ip C) (et (iN E) (et (ae I) (et (iN A) (ae (aT J))))))))
 exact⟨rfl,av⟩
 refine jT (dT C) (sr (Kz (.agg #[.string ⟨v6 ([])⟩, .string ⟨v6 ([])⟩]) (Mz rfl ?_)))
 refine df [.string ⟨v6 ([])⟩, .string ⟨v6 ([])⟩] 0 P M9 ?_
 intro aQ O
 refine An rfl (rt (tR (Fin.res (jb (vs:= [.agg #[.string ⟨v6 ([])⟩, .string ⟨v6 ([])⟩],vI n]) rfl (cK.cell rfl (IJ (cs:= [.string ⟨v6 ([])⟩, .string ⟨v6 ([])⟩]) N0 M9 ((O.cls (i:=0) rfl).lit (k:=0) (m:=2) rfl)) (cK.tmp rfl cK.nil)) (Lj rfl)) ?_)))
 have ax:=O.pk []
 obtain⟨rfl,rfl⟩:=fD (hr.symm.trans (show _=(aL.mk ([]) ([]),n) from et (ae g) (iN C)))
 exact⟨rfl,ax⟩
def kQ (a:aN):Int:=
 if a.av=1 then if a.aJ≠([]) then 40 else if a.aR≠([]) then 40 else if a.aG≠([]) then 40 else if a.aV=0 then bnd (iO a.aZ) fun d=>if d=0 then if((a.aG.length:Nat):Int) > 16 then 2 else 0 else 20 else 40 else if a.av=2 then if a.aJ≠([]) then 40 else if a.aR≠([]) then 40 else if a.aV=0 then bnd (iO a.aZ) fun e=>if e=0 then if((a.aG.length:Nat):Int) > 16 then 2 else 0 else 20 else 40 else if a.av=4 then if a.aZ≠([]) then 40 else if a.aG≠([]) then 40 else if((a.aG.length:Nat):Int) > 16 then 2 else bnd (gF (aL.mk a.aJ a.aR)) fun f=>if f=0 then if a.aV < 1 then 1 else if a.aV > 4 then 1 else 0 else 21 else if a.av=3 then if a.aJ≠([]) then 40 else if a.aR≠([]) then 40 else if a.aG≠([]) then 40 else if a.aV=0 then bnd (iO a.aZ) fun b=>if b=0 then if((a.aG.length:Nat):Int) > 16 then 2 else 0 else 20 else 40 else if a.av=5 then if a.aZ≠([]) then 40 else if a.aG≠([]) then 40 else if a.aV=0 then if((a.aG.length:Nat):Int) > 16 then 2 else bnd (gF (aL.mk a.aJ a.aR)) fun c=>if c=0 then 0 else 21 else 40 else 40
theorem uL (w D) (a:aN) (r0) (H:Own w D w []) (hr:kQ a=r0):
    Calls v5 34 #[.agg (aN.cells a).toArray] w (dA fun v w'=>v=vI r0∧Own w D w' []∧(¬ (r0=0)∨(1≤a.av∧a.av≤5))):=by
 refine cb Tryz.func34 ?_
 refine sr ?_
 refine dn (aN.cells a) 72 H ?_
 intro d dJ b
 refine Ar rfl (Kz (vP d 0) (Lz (vI a.av) b 0 C2 (Kz (.bool (decide (a.av=1))) (Mz rfl ?_))))
 by_cases g:a.av=1
 refine Sz (dT g) (Sz (dT g) (Sz (dT g) (fw (.bool true) (Iw rfl (dT g) rfl) (Mz rfl (Sz rfl (Sz rfl (Sz rfl (fw (.bool true) (Iw rfl rfl rfl) (Ar rfl (Kz (vP d 0) (Lz (vI a.av) b 0 C2 (Kz (.bool (decide (a.av=4))) (Mz rfl ?_)))))))))))))
 have z:(decide (a.av=4))=false:=(dF e6)
 refine Gz (vP d 0) z (Gl (vI a.av) z b 0 C2 (Gz (.bool (decide (a.av=5))) z (fw (.bool (decide (a.av=5))) (Io rfl z rfl) (An rfl (Ik (sr (Mz rfl (Kz (.bool false) (Mz rfl (Sz rfl (Sz rfl (fw (.bool false) (Io rfl rfl rfl) (Mz rfl (gw (.bool true) rfl (IA rfl) (gw (.bool true) rfl (IA rfl) (Gz (vP d 3) rfl (Gl (.string ⟨v6 a.aJ⟩) rfl b 0 C0 (gw (.bool (decide (a.aJ≠([])))) rfl (I6 rfl rfl) (gw (.bool (decide (a.aJ≠([])))) rfl (IA rfl) ?_)))))))))))))))))))
 by_cases B:a.aJ≠([])
 refine Sz (dT B) (Sz (dT B) (Sz (dT B) (gw (.bool true) rfl (Iw rfl (dT B) rfl) (gw (.bool true) rfl (Iw rfl rfl rfl) (fw (.bool true) (Io rfl rfl rfl) (Mz rfl (Sz rfl (Sz rfl (IG rfl rfl rfl (IG rfl rfl rfl (IG rfl rfl rfl (Sz rfl (fw (.bool true) (Iw rfl rfl rfl) (Mz rfl (Sz rfl (Sz rfl (Sz rfl (Sz rfl (IG rfl rfl rfl (IG rfl rfl rfl (IG rfl rfl rfl (Sz rfl (fw (.bool true) (Iw rfl rfl rfl) (Mz rfl (Sz rfl (Sz rfl (Sz rfl (Sz rfl (IG rfl rfl rfl (IG rfl rfl rfl (IG rfl rfl rfl (Sz rfl (fw (.bool true) (Iw rfl rfl rfl) (nt (jt (sr (Az rfl ?_)))))))))))))))))))))))))))))))))))))
 refine nt (rt (tR (rs ?_)))
 have bQ:=b.pk []
 obtain rfl:_=40:=hr.symm.trans (et (ip g) (ip B))
 exact⟨rfl,bQ,e6⟩
 refine Gz (vP d 4) (dF B) (Gl (.string ⟨v6 a.aR⟩) (dF B) b 0 C0 (gw (.bool (decide (a.aR≠([])))) (dF B) (I6 rfl rfl) (gw (.bool (decide (a.aR≠([])))) rfl (Io rfl (dF B) rfl) (gw (.bool (decide (a.aR≠([])))) rfl (Iw rfl rfl rfl) (fw (.bool (decide (a.aR≠([])))) (Io rfl rfl rfl) (Mz rfl ?_))))))
 by_cases C:a.aR≠([])
 refine Sz (dT C) (Sz (dT C) (IG rfl rfl rfl (IG rfl rfl rfl (IG rfl rfl rfl (Sz (dT C) (fw (.bool true) (Iw rfl (dT C) rfl) (Mz rfl (Sz rfl (Sz rfl (Sz rfl (Sz rfl (IG rfl rfl rfl (IG rfl rfl rfl (IG rfl rfl rfl (Sz rfl (fw (.bool true) (Iw rfl rfl rfl) (Mz rfl (Sz rfl (Sz rfl (Sz rfl (Sz rfl (IG rfl rfl rfl (IG rfl rfl rfl (IG rfl rfl rfl (Sz rfl (fw (.bool true) (Iw rfl rfl rfl) (nt (jt (sr (An rfl (rt (tR (rs ?_)))))))))))))))))))))))))))))))))
 have bR:=b.pk []
 obtain rfl:_=40:=hr.symm.trans (et (ip g) (et (iN B) (ip C)))
 exact⟨rfl,bR,e6⟩
 refine gw (.bool (decide (a.av=5))) (dF C) (IA rfl) (gw (.bool (decide (a.av=5))) (dF C) (IA rfl) ?_)
 have r:(decide (a.av=5))=false:=(dF e6)
 refine Sz r (Sz r (Sz r (gw (.bool false) (dF C) (Io rfl r rfl) (fw (.bool false) (Io rfl (dF C) rfl) (Mz rfl (Gz (vP d 0) rfl (Gl (vI a.av) rfl b 0 C2 (gw (.bool (decide (¬ (a.av=2)))) rfl (IM (e:= !(decide (a.av=2))) yk decide_not.symm) (gw (.bool (decide (¬ (a.av=2)))) rfl (IA rfl) ?_)))))))))
 have Y:(decide (¬ (a.av=2)))=true:=(dT e6)
 refine Gz (vP d 2) Y (Gl (.string ⟨v6 a.aG⟩) Y b 0 C0 (I7 (v:= .bool (decide (a.aG≠([])))) rfl rfl Y rfl (I6 rfl rfl) (gw (.bool (decide (a.aG≠([])))) rfl (Iw rfl Y rfl) (fw (.bool (decide (a.aG≠([])))) (Io rfl rfl rfl) (Mz rfl ?_)))))
 by_cases u:a.aG≠([])
 refine Sz (dT u) (Sz (dT u) (Sz (dT u) (Sz (dT u) (IG rfl rfl rfl (IG rfl rfl rfl (IG rfl rfl rfl (Sz (dT u) (fw (.bool true) (Iw rfl (dT u) rfl) (nt (jt (sr (An rfl (rt (tR (rs ?_)))))))))))))))
 have bS:=b.pk []
 obtain rfl:_=40:=hr.symm.trans (et (ip g) (et (iN B) (et (iN C) (ip u))))
 exact⟨rfl,bS,e6⟩
 refine Gz (vP d 0) (dF u) (Gl (vI a.av) (dF u) b 0 C2 (gw (.bool (decide (¬ (a.av=4)))) (dF u) (IM (e:= !(decide (a.av=4))) yk decide_not.symm) (gw (.bool (decide (¬ (a.av=4)))) (dF u) (IA rfl) ?_)))
 have Z:(decide (¬ (a.av=4)))=true:=(dT e6)
 refine Gz (vP d 5) Z (Gl (vI a.aV) Z b 0 C2 (I7 (v:= .bool (decide (¬ (a.aV=0)))) rfl rfl Z rfl (IM (e:= !(decide (a.aV=0))) yk decide_not.symm) (gw (.bool (decide (¬ (a.aV=0)))) (dF u) (Iw rfl Z rfl) (fw (.bool (decide (¬ (a.aV=0)))) (Io rfl (dF u) rfl) (nt ?_)))))
 by_cases ax:a.aV=0
 refine jF (dF (Lr ax)) (sk (Ik (sr (Mz rfl (Mz rfl (Gz (vP d 1) rfl (Gl (.string ⟨v6 a.aZ⟩) rfl b 0 C0 ?_)))))))
 obtain⟨ay,aa⟩:∃ q,iO a.aZ=q:=⟨_,rfl⟩
 obtain⟨dK,aW,dw,aX,dx⟩:=Iu b
 refine pW rfl U5 (mg _ _ a.aZ ay aW aa) ?_
 rintro _ dL ⟨rfl,aY,aO⟩
 have aB:=aX _ _ aY
 replace aO: ¬ (ay=0)∨(1≤a.aZ.length∧a.aZ.length≤12):=aO
 refine gw (.bool (decide (¬ (ay=0)))) rfl (IM (e:= !(decide (ay=0))) yk decide_not.symm) (fw (.bool (decide (¬ (ay=0)))) (Iw rfl rfl rfl) (nt ?_))
 by_cases aC:ay=0
 refine jF (dF (Lr aC)) (sk (Ik (sr (Kz (vP d 2) (Lz (.string ⟨v6 a.aG⟩) aB 0 C0 (Kz (vJ a.aG.length) (Kz (.bool (decide (((a.aG.length:Nat):Int) > 16))) (nt ?_))))))))
 by_cases aK:((a.aG.length:Nat):Int) > 16
 refine jT (dT aK) (sr (An rfl (rt (tR (rs ?_)))))
 have bT:=aB.pk []
 obtain rfl:_=2:=hr.symm.trans (et (ip g) (et (iN B) (et (iN C) (et (iN u) (et (ip ax) (et (ae aa) (et (ip aC) (ip aK))))))))
 exact⟨rfl,bT,e6⟩
 refine jF (dF aK) (sk (Ik (sr (Mz rfl (Mz rfl (Sz r (Sz r (Sz r (Sz r (Sz r (Sz r (Sz r (fw (.bool false) (Io rfl r rfl) (nt (jf (sk (Ik (sr (Kz (vP d 0) (Lz (vI a.av) aB 0 C2 (Kz (.bool (decide (a.av=4))) (Mz rfl (Sz z (Sz z (Sz z (Sz z (IG rfl rfl rfl (IG rfl rfl rfl (IG rfl rfl rfl (Sz z (fw (.bool false) (Io rfl z rfl) (nt (jf ?_)))))))))))))))))))))))))))))))))
 refine sk (sr (An rfl (rt (rs ?_))))
 have bU:=aB.pk []
 obtain rfl:_=0:=hr.symm.trans (et (ip g) (et (iN B) (et (iN C) (et (iN u) (et (ip ax) (et (ae aa) (et (ip aC) (iN aK))))))))
 exact⟨rfl,bU,e6⟩
 refine jT (dT aC) (sr (An rfl (rt (tR (rs ?_)))))
 have bV:=aB.pk []
 obtain rfl:_=20:=hr.symm.trans (et (ip g) (et (iN B) (et (iN C) (et (iN u) (et (ip ax) (et (ae aa) (iN aC)))))))
 exact⟨rfl,bV,e6⟩
 refine jT (dT ax) (sr (An rfl (rt (tR (rs ?_)))))
 have bW:=b.pk []
 obtain rfl:_=40:=hr.symm.trans (et (ip g) (et (iN B) (et (iN C) (et (iN u) (iN ax)))))
 exact⟨rfl,bW,e6⟩
 refine Gz (vP d 0) (dF g) (Gl (vI a.av) (dF g) b 0 C2 (Gz (.bool (decide (a.av=2))) (dF g) (fw (.bool (decide (a.av=2))) (Io rfl (dF g) rfl) (Mz rfl ?_))))
 by_cases i:a.av=2
 refine Sz (dT i) (Sz (dT i) (Sz (dT i) (fw (.bool true) (Iw rfl (dT i) rfl) (Ar rfl (Kz (vP d 0) (Lz (vI a.av) b 0 C2 (Kz (.bool (decide (a.av=4))) (Mz rfl ?_))))))))
 have A:(decide (a.av=4))=false:=(dF e6)
 refine Gz (vP d 0) A (Gl (vI a.av) A b 0 C2 (Gz (.bool (decide (a.av=5))) A (fw (.bool (decide (a.av=5))) (Io rfl A rfl) (An rfl (Ik (sr (Mz rfl (Kz (.bool false) (Mz rfl (Sz rfl (Sz rfl (fw (.bool false) (Io rfl rfl rfl) (Mz rfl (gw (.bool true) rfl (IA rfl) (gw (.bool true) rfl (IA rfl) (Gz (vP d 3) rfl (Gl (.string ⟨v6 a.aJ⟩) rfl b 0 C0 (gw (.bool (decide (a.aJ≠([])))) rfl (I6 rfl rfl) (gw (.bool (decide (a.aJ≠([])))) rfl (IA rfl) ?_)))))))))))))))))))
 by_cases E:a.aJ≠([])
 refine Sz (dT E) (Sz (dT E) (Sz (dT E) (gw (.bool true) rfl (Iw rfl (dT E) rfl) (gw (.bool true) rfl (Iw rfl rfl rfl) (fw (.bool true) (Io rfl rfl rfl) (Mz rfl (Sz rfl (Sz rfl (IG rfl rfl rfl (IG rfl rfl rfl (IG rfl rfl rfl (Sz rfl (fw (.bool true) (Iw rfl rfl rfl) (Mz rfl (Sz rfl (Sz rfl (Sz rfl (Sz rfl (IG rfl rfl rfl (IG rfl rfl rfl (IG rfl rfl rfl (Sz rfl (fw (.bool true) (Iw rfl rfl rfl) (Mz rfl (Sz rfl (Sz rfl (Sz rfl (Sz rfl (IG rfl rfl rfl (IG rfl rfl rfl (IG rfl rfl rfl (Sz rfl (fw (.bool true) (Iw rfl rfl rfl) (nt (jt (sr (Az rfl ?_)))))))))))))))))))))))))))))))))))))
 refine nt (rt (tR (rs ?_)))
 have bX:=b.pk []
 obtain rfl:_=40:=hr.symm.trans (et (iN g) (et (ip i) (ip E)))
 exact⟨rfl,bX,e6⟩
 refine Gz (vP d 4) (dF E) (Gl (.string ⟨v6 a.aR⟩) (dF E) b 0 C0 (gw (.bool (decide (a.aR≠([])))) (dF E) (I6 rfl rfl) (gw (.bool (decide (a.aR≠([])))) rfl (Io rfl (dF E) rfl) (gw (.bool (decide (a.aR≠([])))) rfl (Iw rfl rfl rfl) (fw (.bool (decide (a.aR≠([])))) (Io rfl rfl rfl) (Mz rfl ?_))))))
 by_cases F:a.aR≠([])
 refine Sz (dT F) (Sz (dT F) (IG rfl rfl rfl (IG rfl rfl rfl (IG rfl rfl rfl (Sz (dT F) (fw (.bool true) (Iw rfl (dT F) rfl) (Mz rfl (Sz rfl (Sz rfl (Sz rfl (Sz rfl (IG rfl rfl rfl (IG rfl rfl rfl (IG rfl rfl rfl (Sz rfl (fw (.bool true) (Iw rfl rfl rfl) (Mz rfl (Sz rfl (Sz rfl (Sz rfl (Sz rfl (IG rfl rfl rfl (IG rfl rfl rfl (IG rfl rfl rfl (Sz rfl (fw (.bool true) (Iw rfl rfl rfl) (nt (jt (sr (An rfl (rt (tR (rs ?_)))))))))))))))))))))))))))))))))
 have bY:=b.pk []
 obtain rfl:_=40:=hr.symm.trans (et (iN g) (et (ip i) (et (iN E) (ip F))))
 exact⟨rfl,bY,e6⟩
 refine gw (.bool (decide (a.av=5))) (dF F) (IA rfl) (gw (.bool (decide (a.av=5))) (dF F) (IA rfl) ?_)
 have s:(decide (a.av=5))=false:=(dF e6)
 refine Sz s (Sz s (Sz s (gw (.bool false) (dF F) (Io rfl s rfl) (fw (.bool false) (Io rfl (dF F) rfl) (Mz rfl (Gz (vP d 0) rfl (Gl (vI a.av) rfl b 0 C2 (gw (.bool (decide (¬ (a.av=2)))) rfl (IM (e:= !(decide (a.av=2))) yk decide_not.symm) (gw (.bool (decide (¬ (a.av=2)))) rfl (IA rfl) ?_)))))))))
 have af:(decide (¬ (a.av=2)))=false:=(dF e6)
 refine Sz af (Sz af (Sz af (gw (.bool false) rfl (Io rfl af rfl) (fw (.bool false) (Io rfl rfl rfl) (Mz rfl (Gz (vP d 0) rfl (Gl (vI a.av) rfl b 0 C2 (gw (.bool (decide (¬ (a.av=4)))) rfl (IM (e:= !(decide (a.av=4))) yk decide_not.symm) (gw (.bool (decide (¬ (a.av=4)))) rfl (IA rfl) ?_)))))))))
 have ag:(decide (¬ (a.av=4)))=true:=(dT e6)
 refine Gz (vP d 5) ag (Gl (vI a.aV) ag b 0 C2 (I7 (v:= .bool (decide (¬ (a.aV=0)))) rfl rfl ag rfl (IM (e:= !(decide (a.aV=0))) yk decide_not.symm) (gw (.bool (decide (¬ (a.aV=0)))) rfl (Iw rfl ag rfl) (fw (.bool (decide (¬ (a.aV=0)))) (Io rfl rfl rfl) (nt ?_)))))
 by_cases az:a.aV=0
 refine jF (dF (Lr az)) (sk (Ik (sr (Mz rfl (Mz rfl (Gz (vP d 1) rfl (Gl (.string ⟨v6 a.aZ⟩) rfl b 0 C0 ?_)))))))
 obtain⟨aA,ah⟩:∃ q,iO a.aZ=q:=⟨_,rfl⟩
 obtain⟨dM,aZ,dz,bf,dB⟩:=Iu b
 refine pW rfl U5 (mg _ _ a.aZ aA aZ ah) ?_
 rintro _ dN ⟨rfl,bg,aP⟩
 have aD:=bf _ _ bg
 replace aP: ¬ (aA=0)∨(1≤a.aZ.length∧a.aZ.length≤12):=aP
 refine gw (.bool (decide (¬ (aA=0)))) rfl (IM (e:= !(decide (aA=0))) yk decide_not.symm) (fw (.bool (decide (¬ (aA=0)))) (Iw rfl rfl rfl) (nt ?_))
 by_cases aF:aA=0
 refine jF (dF (Lr aF)) (sk (Ik (sr (Kz (vP d 2) (Lz (.string ⟨v6 a.aG⟩) aD 0 C0 (Kz (vJ a.aG.length) (Kz (.bool (decide (((a.aG.length:Nat):Int) > 16))) (nt ?_))))))))
 by_cases aM:((a.aG.length:Nat):Int) > 16
 refine jT (dT aM) (sr (An rfl (rt (tR (rs ?_)))))
 have bZ:=aD.pk []
 obtain rfl:_=2:=hr.symm.trans (et (iN g) (et (ip i) (et (iN E) (et (iN F) (et (ip az) (et (ae ah) (et (ip aF) (ip aM))))))))
 exact⟨rfl,bZ,e6⟩
 refine jF (dF aM) (sk (Ik (sr (Mz rfl (Mz rfl (Sz s (Sz s (Sz s (Sz s (Sz s (Sz s (Sz s (fw (.bool false) (Io rfl s rfl) (nt (jf (sk (Ik (sr (Kz (vP d 0) (Lz (vI a.av) aD 0 C2 (Kz (.bool (decide (a.av=4))) (Mz rfl (Sz A (Sz A (Sz A (Sz A (IG rfl rfl rfl (IG rfl rfl rfl (IG rfl rfl rfl (Sz A (fw (.bool false) (Io rfl A rfl) (nt (jf ?_)))))))))))))))))))))))))))))))))
 refine sk (sr (An rfl (rt (rs ?_))))
 have cu:=aD.pk []
 obtain rfl:_=0:=hr.symm.trans (et (iN g) (et (ip i) (et (iN E) (et (iN F) (et (ip az) (et (ae ah) (et (ip aF) (iN aM))))))))
 exact⟨rfl,cu,e6⟩
 refine jT (dT aF) (sr (An rfl (rt (tR (rs ?_)))))
 have cz:=aD.pk []
 obtain rfl:_=20:=hr.symm.trans (et (iN g) (et (ip i) (et (iN E) (et (iN F) (et (ip az) (et (ae ah) (iN aF)))))))
 exact⟨rfl,cz,e6⟩
 refine jT (dT az) (sr (An rfl (rt (tR (rs ?_)))))
 have cB:=b.pk []
 obtain rfl:_=40:=hr.symm.trans (et (iN g) (et (ip i) (et (iN E) (et (iN F) (iN az)))))
 exact⟨rfl,cB,e6⟩
 refine Gz (vP d 0) (dF i) (Gl (vI a.av) (dF i) b 0 C2 (Gz (.bool (decide (a.av=3))) (dF i) (fw (.bool (decide (a.av=3))) (Io rfl (dF i) rfl) (Ar rfl (Kz (vP d 0) (Lz (vI a.av) b 0 C2 (Kz (.bool (decide (a.av=4))) (Mz rfl ?_))))))))
 by_cases f:a.av=4
 refine Sz (dT f) (Sz (dT f) (Sz (dT f) (fw (.bool true) (Iw rfl (dT f) rfl) (An rfl (Ik (sr (Mz rfl (fw (.bool (decide (¬ (a.av=3)))) (IM (e:= !(decide (a.av=3))) yk decide_not.symm) (Mz rfl ?_)))))))))
 have aG:(decide (¬ (a.av=3)))=true:=(dT e6)
 refine I7 (v:= .bool true) rfl rfl aG rfl (IA rfl) (Gz (.bool false) aG (fw (.bool false) (Iw rfl aG rfl) (Mz rfl (gw (.bool (decide (a.av=3))) rfl (IA rfl) (gw (.bool (decide (a.av=3))) rfl (IA rfl) ?_)))))
 have x:(decide (a.av=3))=false:=(dF e6)
 refine Sz x (Sz x (Sz x (Sz x (IG rfl rfl rfl (IG rfl rfl rfl (IG rfl rfl rfl (Sz x (gw (.bool false) rfl (Io rfl x rfl) (fw (.bool false) (Io rfl rfl rfl) (Mz rfl (gw (.bool true) rfl (IA rfl) (gw (.bool true) rfl (IA rfl) (Gz (vP d 1) rfl (Gl (.string ⟨v6 a.aZ⟩) rfl b 0 C0 (gw (.bool (decide (a.aZ≠([])))) rfl (I6 rfl rfl) (gw (.bool (decide (a.aZ≠([])))) rfl (Iw rfl rfl rfl) (fw (.bool (decide (a.aZ≠([])))) (Io rfl rfl rfl) (Mz rfl ?_))))))))))))))))))
 by_cases p:a.aZ≠([])
 refine Sz (dT p) (Sz (dT p) (Sz (dT p) (Sz (dT p) (IG rfl rfl rfl (IG rfl rfl rfl (IG rfl rfl rfl (Sz (dT p) (fw (.bool true) (Iw rfl (dT p) rfl) (Mz rfl (Sz rfl (Sz rfl (Sz rfl (Sz rfl (IG rfl rfl rfl (IG rfl rfl rfl (IG rfl rfl rfl (Sz rfl (fw (.bool true) (Iw rfl rfl rfl) (nt (jt (sr (An rfl (rt (tR (rs ?_)))))))))))))))))))))))))
 have cK:=b.pk []
 obtain rfl:_=40:=hr.symm.trans (et (iN g) (et (iN i) (et (ip f) (ip p))))
 exact⟨rfl,cK,e6⟩
 refine Gz (vP d 0) (dF p) (Gl (vI a.av) (dF p) b 0 C2 (gw (.bool (decide (¬ (a.av=2)))) (dF p) (IM (e:= !(decide (a.av=2))) yk decide_not.symm) (gw (.bool (decide (¬ (a.av=2)))) (dF p) (IA rfl) ?_)))
 have ai:(decide (¬ (a.av=2)))=true:=(dT e6)
 refine Gz (vP d 2) ai (Gl (.string ⟨v6 a.aG⟩) ai b 0 C0 (I7 (v:= .bool (decide (a.aG≠([])))) rfl rfl ai rfl (I6 rfl rfl) (gw (.bool (decide (a.aG≠([])))) (dF p) (Iw rfl ai rfl) (fw (.bool (decide (a.aG≠([])))) (Io rfl (dF p) rfl) (Mz rfl ?_)))))
 by_cases t:a.aG≠([])
 refine Sz (dT t) (Sz (dT t) (Sz (dT t) (Sz (dT t) (IG rfl rfl rfl (IG rfl rfl rfl (IG rfl rfl rfl (Sz (dT t) (fw (.bool true) (Iw rfl (dT t) rfl) (nt (jt (sr (An rfl (rt (tR (rs ?_)))))))))))))))
 have cO:=b.pk []
 obtain rfl:_=40:=hr.symm.trans (et (iN g) (et (iN i) (et (ip f) (et (iN p) (ip t)))))
 exact⟨rfl,cO,e6⟩
 refine Gz (vP d 0) (dF t) (Gl (vI a.av) (dF t) b 0 C2 (gw (.bool (decide (¬ (a.av=4)))) (dF t) (IM (e:= !(decide (a.av=4))) yk decide_not.symm) (gw (.bool (decide (¬ (a.av=4)))) (dF t) (IA rfl) ?_)))
 have aj:(decide (¬ (a.av=4)))=false:=(dF e6)
 refine Sz aj (Sz aj (Sz aj (gw (.bool false) (dF t) (Io rfl aj rfl) (fw (.bool false) (Io rfl (dF t) rfl) (nt (jf (sk (Ik (sr (Mz rfl (Mz rfl (Sz x (Sz x (Sz x (Sz x (fw (.bool false) (Io rfl x rfl) (nt (jf (sk (Ik (sr (Kz (vP d 2) (Lz (.string ⟨v6 a.aG⟩) b 0 C0 (Kz (vJ a.aG.length) (Kz (.bool (decide (((a.aG.length:Nat):Int) > 16))) (nt ?_))))))))))))))))))))))))))
 by_cases W:((a.aG.length:Nat):Int) > 16
 refine jT (dT W) (sr (An rfl (rt (tR (rs ?_)))))
 have cZ:=b.pk []
 obtain rfl:_=2:=hr.symm.trans (et (iN g) (et (iN i) (et (ip f) (et (iN p) (et (iN t) (ip W))))))
 exact⟨rfl,cZ,e6⟩
 refine jF (dF W) (sk (Ik (sr (Mz rfl (Mz rfl (Gz (vP d 3) rfl (Gl (.string ⟨v6 a.aJ⟩) rfl b 0 C0 (Gz (vP d 4) rfl (Gl (.string ⟨v6 a.aR⟩) rfl b 0 C0 (Gz (.agg #[.string ⟨v6 a.aJ⟩, .string ⟨v6 a.aR⟩]) rfl ?_))))))))))
 obtain⟨aH,R⟩:∃ q,gF (aL.mk a.aJ a.aR)=q:=⟨_,rfl⟩
 obtain⟨dO,bi,dC,bn,dD⟩:=Iu b
 refine pW rfl U4 (lZ _ _ (aL.mk a.aJ a.aR) aH bi R) ?_
 rintro _ dP ⟨rfl,bq⟩
 have G:=bn _ _ bq
 refine gw (.bool (decide (¬ (aH=0)))) rfl (IM (e:= !(decide (aH=0))) yk decide_not.symm) (fw (.bool (decide (¬ (aH=0)))) (Iw rfl rfl rfl) (nt ?_))
 by_cases I:aH=0
 refine jF (dF (Lr I)) (sk (Ik (sr (Kz (vP d 0) (Lz (vI a.av) G 0 C2 (Kz (.bool (decide (a.av=4))) (Mz rfl (Gz (vP d 5) (dT f) (Gl (vI a.aV) (dT f) G 0 C2 (Gz (.bool (decide (a.aV < 1))) (dT f) (gw (.bool (decide (a.aV < 1))) (dT f) (IA rfl) ?_)))))))))))
 by_cases y:a.aV < 1
 refine Sz (dT y) (Sz (dT y) (Sz (dT y) (gw (.bool true) (dT f) (Iw rfl (dT y) rfl) (fw (.bool true) (Iw rfl (dT f) rfl) (nt (jt (sr (An rfl (rt (tR (rs ?_)))))))))))
 have bu:=G.pk []
 obtain rfl:_=1:=hr.symm.trans (et (iN g) (et (iN i) (et (ip f) (et (iN p) (et (iN t) (et (iN W) (et (ae R) (et (ip I) (ip y)))))))))
 exact⟨rfl,bu,e6⟩
 refine Gz (vP d 5) (dF y) (Gl (vI a.aV) (dF y) G 0 C2 (Gz (.bool (decide (a.aV > 4))) (dF y) (gw (.bool (decide (a.aV > 4))) (dT f) (Io rfl (dF y) rfl) (fw (.bool (decide (a.aV > 4))) (Iw rfl (dT f) rfl) (nt ?_)))))
 by_cases ak:a.aV > 4
 refine jT (dT ak) (sr (An rfl (rt (tR (rs ?_)))))
 have bv:=G.pk []
 obtain rfl:_=1:=hr.symm.trans (et (iN g) (et (iN i) (et (ip f) (et (iN p) (et (iN t) (et (iN W) (et (ae R) (et (ip I) (et (iN y) (ip ak))))))))))
 exact⟨rfl,bv,e6⟩
 refine jF (dF ak) (sk (sr (An rfl (rt (rs ?_)))))
 have bz:=G.pk []
 obtain rfl:_=0:=hr.symm.trans (et (iN g) (et (iN i) (et (ip f) (et (iN p) (et (iN t) (et (iN W) (et (ae R) (et (ip I) (et (iN y) (iN ak))))))))))
 exact⟨rfl,bz,e6⟩
 refine jT (dT I) (sr (An rfl (rt (tR (rs ?_)))))
 have bA:=G.pk []
 obtain rfl:_=21:=hr.symm.trans (et (iN g) (et (iN i) (et (ip f) (et (iN p) (et (iN t) (et (iN W) (et (ae R) (iN I))))))))
 exact⟨rfl,bA,e6⟩
 refine Gz (vP d 0) (dF f) (Gl (vI a.av) (dF f) b 0 C2 (Gz (.bool (decide (a.av=5))) (dF f) (fw (.bool (decide (a.av=5))) (Io rfl (dF f) rfl) (An rfl (Ik (sr (Mz rfl (fw (.bool (decide (¬ (a.av=3)))) (IM (e:= !(decide (a.av=3))) yk decide_not.symm) (Mz rfl ?_)))))))))
 by_cases c:a.av=3
 refine Sk rfl rfl (dF (Lr c)) rfl (Sk rfl rfl (dF (Lr c)) rfl (fw (.bool false) (Io rfl (dF (Lr c)) rfl) (Mz rfl (gw (.bool (decide (a.av=3))) rfl (IA rfl) (gw (.bool (decide (a.av=3))) rfl (IA rfl) (Gz (vP d 3) (dT c) (Gl (.string ⟨v6 a.aJ⟩) (dT c) b 0 C0 (gw (.bool (decide (a.aJ≠([])))) (dT c) (I6 rfl rfl) (gw (.bool (decide (a.aJ≠([])))) (dT c) (IA rfl) ?_)))))))))
 by_cases n:a.aJ≠([])
 refine Sz (dT n) (Sz (dT n) (Sz (dT n) (gw (.bool true) (dT c) (Iw rfl (dT n) rfl) (gw (.bool true) rfl (Iw rfl (dT c) rfl) (fw (.bool true) (Io rfl rfl rfl) (Mz rfl (Sz rfl (Sz rfl (IG rfl rfl rfl (IG rfl rfl rfl (IG rfl rfl rfl (Sz rfl (fw (.bool true) (Iw rfl rfl rfl) (Mz rfl (Sz rfl (Sz rfl (Sz rfl (Sz rfl (IG rfl rfl rfl (IG rfl rfl rfl (IG rfl rfl rfl (Sz rfl (fw (.bool true) (Iw rfl rfl rfl) (Mz rfl (Sz rfl (Sz rfl (Sz rfl (Sz rfl (IG rfl rfl rfl (IG rfl rfl rfl (IG rfl rfl rfl (Sz rfl (fw (.bool true) (Iw rfl rfl rfl) (nt (jt (sr (Az rfl ?_)))))))))))))))))))))))))))))))))))))
 refine nt (rt (tR (rs ?_)))
 have bB:=b.pk []
 obtain rfl:_=40:=hr.symm.trans (et (iN g) (et (iN i) (et (iN f) (et (ip c) (ip n)))))
 exact⟨rfl,bB,e6⟩
 refine Gz (vP d 4) (dF n) (Gl (.string ⟨v6 a.aR⟩) (dF n) b 0 C0 (gw (.bool (decide (a.aR≠([])))) (dF n) (I6 rfl rfl) (gw (.bool (decide (a.aR≠([])))) (dT c) (Io rfl (dF n) rfl) (gw (.bool (decide (a.aR≠([])))) rfl (Iw rfl (dT c) rfl) (fw (.bool (decide (a.aR≠([])))) (Io rfl rfl rfl) (Mz rfl ?_))))))
 by_cases o:a.aR≠([])
 refine Sz (dT o) (Sz (dT o) (IG rfl rfl rfl (IG rfl rfl rfl (IG rfl rfl rfl (Sz (dT o) (fw (.bool true) (Iw rfl (dT o) rfl) (Mz rfl (Sz rfl (Sz rfl (Sz rfl (Sz rfl (IG rfl rfl rfl (IG rfl rfl rfl (IG rfl rfl rfl (Sz rfl (fw (.bool true) (Iw rfl rfl rfl) (Mz rfl (Sz rfl (Sz rfl (Sz rfl (Sz rfl (IG rfl rfl rfl (IG rfl rfl rfl (IG rfl rfl rfl (Sz rfl (fw (.bool true) (Iw rfl rfl rfl) (nt (jt (sr (An rfl (rt (tR (rs ?_)))))))))))))))))))))))))))))))))
 have bC:=b.pk []
 obtain rfl:_=40:=hr.symm.trans (et (iN g) (et (iN i) (et (iN f) (et (ip c) (et (iN n) (ip o))))))
 exact⟨rfl,bC,e6⟩
 refine gw (.bool (decide (a.av=5))) (dF o) (IA rfl) (gw (.bool (decide (a.av=5))) (dF o) (IA rfl) ?_)
 have m:(decide (a.av=5))=false:=(dF e6)
 refine Sz m (Sz m (Sz m (gw (.bool false) (dF o) (Io rfl m rfl) (fw (.bool false) (Io rfl (dF o) rfl) (Mz rfl (Gz (vP d 0) rfl (Gl (vI a.av) rfl b 0 C2 (gw (.bool (decide (¬ (a.av=2)))) rfl (IM (e:= !(decide (a.av=2))) yk decide_not.symm) (gw (.bool (decide (¬ (a.av=2)))) rfl (IA rfl) ?_)))))))))
 have M:(decide (¬ (a.av=2)))=true:=(dT e6)
 refine Gz (vP d 2) M (Gl (.string ⟨v6 a.aG⟩) M b 0 C0 (I7 (v:= .bool (decide (a.aG≠([])))) rfl rfl M rfl (I6 rfl rfl) (gw (.bool (decide (a.aG≠([])))) rfl (Iw rfl M rfl) (fw (.bool (decide (a.aG≠([])))) (Io rfl rfl rfl) (Mz rfl ?_)))))
 by_cases k:a.aG≠([])
 refine Sz (dT k) (Sz (dT k) (Sz (dT k) (Sz (dT k) (IG rfl rfl rfl (IG rfl rfl rfl (IG rfl rfl rfl (Sz (dT k) (fw (.bool true) (Iw rfl (dT k) rfl) (nt (jt (sr (An rfl (rt (tR (rs ?_)))))))))))))))
 have bD:=b.pk []
 obtain rfl:_=40:=hr.symm.trans (et (iN g) (et (iN i) (et (iN f) (et (ip c) (et (iN n) (et (iN o) (ip k)))))))
 exact⟨rfl,bD,e6⟩
 refine Gz (vP d 0) (dF k) (Gl (vI a.av) (dF k) b 0 C2 (gw (.bool (decide (¬ (a.av=4)))) (dF k) (IM (e:= !(decide (a.av=4))) yk decide_not.symm) (gw (.bool (decide (¬ (a.av=4)))) (dF k) (IA rfl) ?_)))
 have N:(decide (¬ (a.av=4)))=true:=(dT e6)
 refine Gz (vP d 5) N (Gl (vI a.aV) N b 0 C2 (I7 (v:= .bool (decide (¬ (a.aV=0)))) rfl rfl N rfl (IM (e:= !(decide (a.aV=0))) yk decide_not.symm) (gw (.bool (decide (¬ (a.aV=0)))) (dF k) (Iw rfl N rfl) (fw (.bool (decide (¬ (a.aV=0)))) (Io rfl (dF k) rfl) (nt ?_)))))
 by_cases J:a.aV=0
 refine jF (dF (Lr J)) (sk (Ik (sr (Mz rfl (Mz rfl (Gz (vP d 1) (dT c) (Gl (.string ⟨v6 a.aZ⟩) (dT c) b 0 C0 ?_)))))))
 obtain⟨K,O⟩:∃ q,iO a.aZ=q:=⟨_,rfl⟩
 obtain⟨dE,aQ,df,aR,dh⟩:=Iu b
 refine pW (dT c) U5 (mg _ _ a.aZ K aQ O) ?_
 rintro _ dG ⟨rfl,aS,aI⟩
 have S:=aR _ _ aS
 replace aI: ¬ (K=0)∨(1≤a.aZ.length∧a.aZ.length≤12):=aI
 refine gw (.bool (decide (¬ (K=0)))) (dT c) (IM (e:= !(decide (K=0))) yk decide_not.symm) (fw (.bool (decide (¬ (K=0)))) (Iw rfl (dT c) rfl) (nt ?_))
 by_cases T:K=0
 refine jF (dF (Lr T)) (sk (Ik (sr (Kz (vP d 2) (Lz (.string ⟨v6 a.aG⟩) S 0 C0 (Kz (vJ a.aG.length) (Kz (.bool (decide (((a.aG.length:Nat):Int) > 16))) (nt ?_))))))))
 by_cases au:((a.aG.length:Nat):Int) > 16
 refine jT (dT au) (sr (An rfl (rt (tR (rs ?_)))))
 have bE:=S.pk []
 obtain rfl:_=2:=hr.symm.trans (et (iN g) (et (iN i) (et (iN f) (et (ip c) (et (iN n) (et (iN o) (et (iN k) (et (ip J) (et (ae O) (et (ip T) (ip au)))))))))))
 exact⟨rfl,bE,e6⟩
 refine jF (dF au) (sk (Ik (sr (Mz rfl (Mz rfl (Sz m (Sz m (Sz m (Sz m (Sz m (Sz m (Sz m (fw (.bool false) (Io rfl m rfl) (nt (jf (sk (Ik (sr (Kz (vP d 0) (Lz (vI a.av) S 0 C2 (Kz (.bool (decide (a.av=4))) (Mz rfl (Sz (dF f) (Sz (dF f) (Sz (dF f) (Sz (dF f) (IG rfl rfl rfl (IG rfl rfl rfl (IG rfl rfl rfl (Sz (dF f) (fw (.bool false) (Io rfl (dF f) rfl) (nt (jf ?_)))))))))))))))))))))))))))))))))
 refine sk (sr (An rfl (rt (rs ?_))))
 have bF:=S.pk []
 obtain rfl:_=0:=hr.symm.trans (et (iN g) (et (iN i) (et (iN f) (et (ip c) (et (iN n) (et (iN o) (et (iN k) (et (ip J) (et (ae O) (et (ip T) (iN au)))))))))))
 exact⟨rfl,bF,e6⟩
 refine jT (dT T) (sr (An rfl (rt (tR (rs ?_)))))
 have bG:=S.pk []
 obtain rfl:_=20:=hr.symm.trans (et (iN g) (et (iN i) (et (iN f) (et (ip c) (et (iN n) (et (iN o) (et (iN k) (et (ip J) (et (ae O) (iN T))))))))))
 exact⟨rfl,bG,e6⟩
 refine jT (dT J) (sr (An rfl (rt (tR (rs ?_)))))
 have bH:=b.pk []
 obtain rfl:_=40:=hr.symm.trans (et (iN g) (et (iN i) (et (iN f) (et (ip c) (et (iN n) (et (iN o) (et (iN k) (iN J))))))))
 exact⟨rfl,bH,e6⟩
 refine gw (.bool (decide (a.av=5))) (dT c) (IA rfl) (gw (.bool (decide (¬ (a.av=5)))) (dT c) (IM (e:= !(decide (a.av=5))) yk decide_not.symm) (fw (.bool (decide (¬ (a.av=5)))) (Iw rfl (dT c) rfl) (Mz rfl ?_)))
 by_cases h:a.av=5
 refine gw (.bool (decide (a.av=3))) (dF (Lr h)) (IA rfl) (gw (.bool (decide (a.av=3))) (dF (Lr h)) (IA rfl) (Sz (dF c) (Sz (dF c) (Sz (dF c) (Sz (dF c) (IG rfl rfl rfl (IG rfl rfl rfl (IG rfl rfl rfl (Sz (dF c) (gw (.bool false) (dF (Lr h)) (Io rfl (dF c) rfl) (fw (.bool false) (Io rfl (dF (Lr h)) rfl) (Mz rfl (gw (.bool (decide (a.av=5))) rfl (IA rfl) (gw (.bool (decide (a.av=5))) rfl (IA rfl) (Gz (vP d 1) (dT h) (Gl (.string ⟨v6 a.aZ⟩) (dT h) b 0 C0 (gw (.bool (decide (a.aZ≠([])))) (dT h) (I6 rfl rfl) (gw (.bool (decide (a.aZ≠([])))) rfl (Iw rfl (dT h) rfl) (fw (.bool (decide (a.aZ≠([])))) (Io rfl rfl rfl) (Mz rfl ?_))))))))))))))))))))
 by_cases j:a.aZ≠([])
 refine Sz (dT j) (Sz (dT j) (Sz (dT j) (Sz (dT j) (IG rfl rfl rfl (IG rfl rfl rfl (IG rfl rfl rfl (Sz (dT j) (fw (.bool true) (Iw rfl (dT j) rfl) (Mz rfl (Sz rfl (Sz rfl (Sz rfl (Sz rfl (IG rfl rfl rfl (IG rfl rfl rfl (IG rfl rfl rfl (Sz rfl (fw (.bool true) (Iw rfl rfl rfl) (nt (jt (sr (An rfl (rt (tR (rs ?_)))))))))))))))))))))))))
 have bI:=b.pk []
 obtain rfl:_=40:=hr.symm.trans (et (iN g) (et (iN i) (et (iN f) (et (iN c) (et (ip h) (ip j))))))
 exact⟨rfl,bI,e6⟩
 refine Gz (vP d 0) (dF j) (Gl (vI a.av) (dF j) b 0 C2 (gw (.bool (decide (¬ (a.av=2)))) (dF j) (IM (e:= !(decide (a.av=2))) yk decide_not.symm) (gw (.bool (decide (¬ (a.av=2)))) (dF j) (IA rfl) ?_)))
 have P:(decide (¬ (a.av=2)))=true:=(dT e6)
 refine Gz (vP d 2) P (Gl (.string ⟨v6 a.aG⟩) P b 0 C0 (I7 (v:= .bool (decide (a.aG≠([])))) rfl rfl P rfl (I6 rfl rfl) (gw (.bool (decide (a.aG≠([])))) (dF j) (Iw rfl P rfl) (fw (.bool (decide (a.aG≠([])))) (Io rfl (dF j) rfl) (Mz rfl ?_)))))
 by_cases l:a.aG≠([])
 refine Sz (dT l) (Sz (dT l) (Sz (dT l) (Sz (dT l) (IG rfl rfl rfl (IG rfl rfl rfl (IG rfl rfl rfl (Sz (dT l) (fw (.bool true) (Iw rfl (dT l) rfl) (nt (jt (sr (An rfl (rt (tR (rs ?_)))))))))))))))
 have bJ:=b.pk []
 obtain rfl:_=40:=hr.symm.trans (et (iN g) (et (iN i) (et (iN f) (et (iN c) (et (ip h) (et (iN j) (ip l)))))))
 exact⟨rfl,bJ,e6⟩
 refine Gz (vP d 0) (dF l) (Gl (vI a.av) (dF l) b 0 C2 (gw (.bool (decide (¬ (a.av=4)))) (dF l) (IM (e:= !(decide (a.av=4))) yk decide_not.symm) (gw (.bool (decide (¬ (a.av=4)))) (dF l) (IA rfl) ?_)))
 have Q:(decide (¬ (a.av=4)))=true:=(dT e6)
 refine Gz (vP d 5) Q (Gl (vI a.aV) Q b 0 C2 (I7 (v:= .bool (decide (¬ (a.aV=0)))) rfl rfl Q rfl (IM (e:= !(decide (a.aV=0))) yk decide_not.symm) (gw (.bool (decide (¬ (a.aV=0)))) (dF l) (Iw rfl Q rfl) (fw (.bool (decide (¬ (a.aV=0)))) (Io rfl (dF l) rfl) (nt ?_)))))
 by_cases L:a.aV=0
 refine jF (dF (Lr L)) (sk (Ik (sr (Mz rfl (Mz rfl (Sz (dF c) (Sz (dF c) (Sz (dF c) (Sz (dF c) (fw (.bool false) (Io rfl (dF c) rfl) (nt (jf (sk (Ik (sr (Kz (vP d 2) (Lz (.string ⟨v6 a.aG⟩) b 0 C0 (Kz (vJ a.aG.length) (Kz (.bool (decide (((a.aG.length:Nat):Int) > 16))) (nt ?_))))))))))))))))))))
 by_cases U:((a.aG.length:Nat):Int) > 16
 refine jT (dT U) (sr (An rfl (rt (tR (rs ?_)))))
 have bK:=b.pk []
 obtain rfl:_=2:=hr.symm.trans (et (iN g) (et (iN i) (et (iN f) (et (iN c) (et (ip h) (et (iN j) (et (iN l) (et (ip L) (ip U)))))))))
 exact⟨rfl,bK,e6⟩
 refine jF (dF U) (sk (Ik (sr (Mz rfl (Mz rfl (Gz (vP d 3) (dT h) (Gl (.string ⟨v6 a.aJ⟩) (dT h) b 0 C0 (Gz (vP d 4) (dT h) (Gl (.string ⟨v6 a.aR⟩) (dT h) b 0 C0 (Gz (.agg #[.string ⟨v6 a.aJ⟩, .string ⟨v6 a.aR⟩]) (dT h) ?_))))))))))
 obtain⟨V,X⟩:∃ q,gF (aL.mk a.aJ a.aR)=q:=⟨_,rfl⟩
 obtain⟨dH,aT,di,aU,dm⟩:=Iu b
 refine pW (dT h) U4 (lZ _ _ (aL.mk a.aJ a.aR) V aT X) ?_
 rintro _ dI ⟨rfl,aV⟩
 have aJ:=aU _ _ aV
 refine gw (.bool (decide (¬ (V=0)))) (dT h) (IM (e:= !(decide (V=0))) yk decide_not.symm) (fw (.bool (decide (¬ (V=0)))) (Iw rfl (dT h) rfl) (nt ?_))
 by_cases av:V=0
 refine jF (dF (Lr av)) (sk (Ik (sr (Kz (vP d 0) (Lz (vI a.av) aJ 0 C2 (Kz (.bool (decide (a.av=4))) (Mz rfl (Sz (dF f) (Sz (dF f) (Sz (dF f) (Sz (dF f) (IG rfl rfl rfl (IG rfl rfl rfl (IG rfl rfl rfl (Sz (dF f) (fw (.bool false) (Io rfl (dF f) rfl) (nt (jf (sk (sr (An rfl (rt (rs ?_)))))))))))))))))))))))
 have bL:=aJ.pk []
 obtain rfl:_=0:=hr.symm.trans (et (iN g) (et (iN i) (et (iN f) (et (iN c) (et (ip h) (et (iN j) (et (iN l) (et (ip L) (et (iN U) (et (ae X) (ip av)))))))))))
 exact⟨rfl,bL,e6⟩
 refine jT (dT av) (sr (An rfl (rt (tR (rs ?_)))))
 have bM:=aJ.pk []
 obtain rfl:_=21:=hr.symm.trans (et (iN g) (et (iN i) (et (iN f) (et (iN c) (et (ip h) (et (iN j) (et (iN l) (et (ip L) (et (iN U) (et (ae X) (iN av)))))))))))
 exact⟨rfl,bM,e6⟩
 refine jT (dT L) (sr (An rfl (rt (tR (rs ?_)))))
 have bN:=b.pk []
 obtain rfl:_=40:=hr.symm.trans (et (iN g) (et (iN i) (et (iN f) (et (iN c) (et (ip h) (et (iN j) (et (iN l) (iN L))))))))
 exact⟨rfl,bN,e6⟩
 refine Sz (dT h) (Sz (dT h) (IG rfl rfl rfl (IG rfl rfl rfl (IG rfl rfl rfl (IG rfl rfl rfl (IG rfl rfl rfl (IG rfl rfl rfl (IG rfl rfl rfl (IG rfl rfl rfl (Sz (dT h) (fw (.bool true) (Iw rfl (dT h) rfl) (Mz rfl (Sz rfl (Sz rfl (IG rfl rfl rfl (IG rfl rfl rfl (IG rfl rfl rfl (Sz rfl (fw (.bool true) (Iw rfl rfl rfl) (Mz rfl (Sz rfl (Sz rfl (Sz rfl (Sz rfl (IG rfl rfl rfl (IG rfl rfl rfl (IG rfl rfl rfl (Sz rfl (fw (.bool true) (Iw rfl rfl rfl) (Mz rfl (Sz rfl (Sz rfl (Sz rfl (Sz rfl (IG rfl rfl rfl (IG rfl rfl rfl (IG rfl rfl rfl (Sz rfl (fw (.bool true) (Iw rfl rfl rfl) ?_)))))))))))))))))))))))))))))))))))))))
 refine nt (jt (sr (An rfl (rt (tR (rs ?_))))))
 have bO:=b.pk []
 obtain rfl:_=40:=hr.symm.trans (et (iN g) (et (iN i) (et (iN f) (et (iN c) (iN h)))))
 exact⟨rfl,bO,e6⟩
def mJ:List aN→Unit ⊕ Int
  | []=>B7 ()
  | b::c=>bnd (kQ b) fun a=>if a=0 then mJ c else B9 (a)
def uM (l0:List aN):Int:=
 lp (mJ l0) fun _=>0
theorem CB (w D o A B l0 L) (H:Own w D w []) (n:Ro w D fun w'=>aY w' 6 o A (q4 aN.cells l0)) (C:A=l0.length) (P:l0.length≤9223372036854775807) (hr:uM l0=L):
    Calls v5 68 #[.slice o A B] w (dA fun v w'=>v=vI L∧Own w D w' []):=by
 subst C
 refine cb Tryz.func68 ?_
 refine sr (An rfl (Ik (sr (Mz rfl (Kz (vJ l0.length) (Mn rfl (bo ?_)))))))
 have E:=H.pk []
 obtain⟨F,d⟩:=lF fun (a:Nat) w'=>Own w D w' []∧a≤l0.length∧mJ l0=mJ (r4 a l0)
 refine C1 (fun i:Nat=> [(2,vI 0),(8,vJ i),(7,vJ l0.length),(6, .slice o l0.length B)]) F (fun i=>l0.length - i) 0 ⟨rfl,rfl,rfl,rfl,trivial⟩ (d.2 ⟨E,e6,rfl⟩) ?_
 rintro a Q p
 obtain⟨f,M,g⟩:=d.1 p
 refine sr (Kz (.bool (decide (((a:Nat):Int) < ((l0.length:Nat):Int)))) (nt (Ik ?_)))
 by_cases r:((a:Nat):Int) < ((l0.length:Nat):Int)
 obtain⟨b,k⟩:=dh (ls:=l0) (i:=a) aN.len f2 (f.ro n) e9
 have l:=drop_at k
 refine jT (dT r) (sk (Ik (bo (sr (fw (.pointer (some ⟨ab o,ao o+a *6,none⟩)) (Iz (mG) rfl rfl ((f.ro n).addr (i:=a) e6) e6) (fw (.agg (aN.cells b).toArray) (IB rfl (IJ (cs:=(aN.cells b)) M8 M7 ((f.ro n).elem aN.len k f2))) ?_))))))
 refine dn [vI 0, .string ⟨v6 ([])⟩, .string ⟨v6 ([])⟩, .string ⟨v6 ([])⟩, .string ⟨v6 ([])⟩,vI 0] 72 f ?_
 intro R S G
 refine df (aN.cells b) 0 G M7 ?_
 intro T s
 refine ns (La (aN.cells b) s 0 M8 M7 ?_)
 obtain⟨c,h⟩:∃ q,kQ b=q:=⟨_,rfl⟩
 obtain⟨U,t,N,u,O⟩:=Iu s
 refine cl Tryz.call34 (uL _ _ b c t h) ?_
 rintro _ V ⟨rfl,x,m⟩
 have y:=u _ _ x
 replace m: ¬ (c=0)∨(1≤b.av∧b.av≤5):=m
 refine Ar rfl (Mz rfl (fw (.bool (decide (¬ (c=0)))) (IM (e:= !(decide (c=0))) yk decide_not.symm) (nt ?_)))
 by_cases j:c=0
 refine jF (dF (Lr j)) (IU (bN (Iq (Il (fw (vJ (a+1)) (Ir (e:=C3.wrap (((a:Nat):Int)+1)) yk f0) (Mz rfl (C4 ?_)))))))
 have I:=y.pk []
 exact II (a+1) ⟨rfl,rfl,rfl,rfl,trivial⟩ (d.2 ⟨I,e6,et (g) (et (congrArg (fun q=>mJ q) l) (et (ae h) (ip j)))⟩) (by show l0.length - (a+1) < l0.length - a; omega)
 refine jT (dT j) (sr (Mz rfl (An rfl (rt (bR (tR (tR (bR (tR (rs ?_))))))))))
 have J:=y.pk []
 obtain rfl:_=c:=hr.symm.trans (gL (et (g) (et (congrArg (fun q=>mJ q) l) (et (ae h) (iN j)))))
 exact⟨rfl,J⟩
 refine jF (dF r) (C5 (IC ?_))
 have z:mJ l0=B7 ():=et (g) (et (congrArg (fun q=>mJ q) (dZ (ls:=l0) (i:=a) e6)) rfl)
 refine IC (IK (Iq (sr (An rfl (rt (rs ?_))))))
 have K:=f.pk []
 obtain rfl:_=0:=hr.symm.trans (mF z)
 exact⟨rfl,K⟩
def rU (l0:List aN):Int:=
 if((l0.length:Nat):Int) < 1 then 3 else if((l0.length:Nat):Int) > 4 then 3 else bnd (uM l0) fun a=>a
theorem A9 (w D i j k l0 l) (H:Own w D w []) (m:Ro w D fun w'=>aY w' 6 i j (q4 aN.cells l0)) (n:j=l0.length) (u:l0.length≤9223372036854775807) (hr:rU l0=l):
    Calls v5 32 #[.slice i j k] w (dA fun v w'=>v=vI l∧Own w D w' []∧(¬ (l=0)∨l0.length≤24)):=by
 subst n
 refine cb Tryz.func32 ?_
 refine sr (An rfl (Ik (sr (Mz rfl (Kz (vJ l0.length) (Kz (.bool (decide (((l0.length:Nat):Int) < 1))) (Mz rfl ?_)))))))
 by_cases a:((l0.length:Nat):Int) < 1
 refine Sz (dT a) (Sz (dT a) (Sz (dT a) (fw (.bool true) (Iw rfl (dT a) rfl) (nt (jt (sr (An rfl (rt (tR (rs ?_))))))))))
 have o:=H.pk []
 obtain rfl:_=3:=hr.symm.trans (ip a)
 exact⟨rfl,o,e6⟩
 refine gw (.slice i l0.length k) (dF a) (IA rfl) (Gz (vJ l0.length) (dF a) (Gz (.bool (decide (((l0.length:Nat):Int) > 4))) (dF a) (fw (.bool (decide (((l0.length:Nat):Int) > 4))) (Io rfl (dF a) rfl) (nt ?_))))
 by_cases b:((l0.length:Nat):Int) > 4
 refine jT (dT b) (sr (An rfl (rt (tR (rs ?_)))))
 have p:=H.pk []
 obtain rfl:_=3:=hr.symm.trans (et (iN a) (ip b))
 exact⟨rfl,p,e6⟩
 refine jF (dF b) (sk (sr (Mz rfl ?_)))
 obtain⟨d,c⟩:∃ q,uM l0=q:=⟨_,rfl⟩
 obtain⟨x,e,f,g,t⟩:=Iu H
 refine cl Tryz.call68 (CB _ _ i l0.length k l0 d e (f _ m) rfl e6 c) ?_
 rintro _ y ⟨rfl,h⟩
 have r:=g _ _ h
 refine An rfl (rt (rs ?_))
 have s:=r.pk []
 obtain rfl:_=d:=hr.symm.trans (et (iN a) (et (iN b) (ae c)))
 exact⟨rfl,s,e6⟩
def kD (c:aN):aL × Int:=
 bnd (kQ c) fun a=>if a=0 then if c.aZ≠([]) then bnd (rT c.aZ) fun b=>(b.1,b.2) else(aL.mk c.aJ c.aR,0) else(aL.mk ([]) ([]),a)
theorem wU (w D) (a:aN) (J:aL) (K) (H:Own w D w []) (hr:kD a=(J,K)):
    Calls v5 17 #[.agg (aN.cells a).toArray] w (dA fun v w'=>v= .tuple #[.agg (aL.cells J).toArray,vI K]∧Own w D w' []):=by
 refine cb Tryz.func17 ?_
 refine sr ?_
 refine dn (aN.cells a) 72 H ?_
 intro h P C
 refine dn [.string ⟨v6 ([])⟩, .string ⟨v6 ([])⟩] 38 C ?_
 intro Q R p
 refine An rfl (Ik (sr (La (aN.cells a) p 1 M8 M7 ?_)))
 obtain⟨b,d⟩:∃ q,kQ a=q:=⟨_,rfl⟩
 obtain⟨S,r,L,s,M⟩:=Iu p
 refine cl Tryz.call34 (uL _ _ a b r d) ?_
 rintro _ T ⟨rfl,t,n⟩
 have c:=s _ _ t
 replace n: ¬ (b=0)∨(1≤a.av∧a.av≤5):=n
 refine Ar rfl (Mz rfl (fw (.bool (decide (¬ (b=0)))) (IM (e:= !(decide (b=0))) yk decide_not.symm) (nt ?_)))
 by_cases g:b=0
 refine jF (dF (Lr g)) (sk (Ik (sr (Kz (vP h 1) (Lz (.string ⟨v6 a.aZ⟩) c 1 C0 (fw (.bool (decide (a.aZ≠([])))) (I6 rfl rfl) (nt ?_)))))))
 by_cases j:a.aZ≠([])
 refine jT (dT j) (sr (Kz (vP h 1) (Lz (.string ⟨v6 a.aZ⟩) c 1 C0 ?_)))
 obtain⟨⟨f,l⟩,o⟩:∃ q:aL × Int,rT a.aZ=q:=⟨_,rfl⟩
 obtain⟨U,u,N,x,O⟩:=Iu c
 refine cl Tryz.call35 (AZ _ _ a.aZ f l u o) ?_
 rintro _ V ⟨rfl,y⟩
 have E:=x _ _ y
 refine Kz (.agg (aL.cells f).toArray) (Kz (vI l) ?_)
 refine df (aL.cells f) 0 E M9 ?_
 intro W z
 refine An rfl (rt (tR (Fin.res (jb (vs:= [.agg (aL.cells f).toArray,vI l]) rfl (cK.cell rfl (IJ (cs:=(aL.cells f)) N0 M9 ((z.cls (i:=0) rfl).lit (k:=0) (m:=2) rfl)) (cK.tmp rfl cK.nil)) (Lj rfl)) ?_)))
 have F:=z.pk []
 obtain⟨rfl,rfl⟩:=fD (hr.symm.trans (show _=(f,l) from et (ae d) (et (ip g) (et (ip j) (ae o)))))
 exact⟨rfl,F⟩
 refine jF (dF j) (sk (sr (Kz (vP h 3) (Lz (.string ⟨v6 a.aJ⟩) c 1 C0 (Kz (vP h 4) (Lz (.string ⟨v6 a.aR⟩) c 1 C0 (Kz (.agg #[.string ⟨v6 a.aJ⟩, .string ⟨v6 a.aR⟩]) ?_)))))))
 refine df [.string ⟨v6 a.aJ⟩, .string ⟨v6 a.aR⟩] 0 c M9 ?_
 intro X A
 refine An rfl (rt (Fin.res (jb (vs:= [.agg #[.string ⟨v6 a.aJ⟩, .string ⟨v6 a.aR⟩],vI 0]) rfl (cK.cell rfl (IJ (cs:= [.string ⟨v6 a.aJ⟩, .string ⟨v6 a.aR⟩]) N0 M9 ((A.cls (i:=0) rfl).lit (k:=0) (m:=2) rfl)) (cK.tmp rfl cK.nil)) (Lj rfl)) ?_))
 have G:=A.pk []
 obtain⟨rfl,rfl⟩:=fD (hr.symm.trans (show _=(aL.mk a.aJ a.aR,0) from et (ae d) (et (ip g) (iN j))))
 exact⟨rfl,G⟩
 refine jT (dT g) (sr (Kz (.agg #[.string ⟨v6 ([])⟩, .string ⟨v6 ([])⟩]) (Mz rfl ?_)))
 refine df [.string ⟨v6 ([])⟩, .string ⟨v6 ([])⟩] 0 c M9 ?_
 intro Y B
 refine An rfl (rt (tR (Fin.res (jb (vs:= [.agg #[.string ⟨v6 ([])⟩, .string ⟨v6 ([])⟩],vI b]) rfl (cK.cell rfl (IJ (cs:= [.string ⟨v6 ([])⟩, .string ⟨v6 ([])⟩]) N0 M9 ((B.cls (i:=0) rfl).lit (k:=0) (m:=2) rfl)) (cK.tmp rfl cK.nil)) (Lj rfl)) ?_)))
 have I:=B.pk []
 obtain⟨rfl,rfl⟩:=fD (hr.symm.trans (show _=(aL.mk ([]) ([]),b) from et (ae d) (iN g)))
 exact⟨rfl,I⟩
def iZ (l0:List aM):List aM→Nat→Unit ⊕ Int
  | [],a=>B7 ()
  | b::c,a=>if b.bE < 1 then B9 (170) else if b.bE > 4 then B9 (170) else if((a:Nat):Int) > 0 then bnd (iO b.aJ) fun d=>if d=0 then bnd (B8 l0 (a - 1) default) fun e=>if b.aJ≤e.aJ then B9 (170) else iZ l0 c (a+1) else B9 (170) else iZ l0 c (a+1)
def pG (l0:List aM):Int:=
 if((l0.length:Nat):Int) < 1 then 170 else if((l0.length:Nat):Int) > 6 then 170 else bnd (B8 l0 0 default) fun a=>if a.aJ≠([]) then 170 else lp (iZ l0 l0 0) fun _=>0
theorem wu (w D o R I l0 S) (H:Own w D w []) (p:Ro w D fun w'=>aY w' 2 o R (q4 aM.cells l0)) (T:R=l0.length) (az:l0.length *24≤211106232532992) (hr:pG l0=S):
    Calls v5 31 #[.slice o R I] w (dA fun v w'=>v=vI S∧Own w D w' []∧(¬ (S=0)∨(1≤l0.length∧l0.length≤6))):=by
 subst T
 refine cb Tryz.func31 ?_
 refine sr (An rfl (Ik (sr (Mz rfl (Kz (vJ l0.length) (Kz (.bool (decide (((l0.length:Nat):Int) < 1))) (Mz rfl ?_)))))))
 by_cases h:((l0.length:Nat):Int) < 1
 refine Sz (dT h) (Sz (dT h) (Sz (dT h) (fw (.bool true) (Iw rfl (dT h) rfl) (Mz rfl (Sz rfl (Sz rfl (Sz rfl (Sz rfl (Sz rfl (fw (.bool true) (Iw rfl rfl rfl) (nt (jt (sr (An rfl (rt (tR (rs ?_)))))))))))))))))
 have U:=H.pk []
 obtain rfl:_=170:=hr.symm.trans (ip h)
 exact⟨rfl,U,e6⟩
 refine gw (.slice o l0.length I) (dF h) (IA rfl) (Gz (vJ l0.length) (dF h) (Gz (.bool (decide (((l0.length:Nat):Int) > 6))) (dF h) (fw (.bool (decide (((l0.length:Nat):Int) > 6))) (Io rfl (dF h) rfl) (Mz rfl ?_))))
 by_cases f:((l0.length:Nat):Int) > 6
 refine Sz (dT f) (Sz (dT f) (Sz (dT f) (Sz (dT f) (Sz (dT f) (fw (.bool true) (Iw rfl (dT f) rfl) (nt (jt (sr (An rfl (rt (tR (rs ?_))))))))))))
 have V:=H.pk []
 obtain rfl:_=170:=hr.symm.trans (et (iN h) (ip f))
 exact⟨rfl,V,e6⟩
 refine gw (.slice o l0.length I) (dF f) (IA rfl) ?_
 obtain⟨A,l⟩:=dh (ls:=l0) (i:=0) aM.len f2 (H.ro p) e9
 refine gw (.pointer (some ⟨ab o,ao o+0 *2,none⟩)) (dF f) (Iz (nE) rfl rfl ((H.ro p).addr (i:=0) e6) e6) (Gz (.pointer (some ⟨ab o,ao o+0 *2,none⟩)) (dF f) (gw (.string ⟨v6 A.aJ⟩) (dF f) (IB rfl (bJ.one C0 (((H.ro p).elem aM.len l f2).at_ (k:=0) rfl))) (gw (.bool (decide (A.aJ≠([])))) (dF f) (I6 rfl rfl) (fw (.bool (decide (A.aJ≠([])))) (Io rfl (dF f) rfl) (nt ?_)))))
 by_cases r:A.aJ≠([])
 refine jT (dT r) (sr (An rfl (rt (tR (rs ?_)))))
 have W:=H.pk []
 obtain rfl:_=170:=hr.symm.trans (et (iN h) (et (iN f) (et (ae (aT l)) (ip r))))
 exact⟨rfl,W,e6⟩
 refine jF (dF r) (sk (Ik (sr (Mz rfl (Kz (vJ l0.length) (Mn rfl (bo ?_)))))))
 have X:=H.pk []
 obtain⟨Y,t⟩:=lF fun (a:Nat) w'=>Own w D w' []∧a≤l0.length∧iZ l0 l0 0=iZ l0 (r4 a l0) a
 refine C1 (fun i:Nat=> [(2,vI 0),(22,vJ i),(21,vJ l0.length),(20, .slice o l0.length I),(0, .slice o l0.length I)]) Y (fun i=>l0.length - i) 0 ⟨rfl,rfl,rfl,rfl,rfl,trivial⟩ (t.2 ⟨X,e6,rfl⟩) ?_
 rintro a aA L
 obtain⟨y,av,m⟩:=t.1 L
 refine sr (Kz (.bool (decide (((a:Nat):Int) < ((l0.length:Nat):Int)))) (nt (Ik ?_)))
 by_cases M:((a:Nat):Int) < ((l0.length:Nat):Int)
 obtain⟨c,J⟩:=dh (ls:=l0) (i:=a) aM.len f2 (y.ro p) e9
 have n:=drop_at J
 refine jT (dT M) (sk (Ik (bo (sr (Mz rfl (fw (.pointer (some ⟨ab o,ao o+a *2,none⟩)) (Iz (nE) rfl rfl ((y.ro p).addr (i:=a) e6) e6) (fw (.agg (aM.cells c).toArray) (IB rfl (IJ (cs:=(aM.cells c)) U6 P3 ((y.ro p).elem aM.len J f2))) ?_)))))))
 refine dn [.string ⟨v6 ([])⟩,vI 0] 89 y ?_
 intro B aB Z
 refine Az rfl ?_
 refine df (aM.cells c) 0 Z P3 ?_
 intro aC aa
 refine nt (Ik ?_)
 refine vo [] (IE (bv.block (IE (IE (bv.block (IE IQ)))))) aa ?_
 intro aD C
 refine qp B 1 0 rfl (ql 1 rfl 0 C2 rfl rfl rfl (qk (.bool (decide (c.bE < 1))) 2 rfl (qv 3 rfl rfl ?_)))
 by_cases j:c.bE < 1
 refine Ip (rs:= []) 4 rfl rfl rfl (dT j) e7 (Ip (rs:= []) 5 rfl rfl rfl (dT j) e7 (Ip (rs:= []) 6 rfl rfl rfl (dT j) e7 (qt (v:= .bool true) 7 rfl (fun _ _=>Iw rfl (dT j) rfl) (qv 8 rfl rfl (Ip (rs:= []) 9 rfl rfl rfl rfl e7 (Ip (rs:= []) 10 rfl rfl rfl rfl e7 (Ip (rs:= []) 11 rfl rfl rfl rfl e7 (IR (rs:= []) 12 rfl rfl rfl e7 (IR (rs:= []) 13 rfl rfl rfl e7 (IR (rs:= []) 14 rfl rfl rfl e7 (IR (rs:= []) 15 rfl rfl rfl e7 (IR (rs:= []) 16 rfl rfl rfl e7 (IR (rs:= []) 17 rfl rfl rfl e7 (IR (rs:= []) 18 rfl rfl rfl e7 (IR (rs:= []) 19 rfl rfl rfl e7 (IR (rs:= []) 20 rfl rfl rfl e7 (IR (rs:= []) 21 rfl rfl rfl e7 (IR (rs:= []) 22 rfl rfl rfl e7 (IR (rs:= []) 23 rfl rfl rfl e7 (IR (rs:= []) 24 rfl rfl rfl e7 (IR (rs:= []) 25 rfl rfl rfl e7 (IR (rs:= []) 26 rfl rfl rfl e7 (Ip (rs:= []) 27 rfl rfl rfl rfl e7 (qt (v:= .bool true) 28 rfl (fun _ _=>Iw rfl rfl rfl) (qn (Iq (jt (sr (An rfl (rt (bR (tR (tR (bR (tR (rs ?_))))))))))))))))))))))))))))))))))))
 have af:=C.pk []
 obtain rfl:_=170:=hr.symm.trans (et (iN h) (et (iN f) (et (ae (aT l)) (et (iN r) (gL (et (m) (et (congrArg (fun q=>iZ l0 q a) n) (ip j))))))))
 exact⟨rfl,af,e6⟩
 refine Iy (v:=vP B 1) (rs:= []) 4 rfl rfl rfl (dF j) e7 (fun _ _=>yk) (Iy (v:=vI c.bE) (rs:= []) 5 rfl rfl rfl (dF j) e7 (fun _ ⟨_,E⟩=>IB rfl (bJ.one C2 (I1 (E.cls (i:=0) rfl) rfl))) (Iy (v:= .bool (decide (c.bE > 4))) (rs:= []) 6 rfl rfl rfl (dF j) e7 (fun _ _=>yk) (qt (v:= .bool (decide (c.bE > 4))) 7 rfl (fun _ _=>Io rfl (dF j) rfl) (qv 8 rfl rfl ?_))))
 by_cases g:c.bE > 4
 refine Ip (rs:= []) 9 rfl rfl rfl (dT g) e7 (Ip (rs:= []) 10 rfl rfl rfl (dT g) e7 (Ip (rs:= []) 11 rfl rfl rfl (dT g) e7 (IR (rs:= []) 12 rfl rfl rfl e7 (IR (rs:= []) 13 rfl rfl rfl e7 (IR (rs:= []) 14 rfl rfl rfl e7 (IR (rs:= []) 15 rfl rfl rfl e7 (IR (rs:= []) 16 rfl rfl rfl e7 (IR (rs:= []) 17 rfl rfl rfl e7 (IR (rs:= []) 18 rfl rfl rfl e7 (IR (rs:= []) 19 rfl rfl rfl e7 (IR (rs:= []) 20 rfl rfl rfl e7 (IR (rs:= []) 21 rfl rfl rfl e7 (IR (rs:= []) 22 rfl rfl rfl e7 (IR (rs:= []) 23 rfl rfl rfl e7 (IR (rs:= []) 24 rfl rfl rfl e7 (IR (rs:= []) 25 rfl rfl rfl e7 (IR (rs:= []) 26 rfl rfl rfl e7 (Ip (rs:= []) 27 rfl rfl rfl (dT g) e7 (qt (v:= .bool true) 28 rfl (fun _ _=>Iw rfl (dT g) rfl) (qn (Iq (jt (sr (An rfl (rt (bR (tR (tR (bR (tR (rs ?_)))))))))))))))))))))))))))))))
 have ag:=C.pk []
 obtain rfl:_=170:=hr.symm.trans (et (iN h) (et (iN f) (et (ae (aT l)) (et (iN r) (gL (et (m) (et (congrArg (fun q=>iZ l0 q a) n) (et (iN j) (ip g)))))))))
 exact⟨rfl,ag,e6⟩
 refine Iy (v:=vJ a) (rs:= []) 9 rfl rfl rfl (dF g) e7 (fun _ _=>IA rfl) (Iy (v:= .bool (decide (((a:Nat):Int) > 0))) (rs:= []) 10 rfl rfl rfl (dF g) e7 (fun _ _=>yk) (Iy (v:= .bool (decide (((a:Nat):Int) > 0))) (rs:= []) 11 rfl rfl rfl (dF g) e7 (fun _ _=>IA rfl) ?_))
 by_cases d:((a:Nat):Int) > 0
 refine Iy (v:=vP B 0) (rs:= []) 12 rfl rfl rfl (dT d) e7 (fun _ _=>yk) (Iy (v:= .string ⟨v6 c.aJ⟩) (rs:= []) 13 rfl rfl rfl (dT d) e7 (fun _ ⟨_,E⟩=>IB rfl (bJ.one C0 (I1 (E.cls (i:=0) rfl) rfl))) ?_)
 obtain⟨x,u⟩:∃ q,iO c.aJ=q:=⟨_,rfl⟩
 obtain⟨aF,N,ax,O,ay⟩:=Iu C
 refine Jl 14 rfl rfl rfl (dT d) e7 (IP U5 rfl (mg _ _ c.aJ x N u) ?_)
 rintro _ aG ⟨rfl,P,K⟩
 have F:=O _ _ P
 replace K: ¬ (x=0)∨(1≤c.aJ.length∧c.aJ.length≤12):=K
 refine⟨.inr ⟨_,F⟩, ?_⟩
 refine Iy (v:= .bool (decide (¬ (x=0)))) (rs:= []) 15 rfl rfl rfl (dT d) e7 (fun _ _=>IM (e:= !(decide (x=0))) yk decide_not.symm) (Iy (v:= .bool (decide (¬ (x=0)))) (rs:= []) 16 rfl rfl rfl (dT d) e7 (fun _ _=>IA rfl) ?_)
 by_cases b:x=0
 refine Iy (v:= .slice o l0.length I) (rs:= []) 17 rfl rfl rfl (dF (Lr b)) e7 (fun _ _=>IA rfl) (Iy (v:=vJ a) (rs:= []) 18 rfl rfl rfl (dF (Lr b)) e7 (fun _ _=>IA rfl) (Iy (v:=vJ (a - 1)) (rs:= []) 19 rfl rfl rfl (dF (Lr b)) e7 (fun _ _=>Ir (e:=C3.wrap (((a:Nat):Int) - 1)) yk f0) ?_))
 obtain⟨s,z⟩:=iG (ls:=l0) (i:=a - 1) e9
 refine Iy (v:= .pointer (some ⟨ab o,ao o+(a - 1) *2,none⟩)) (rs:= []) 20 rfl rfl rfl (dF (Lr b)) e7 (fun _ ⟨_,E⟩=>Iz (nE) rfl rfl ((E.ro p).addr (i:=a - 1) e6) e6) (Iy (v:= .pointer (some ⟨ab o,ao o+(a - 1) *2,none⟩)) (rs:= []) 21 rfl rfl rfl (dF (Lr b)) e7 (fun _ _=>yk) (Iy (v:= .string ⟨v6 s.aJ⟩) (rs:= []) 22 rfl rfl rfl (dF (Lr b)) e7 (fun _ ⟨_,E⟩=>IB rfl (bJ.one C0 (((E.ro p).elem aM.len z f2).at_ (k:=0) rfl))) (Iy (v:=vP B 0) (rs:= []) 23 rfl rfl rfl (dF (Lr b)) e7 (fun _ _=>yk) (Iy (v:= .string ⟨v6 c.aJ⟩) (rs:= []) 24 rfl rfl rfl (dF (Lr b)) e7 (fun _ ⟨_,E⟩=>IB rfl (bJ.one C0 (I1 (E.cls (i:=0) rfl) rfl))) (Iy (v:= .bool (decide (c.aJ≤s.aJ))) (rs:= []) 25 rfl rfl rfl (dF (Lr b)) e7 (fun _ _=>IM (e:= !(Op.bytesLess s.aJ c.aJ)) (JL rfl rfl) (zz _ _)) (Iy (v:= .bool (decide (c.aJ≤s.aJ))) (rs:= []) 26 rfl rfl rfl (dT d) e7 (fun _ _=>Io rfl (dF (Lr b)) rfl) (Iy (v:= .bool (decide (c.aJ≤s.aJ))) (rs:= []) 27 rfl rfl rfl (dF g) e7 (fun _ _=>Iw rfl (dT d) rfl) (qt (v:= .bool (decide (c.aJ≤s.aJ))) 28 rfl (fun _ _=>Io rfl (dF g) rfl) (qn (Iq ?_))))))))))
 by_cases G:c.aJ≤s.aJ
 refine jT (dT G) (sr (An rfl (rt (bR (tR (tR (bR (tR (rs ?_)))))))))
 have ah:=F.pk []
 obtain rfl:_=170:=hr.symm.trans (et (iN h) (et (iN f) (et (ae (aT l)) (et (iN r) (gL (et (m) (et (congrArg (fun q=>iZ l0 q a) n) (et (iN j) (et (iN g) (et (ip d) (et (ae u) (et (ip b) (et (ae (aT z)) (ip G))))))))))))))
 exact⟨rfl,ah,e6⟩
 refine jF (dF G) (IU (bN (Iq (Il (fw (vJ (a+1)) (Ir (e:=C3.wrap (((a:Nat):Int)+1)) yk f0) (Mz rfl (C4 ?_)))))))
 have ai:=F.pk []
 exact II (a+1) ⟨rfl,rfl,rfl,rfl,rfl,trivial⟩ (t.2 ⟨ai,e6,et (m) (et (congrArg (fun q=>iZ l0 q a) n) (et (iN j) (et (iN g) (et (ip d) (et (ae u) (et (ip b) (et (ae (aT z)) (iN G))))))))⟩) (by show l0.length - (a+1) < l0.length - a; omega)
 refine Ip (rs:= []) 17 rfl rfl rfl (dT b) e7 (Ip (rs:= []) 18 rfl rfl rfl (dT b) e7 (Ip (rs:= []) 19 rfl rfl rfl (dT b) e7 (Ip (rs:= []) 20 rfl rfl rfl (dT b) e7 (Ip (rs:= []) 21 rfl rfl rfl (dT b) e7 (Ip (rs:= []) 22 rfl rfl rfl (dT b) e7 (Ip (rs:= []) 23 rfl rfl rfl (dT b) e7 (Ip (rs:= []) 24 rfl rfl rfl (dT b) e7 (Ip (rs:= []) 25 rfl rfl rfl (dT b) e7 (Iy (v:= .bool true) (rs:= []) 26 rfl rfl rfl (dT d) e7 (fun _ _=>Iw rfl (dT b) rfl) (Iy (v:= .bool true) (rs:= []) 27 rfl rfl rfl (dF g) e7 (fun _ _=>Iw rfl (dT d) rfl) (qt (v:= .bool true) 28 rfl (fun _ _=>Io rfl (dF g) rfl) (qn (Iq (jt (sr (An rfl (rt (bR (tR (tR (bR (tR (rs ?_)))))))))))))))))))))))
 have aj:=F.pk []
 obtain rfl:_=170:=hr.symm.trans (et (iN h) (et (iN f) (et (ae (aT l)) (et (iN r) (gL (et (m) (et (congrArg (fun q=>iZ l0 q a) n) (et (iN j) (et (iN g) (et (ip d) (et (ae u) (iN b))))))))))))
 exact⟨rfl,aj,e6⟩
 refine Ip (rs:= []) 12 rfl rfl rfl (dF d) e7 (Ip (rs:= []) 13 rfl rfl rfl (dF d) e7 (Ip (rs:= []) 14 rfl rfl rfl (dF d) e7 (Ip (rs:= []) 15 rfl rfl rfl (dF d) e7 (Ip (rs:= []) 16 rfl rfl rfl (dF d) e7 (IR (rs:= []) 17 rfl rfl rfl e7 (IR (rs:= []) 18 rfl rfl rfl e7 (IR (rs:= []) 19 rfl rfl rfl e7 (IR (rs:= []) 20 rfl rfl rfl e7 (IR (rs:= []) 21 rfl rfl rfl e7 (IR (rs:= []) 22 rfl rfl rfl e7 (IR (rs:= []) 23 rfl rfl rfl e7 (IR (rs:= []) 24 rfl rfl rfl e7 (IR (rs:= []) 25 rfl rfl rfl e7 (Ip (rs:= []) 26 rfl rfl rfl (dF d) e7 (Iy (v:= .bool false) (rs:= []) 27 rfl rfl rfl (dF g) e7 (fun _ _=>Io rfl (dF d) rfl) (qt (v:= .bool false) 28 rfl (fun _ _=>Io rfl (dF g) rfl) (qn (Iq (jf (IU (bN (Iq (Il (fw (vJ (a+1)) (Ir (e:=C3.wrap (((a:Nat):Int)+1)) yk f0) (Mz rfl (C4 ?_))))))))))))))))))))))))))
 have ak:=C.pk []
 exact II (a+1) ⟨rfl,rfl,rfl,rfl,rfl,trivial⟩ (t.2 ⟨ak,e6,et (m) (et (congrArg (fun q=>iZ l0 q a) n) (et (iN j) (et (iN g) (iN d))))⟩) (by show l0.length - (a+1) < l0.length - a; omega)
 refine jF (dF M) (C5 (IC ?_))
 have Q:iZ l0 l0 0=B7 ():=et (m) (et (congrArg (fun q=>iZ l0 q a) (dZ (ls:=l0) (i:=a) e6)) rfl)
 refine IC (IK (Iq (sr (An rfl (rt (rs ?_))))))
 have au:=y.pk []
 obtain rfl:_=0:=hr.symm.trans (et (iN h) (et (iN f) (et (ae (aT l)) (et (iN r) (mF Q)))))
 exact⟨rfl,au,e6⟩
def kX (l0:List aM) (c:Int):aL:=
 bnd (B8 l0 (C6 c) default) fun a=>if c+1 < ((l0.length:Nat):Int) then bnd (B8 l0 (C6 (c+1)) default) fun b=>aL.mk a.aJ b.aJ else aL.mk a.aJ ([])
theorem qQ (w D h r C l0 b) (B:aL) (H:Own w D w []) (c:Ro w D fun w'=>aY w' 2 h r (q4 aM.cells l0)) (s:r=l0.length) (E:l0.length *24≤211106232532992) (F:0≤b∧b < ((l0.length:Nat):Int)) (hr:kX l0 b=B):
    Calls v5 38 #[.slice h r C,vI b] w (dA fun v w'=>v= .agg (aL.cells B).toArray∧Own w D w' []):=by
 subst s
 refine cb Tryz.func38 ?_
 refine sr ?_
 refine dn [.string ⟨v6 ([])⟩, .string ⟨v6 ([])⟩] 38 H ?_
 intro G I j
 refine ns (Mz rfl (fw (vJ (C6 b)) (Ir (e:=b) (IA rfl) e6) ?_))
 obtain⟨a,g⟩:=dh (ls:=l0) (i:=C6 b) aM.len f2 (j.ro c) e9
 refine fw (.pointer (some ⟨ab h,ao h+(C6 b) *2,none⟩)) (Iz (nE) rfl rfl ((j.ro c).addr (i:=C6 b) e6) e6) (Kz (.pointer (some ⟨ab h,ao h+(C6 b) *2,none⟩)) (fw (.string ⟨v6 a.aJ⟩) (IB rfl (bJ.one C0 (((j.ro c).elem aM.len g f2).at_ (k:=0) rfl))) (Kz (.agg #[.string ⟨v6 a.aJ⟩, .string ⟨v6 ([])⟩]) ?_)))
 refine dn [.string ⟨v6 ([])⟩, .string ⟨v6 ([])⟩] 38 j ?_
 intro t J u
 refine df [.string ⟨v6 a.aJ⟩, .string ⟨v6 ([])⟩] 0 u M9 ?_
 intro K d
 refine nt (Ik (sr (Mz rfl (fw (vI (b+1)) (Ir (e:=C3.wrap (b+1)) yk g1) (Mz rfl (Kz (vJ l0.length) (Kz (.bool (decide (b+1 < ((l0.length:Nat):Int)))) (nt ?_))))))))
 by_cases l:b+1 < ((l0.length:Nat):Int)
 refine jT (dT l) (Il (Mz rfl (Mz rfl (fw (vJ (C6 (b+1))) (Ir (e:=C3.wrap (b+1)) yk f0) ?_))))
 obtain⟨f,n⟩:=dh (ls:=l0) (i:=C6 (b+1)) aM.len f2 (d.ro c) e9
 refine fw (.pointer (some ⟨ab h,ao h+(C6 (b+1)) *2,none⟩)) (Iz (nE) rfl rfl ((d.ro c).addr (i:=C6 (b+1)) e6) e6) (Kz (.pointer (some ⟨ab h,ao h+(C6 (b+1)) *2,none⟩)) (fw (.string ⟨v6 f.aJ⟩) (IB rfl (bJ.one C0 (((d.ro c).elem aM.len n f2).at_ (k:=0) rfl))) (Kz (vP t 1) ?_)))
 refine df [.string ⟨v6 f.aJ⟩] 1 d Tryz.sizeOf9 ?_
 intro L o
 refine ns (La ([.string ⟨v6 a.aJ⟩, .string ⟨v6 f.aJ⟩]) o 0 N0 M9 ?_)
 have x:=o.pb [0]
 refine df [.string ⟨v6 a.aJ⟩, .string ⟨v6 f.aJ⟩] 0 x M9 ?_
 intro M p
 refine nt (rt (Fin.res (oo rfl rfl (IJ (cs:= [.string ⟨v6 a.aJ⟩, .string ⟨v6 f.aJ⟩]) N0 M9 ((p.cls (i:=0) rfl).lit (k:=0) (m:=2) rfl))) ?_))
 have y:=p.pk []
 obtain rfl:_=aL.mk a.aJ f.aJ:=hr.symm.trans (et (ae (aT g)) (et (ip l) (ae (aT n))))
 exact⟨rfl,y⟩
 refine jF (dF l) (sk (sr (La ([.string ⟨v6 a.aJ⟩, .string ⟨v6 ([])⟩]) d 0 N0 M9 ?_)))
 have z:=d.pb [0]
 refine df [.string ⟨v6 a.aJ⟩, .string ⟨v6 ([])⟩] 0 z M9 ?_
 intro N q
 refine nt (rt (Fin.res (oo rfl rfl (IJ (cs:= [.string ⟨v6 a.aJ⟩, .string ⟨v6 ([])⟩]) N0 M9 ((q.cls (i:=0) rfl).lit (k:=0) (m:=2) rfl))) ?_))
 have A:=q.pk []
 obtain rfl:_=aL.mk a.aJ ([]):=hr.symm.trans (et (ae (aT g)) (iN l))
 exact⟨rfl,A⟩
def mO (l0:List aM) (e:List UInt8):Nat→Nat→Unit ⊕ Int
  | 0,a=>B7 ()
  | d+1,a=>bnd (kX l0 ((a:Nat):Int)) fun b=>bnd (uK b e) fun c=>if c=true then B9 ((a:Nat):Int) else mO l0 e d (a+1)
def uN (l0:List aM) (a:List UInt8):Int:=
 lp (mO l0 a l0.length 0) fun _=>0
theorem DD (w D k F C l0 b E) (H:Own w D w []) (G:Ro w D fun w'=>aY w' 2 k F (q4 aM.cells l0)) (I:F=l0.length) (T:l0.length *24≤211106232532992) (U:1≤l0.length) (hr:uN l0 b=E):
    Calls v5 69 #[.slice k F C, .string ⟨v6 b⟩] w (dA fun v w'=>v=vI E∧Own w D w' []∧(0≤E∧E < ((l0.length:Nat):Int))):=by
 subst I
 refine cb Tryz.func69 ?_
 refine sr (An rfl (Ik (sr (Mz rfl (Kz (vJ l0.length) (Mn rfl (bo ?_)))))))
 have J:=H.pk []
 obtain⟨K,c⟩:=lF fun (a:Nat) w'=>Own w D w' []∧a≤l0.length∧mO l0 b l0.length 0=mO l0 b (l0.length - a) a
 refine C1 (fun i:Nat=> [(4,vI 0),(8,vJ i),(7,vJ l0.length),(0, .slice k l0.length C),(1, .string ⟨v6 b⟩)]) K (fun i=>l0.length - i) 0 ⟨rfl,rfl,rfl,rfl,rfl,trivial⟩ (c.2 ⟨J,e6,rfl⟩) ?_
 rintro a V l
 obtain⟨m,P,d⟩:=c.1 l
 refine sr (Kz (.bool (decide (((a:Nat):Int) < ((l0.length:Nat):Int)))) (nt (Ik ?_)))
 by_cases o:((a:Nat):Int) < ((l0.length:Nat):Int)
 refine jT (dT o) (sk (Ik (bo (sr (Mz rfl (Ar rfl (Mz rfl (Mz rfl ?_))))))))
 obtain⟨j,f⟩:∃ q,kX l0 ((a:Nat):Int)=q:=⟨_,rfl⟩
 obtain⟨W,p,r,s,Q⟩:=Iu m
 refine cl U7 (qQ _ _ k l0.length C l0 ((a:Nat):Int) j p (r _ G) rfl e6 e6 f) ?_
 rintro _ X ⟨rfl,t⟩
 have L:=s _ _ t
 refine Mz rfl ?_
 obtain⟨u,g⟩:∃ q,uK j b=q:=⟨_,rfl⟩
 obtain⟨Y,x,R,y,S⟩:=Iu L
 refine cl Tryz.call110 (Cz _ _ j b u x g) ?_
 rintro _ Z ⟨rfl,z⟩
 have A:=y _ _ z
 refine nt ?_
 rcases Ls (u) with h | h
 refine jT h (sr (Mz rfl (An rfl (rt (bR (tR (tR (bR (tR (rs ?_))))))))))
 have M:=A.pk []
 obtain rfl:_=((a:Nat):Int):=hr.symm.trans (gL (et (d) (et (congrArg (fun q=>mO l0 b q a) (rH (n:=l0.length) (i:=a) e6)) (et (ae f) (et (ae g) (ip h))))))
 exact⟨rfl,M,e6⟩
 refine jF h (IU (bN (Iq (Il (fw (vJ (a+1)) (Ir (e:=C3.wrap (((a:Nat):Int)+1)) yk f0) (Mz rfl (C4 ?_)))))))
 have N:=A.pk []
 exact II (a+1) ⟨rfl,rfl,rfl,rfl,rfl,trivial⟩ (c.2 ⟨N,e6,et (d) (et (congrArg (fun q=>mO l0 b q a) (rH (n:=l0.length) (i:=a) e6)) (et (ae f) (et (ae g) (fP h))))⟩) (by show l0.length - (a+1) < l0.length - a; omega)
 refine jF (dF o) (C5 (IC ?_))
 have B:mO l0 b l0.length 0=B7 ():=et (d) (et (congrArg (fun q=>mO l0 b q a) (wC (n:=l0.length) (i:=a) e6)) rfl)
 refine IC (IK (Iq (sr (An rfl (rt (rs ?_))))))
 have O:=m.pk []
 obtain rfl:_=0:=hr.symm.trans (mF B)
 exact⟨rfl,O,e6⟩
def iF (l0:List aM) (i:Int) (f:Nat) (a:aN):List aM→Nat→List aN→List Int→(List aN) × (List Int)
  | [],b,c,d=>(c,d)
  | k::g,b,c,d=>if k.bE=i then if a.aZ≠([]) then bnd (uN l0 a.aZ) fun j=>bnd (if j=((b:Nat):Int) then((c++ [a]),(d++ [((f:Nat):Int)])) else(c,d)) fun sJrLsLsttbJ=>iF l0 i f a g (b+1) sJrLsLsttbJ.1 sJrLsLsttbJ.2 else bnd (kX l0 ((b:Nat):Int)) fun h=>bnd (ng h (aL.mk a.aJ a.aR)) fun e=>if e.2=true then iF l0 i f a g (b+1) (c++ [(aN.mk a.av ([]) ([]) e.1.aJ e.1.aR a.aV)]) (d++ [((f:Nat):Int)]) else iF l0 i f a g (b+1) c d else iF l0 i f a g (b+1) c d
def l5 (l0:List aM) (f:Int):List aN→Nat→List aN→List Int→(List aN) × (List Int)
  | [],a,b,c=>(b,c)
  | d::e,a,b,c=>bnd (iF l0 f a d l0 0 b c) fun sLrLsL=>l5 l0 f e (a+1) sLrLsL.1 sLrLsL.2
def yu (l0:List aM) (a:Int) (b:List aN):jA:=
 bnd (l5 l0 a b 0 ([]) ([])) fun sLrL=>jA.mk a (Ll.mk sLrL.1) (Ll.mk sLrL.2)
theorem DF (w D A0 n0 c0 l0 r A2 n2 c2 x) (r0:jA) (H:Own w D w []) (bf:Ro w D fun w'=>aY w' 2 A0 n0 (q4 aM.cells l0)) (fO:n0=l0.length) (iI:l0.length *24≤211106232532992) (dD:Ro w D fun w'=>aY w' 6 A2 n2 (q4 aN.cells x)) (fQ:n2=x.length) (iJ:x.length *80≤211106232532992) (iK:1≤l0.length∧l0.length≤6∧x.length≤24) (hr:yu l0 r x=r0):
    Calls v5 33 #[.slice A0 n0 c0,vI r, .slice A2 n2 c2] w (dA fun v w'=> ∃ bG bH bI bJ,v= .agg #[vI r0.bE, .slice bG r0.aB.ls.length bH, .slice bI r0.aI.ls.length bJ]∧Own w D w' [row bG r0.aB.ls.length bH (q4 aN.cells r0.aB.ls) 72 6,row bI r0.aI.ls.length bJ (q4 (eI .i64) r0.aI.ls) 3 1]):=by
 subst fO fQ
 refine cb Tryz.func33 ?_
 refine sr ?_
 refine dn [vI 0, .slice none 0 0, .slice none 0 0] 70 H ?_
 intro ai iL fT
 refine ns (Mz rfl (Kz (.agg #[vI r, .slice none 0 0, .slice none 0 0]) ?_))
 refine dn [vI 0, .slice none 0 0, .slice none 0 0] 70 fT ?_
 intro j iM fU
 refine df [vI r, .slice none 0 0, .slice none 0 0] 0 fU U8 ?_
 intro dY fV
 refine nt (Ik (sr (Mz rfl (Kz (vJ x.length) (Mn rfl (bo ?_))))))
 have fZ:Own w D dY [row none 0 0 (q4 aN.cells ([])) 72 6,blk j [vI r, .slice none 0 0, .slice none 0 0] 70,blk ai [vI 0, .slice none 0 0, .slice none 0 0] 70]:=fV.free (eP 72 6)
 have gm:Own w D dY (row none 0 0 (q4 (eI .i64) ([])) 3 1::_):=fZ.free (eP 3 1)
 have gp:=gm.pb [1,0]
 obtain⟨gq,bq⟩:=FJ fun (d:Nat) ax (ay:Nat) z az (aA:Nat) A w'=>Own w D w' [blk j [vI r, .slice ax z.length ay, .slice az A.length aA] 70,blk ai [vI 0, .slice none 0 0, .slice none 0 0] 70,row ax z.length ay (q4 aN.cells z) 72 6,row az A.length aA (q4 (eI .i64) A) 3 1]∧d≤x.length∧(z.length≤6 *d∧A.length≤6 *d)∧l5 l0 r x 0 ([]) ([])=l5 l0 r (r4 d x) d z A
 refine C1 (fun i:Nat × (Option Addr) × Nat × (List aN) × (Option Addr) × Nat × (List Int)=> [(18,vJ i.1),(17,vJ x.length),(16, .slice A2 x.length c2),(7,vP j 0),(6,vP ai 0),(0, .slice A0 l0.length c0),(1,vI r)]) gq (fun i=>x.length - i.1) (0,none,0, [],none,0, []) ⟨rfl,rfl,rfl,rfl,rfl,rfl,rfl,trivial⟩ (bq.2 ⟨gp,(show 0≤x.length∧(0≤6 *0∧0≤6 *0)∧l5 l0 r x 0 ([]) ([])=l5 l0 r (r4 0 x) 0 ([]) ([]) from ⟨e6,e6,rfl⟩)⟩) ?_
 rintro ⟨d,ax,ay,z,az,aA,A⟩ iO d9
 obtain⟨bg,gT,gU,bK⟩:=bq.1 d9
 refine sr (Kz (.bool (decide (((d:Nat):Int) < ((x.length:Nat):Int)))) (nt (Ik ?_)))
 by_cases ed:((d:Nat):Int) < ((x.length:Nat):Int)
 obtain⟨a,bL⟩:=dh (ls:=x) (i:=d) aN.len f2 (bg.ro dD) e9
 have ek:=drop_at bL
 refine jT (dT ed) (sk (Ik (bo (sr (Mz rfl (fw (.pointer (some ⟨ab A2,ao A2+d *6,none⟩)) (Iz (mG) rfl rfl ((bg.ro dD).addr (i:=d) e6) e6) (fw (.agg (aN.cells a).toArray) (IB rfl (IJ (cs:=(aN.cells a)) M8 M7 ((bg.ro dD).elem aN.len bL f2))) ?_)))))))
 refine dn [vI 0, .string ⟨v6 ([])⟩, .string ⟨v6 ([])⟩, .string ⟨v6 ([])⟩, .string ⟨v6 ([])⟩,vI 0] 72 bg ?_
 intro u iP gu
 refine Az rfl ?_
 refine df (aN.cells a) 0 gu M7 ?_
 intro iQ gy
 refine ns (Mz rfl (Kz (vJ l0.length) (Mn rfl (bo ?_))))
 have gz:=gy.pf []
 obtain⟨gB,F⟩:=FJ fun (c:Nat) P (Q:Nat) f R (S:Nat) g w'=>Own w D w' [blk u (aN.cells a) 72,blk j [vI r, .slice P f.length Q, .slice R g.length S] 70,blk ai [vI 0, .slice none 0 0, .slice none 0 0] 70,row P f.length Q (q4 aN.cells f) 72 6,row R g.length S (q4 (eI .i64) g) 3 1]∧c≤l0.length∧f.length≤z.length+c∧g.length≤A.length+c∧(f.length≤6 *d+c∧g.length≤6 *d+c)∧iF l0 r d a l0 0 z A=iF l0 r d a (r4 c l0) c f g
 refine C1 (fun i:Nat × (Option Addr) × Nat × (List aN) × (Option Addr) × Nat × (List Int)=> [(25,vJ i.1),(24,vJ l0.length),(23, .slice A0 l0.length c0),(8,vJ d),(9,vP u 0),(22, .agg (aN.cells a).toArray),(21, .pointer (some ⟨ab A2,ao A2+d *6,none⟩)),(20,vJ d),(19, .bool (decide (((d:Nat):Int) < ((x.length:Nat):Int)))),(18,vJ d),(17,vJ x.length),(16, .slice A2 x.length c2),(7,vP j 0),(6,vP ai 0),(0, .slice A0 l0.length c0),(1,vI r)]) gB (fun i=>l0.length - i.1) (0,ax,ay,z,az,aA,A) ⟨rfl,rfl,rfl,rfl,rfl,rfl,rfl,rfl,rfl,rfl,rfl,rfl,rfl,rfl,rfl,rfl,trivial⟩ (F.2 ⟨gz,e6,e6,e6,e6,rfl⟩) ?_
 rintro ⟨c,P,Q,f,R,S,g⟩ iR eu
 obtain⟨bu,gV,gW,gX,gY,I⟩:=F.1 eu
 refine sr (Kz (.bool (decide (((c:Nat):Int) < ((l0.length:Nat):Int)))) (nt (Ik ?_)))
 by_cases eB:((c:Nat):Int) < ((l0.length:Nat):Int)
 obtain⟨J,bM⟩:=dh (ls:=l0) (i:=c) aM.len f2 (bu.ro bf) e9
 have T:=drop_at bM
 refine jT (dT eB) (sk (Ik (bo (sr (Mz rfl (fw (.pointer (some ⟨ab A0,ao A0+c *2,none⟩)) (Iz (nE) rfl rfl ((bu.ro bf).addr (i:=c) e6) e6) (fw (.agg (aM.cells J).toArray) (IB rfl (IJ (cs:=(aM.cells J)) U6 P3 ((bu.ro bf).elem aM.len bM f2))) ?_)))))))
 refine dn [.string ⟨v6 ([])⟩,vI 0] 89 bu ?_
 intro bi iT gD
 refine Az rfl ?_
 refine df (aM.cells J) 0 gD P3 ?_
 intro iU bn
 refine nt (Ik (sr (Kz (vP bi 1) (Lz (vI J.bE) bn 0 C2 (Mz rfl (fw (.bool (decide (¬ (J.bE=r)))) (IM (e:= !(decide (J.bE=r))) yk decide_not.symm) (nt ?_)))))))
 by_cases aj:J.bE=r
 refine jF (dF (Lr aj)) (sk (Ik (sr (Kz (vP u 1) (Lz (.string ⟨v6 a.aZ⟩) bn 1 C0 (fw (.bool (decide (a.aZ≠([])))) (I6 rfl rfl) (nt ?_)))))))
 by_cases au:a.aZ≠([])
 refine jT (dT au) (Ik (sr (Mz rfl (Kz (vP u 1) (Lz (.string ⟨v6 a.aZ⟩) bn 1 C0 ?_)))))
 obtain⟨ak,bO⟩:∃ q,uN l0 a.aZ=q:=⟨_,rfl⟩
 obtain⟨iV,eD,eF,eG,gZ⟩:=Iu bn
 refine cl Tryz.call69 (DD _ _ A0 l0.length c0 l0 a.aZ ak eD (eF _ bf) rfl e6 i5 bO) ?_
 rintro _ iW ⟨rfl,eH,bP⟩
 have bE:=eG _ _ eH
 replace bP:0≤ak∧ak < ((l0.length:Nat):Int):=bP
 refine Mz rfl (Kz (.bool (decide (ak=((c:Nat):Int)))) (nt ?_))
 obtain⟨eO,aS⟩:=G8 fun K (L:Nat) l M (N:Nat) n w'=>Own w D w' [blk bi (aM.cells J) 89,blk u (aN.cells a) 72,blk j [vI r, .slice K l.length L, .slice M n.length N] 70,blk ai [vI 0, .slice none 0 0, .slice none 0 0] 70,row K l.length L (q4 aN.cells l) 72 6,row M n.length N (q4 (eI .i64) n) 3 1]∧l.length≤f.length+1∧f.length≤l.length∧n.length≤g.length+1∧g.length≤n.length∧(if ak=((c:Nat):Int) then((f++ [a]),(g++ [((d:Nat):Int)])) else(f,g))=(l,n)
 refine Jg (fun i:(Option Addr) × Nat × (List aN) × (Option Addr) × Nat × (List Int)=> [(42, .bool (decide (ak=((c:Nat):Int)))),(41,vJ c),(40,vI ak),(39, .string ⟨v6 a.aZ⟩),(38,vP u 1),(37, .slice A0 l0.length c0),(36, .bool (decide (a.aZ≠([])))),(35, .string ⟨v6 a.aZ⟩),(34,vP u 1),(33, .bool (decide (¬ (J.bE=r)))),(32,vI r),(31,vI J.bE),(30,vP bi 1),(10,vJ c),(11,vP bi 0),(29, .agg (aM.cells J).toArray),(28, .pointer (some ⟨ab A0,ao A0+c *2,none⟩)),(27,vJ c),(26, .bool (decide (((c:Nat):Int) < ((l0.length:Nat):Int)))),(25,vJ c),(24,vJ l0.length),(23, .slice A0 l0.length c0),(8,vJ d),(9,vP u 0),(22, .agg (aN.cells a).toArray),(21, .pointer (some ⟨ab A2,ao A2+d *6,none⟩)),(20,vJ d),(19, .bool (decide (((d:Nat):Int) < ((x.length:Nat):Int)))),(18,vJ d),(17,vJ x.length),(16, .slice A2 x.length c2),(7,vP j 0),(6,vP ai 0),(0, .slice A0 l0.length c0),(1,vI r)]) eO ?_ ?_
 by_cases aZ:ak=((c:Nat):Int)
 refine jT (dT aZ) (sr (Kz (vP j 1) (Lz (.slice P f.length Q) bE 2 R6 (La (aN.cells a) bE 1 M8 M7 ?_))))
 refine jV (aN.cells a) 72 6 1 bE ?_
 intro eQ ib bz
 replace bz:=IX (y:=row eQ 1 1 (q4 aN.cells ([a])) 72 6) rfl bz
 have bQ:=bz.pf [5]
 refine WL.do rfl (IW (k:=f.length) (m:=1) (mG) bQ rfl rfl (gN F2 (bQ.rds (i:=1) rfl) (dX aN.one ([a]))) rfl e6 (s:=s0 (f++ [a])) f7 (r5).symm ?_)
 intro bR bS ic eT
 have gF:s0 (f++ [a])=f.length+1:=by simp only [o2,s1,E7]
 refine Kz (vP j 1) ?_
 have eU:=eT.pf [4]
 refine df [.slice bR (s0 (f++ [a])) bS] 1 eU U9 ?_
 intro ig bT
 refine nt (Il (Kz (vP j 2) (Lz (.slice R g.length S) bT 0 D4 (Mz rfl ?_))))
 refine jV [vJ d] 3 1 1 bT ?_
 intro eX ik bA
 replace bA:=IX (y:=row eX 1 1 (q4 (eI .i64) ([((d:Nat):Int)])) 3 1) rfl bA
 have bU:=bA.pf [7]
 refine WL.do rfl (IW (k:=g.length) (m:=1) (mq) bU rfl rfl (gN y4 (bU.rds (i:=1) rfl) (dX qB ([((d:Nat):Int)]))) rfl e6 (s:=s0 (g++ [((d:Nat):Int)])) f7 (r5).symm ?_)
 intro bV bW il eY
 have gG:s0 (g++ [((d:Nat):Int)])=g.length+1:=by simp only [o2,s1,E7]
 refine Kz (vP j 2) ?_
 have eZ:=eY.pf [2]
 refine df [.slice bV (s0 (g++ [((d:Nat):Int)])) bW] 2 eZ V0 ?_
 intro iq fe
 refine C4 ?_
 have fo:=fe.pk [5,6,0,7,3,1]
 exact I8 (bR,bS,(f++ [a]),bV,bW,(g++ [((d:Nat):Int)])) ⟨rfl,rfl,rfl,rfl,rfl,rfl,rfl,rfl,rfl,rfl,rfl,rfl,rfl,rfl,rfl,rfl,rfl,rfl,rfl,rfl,rfl,rfl,rfl,rfl,rfl,rfl,rfl,rfl,rfl,rfl,rfl,rfl,rfl,rfl,rfl,trivial⟩ (aS.2 ⟨fo,e6,e6,e6,e6,ip aZ⟩)
 refine jF (dF aZ) (IU ?_)
 have fq:=bE.pf []
 exact I8 (P,Q,f,R,S,g) ⟨rfl,rfl,rfl,rfl,rfl,rfl,rfl,rfl,rfl,rfl,rfl,rfl,rfl,rfl,rfl,rfl,rfl,rfl,rfl,rfl,rfl,rfl,rfl,rfl,rfl,rfl,rfl,rfl,rfl,rfl,rfl,rfl,rfl,rfl,rfl,trivial⟩ (aS.2 ⟨fq,e6,e6,e6,e6,iN aZ⟩)
 rintro ⟨K,L,l,M,N,n⟩ iw dE
 obtain⟨fu,gH,gI,gJ,gK,dG⟩:=aS.1 dE
 refine C5 (IC (IK (Iq (Il (fw (vJ (c+1)) (Ir (e:=C3.wrap (((c:Nat):Int)+1)) yk f0) (Mz rfl (C4 ?_)))))))
 have fA:=fu.px [] [0] []
 exact II (c+1,K,L,l,M,N,n) ⟨rfl,rfl,rfl,rfl,rfl,rfl,rfl,rfl,rfl,rfl,rfl,rfl,rfl,rfl,rfl,rfl,trivial⟩ (F.2 ⟨fA,e6,e6,e6,e6,et (I) (et (congrArg (fun q=>iF l0 r d a q c f g) T) (et (ip aj) (et (ip au) (et (ae bO) (ae dG)))))⟩) (by show l0.length - (c+1) < l0.length - c; omega)
 refine jF (dF au) (sk (Ik ?_))
 refine Ha [] (IE (bv.block (IE (IE (bv.block (bv.block (IE (IE (bv.block (IE IQ)))))))))) bn ?_
 intro iy bX
 refine qv 0 rfl rfl (qv 1 rfl rfl (qp u 3 3 rfl (ql 4 rfl 1 C0 rfl rfl rfl (qp u 4 5 rfl (ql 6 rfl 1 C0 rfl rfl rfl (qk (.agg #[.string ⟨v6 a.aJ⟩, .string ⟨v6 a.aR⟩]) 7 rfl ?_))))))
 refine Jy 2 12 e7 ?_ ?_
 obtain⟨O,ah⟩:∃ q,kX l0 ((c:Nat):Int)=q:=⟨_,rfl⟩
 obtain⟨iA,dH,dI,dJ,gL⟩:=Iu bX
 refine GY.do 2 rfl e7 (IP U7 rfl (qQ _ _ A0 l0.length c0 l0 ((c:Nat):Int) O dH (dI _ bf) rfl e6 e6 ah) ?_)
 rintro _ iB ⟨rfl,dK⟩
 have bB:=dJ _ _ dK
 refine⟨.inr ⟨_,bB⟩, ?_⟩
 refine Jy 8 12 e7 ?_ ?_
 obtain⟨⟨b,B⟩,aT⟩:∃ q:aL × Bool,ng O (aL.mk a.aJ a.aR)=q:=⟨_,rfl⟩
 obtain⟨iC,dL,gM,dM,gP⟩:=Iu bB
 refine GY.do 8 rfl e7 (IP V1 rfl (ut _ _ O (aL.mk a.aJ a.aR) b B dL aT) ?_)
 rintro _ iD ⟨rfl,dN⟩
 have bY:=dM _ _ dN
 refine⟨.inr ⟨_,bY⟩, ?_⟩
 refine qv 9 rfl rfl (qk (.agg (aL.cells b).toArray) 10 rfl (qk (.bool B) 11 rfl ?_))
 refine qd 12 rfl (Jb (cs:= [.string ⟨v6 ([])⟩, .string ⟨v6 ([])⟩]) (t:=38) bY rfl rfl (fun _=>by kernel_rfl) ?_)
 intro bZ cu fB
 have U:=fB.pb [0]
 refine⟨.inr ⟨_,U⟩, ?_⟩
 have aB:=U.pf [6]
 refine qe 13 rfl (Do.store (vs:=(aL.cells b)) (o:=0) aB rfl rfl M9 rfl rfl rfl rfl ?_)
 intro cz aC
 have h:=aC.pb [0]
 refine⟨.inr ⟨_,h⟩, ?_⟩
 refine qa 14 rfl rfl (qn (Iq (sr (Mn rfl ?_))))
 rcases Ls (B) with p | p
 refine jT p (sr (Kz (vP j 1) (Lz (.slice P f.length Q) h 2 R6 (Kz (vP u 0) (Lz (vI a.av) h 1 C2 (Kz (vP bZ 0) (Lz (.string ⟨v6 b.aJ⟩) h 6 C0 (Kz (vP bZ 1) (Lz (.string ⟨v6 b.aR⟩) h 6 C0 (Kz (vP u 5) (Lz (vI a.aV) h 1 C2 (Kz (.agg #[vI a.av, .string ⟨v6 ([])⟩, .string ⟨v6 ([])⟩, .string ⟨v6 b.aJ⟩, .string ⟨v6 b.aR⟩,vI a.aV]) ?_))))))))))))
 refine jV [vI a.av, .string ⟨v6 ([])⟩, .string ⟨v6 ([])⟩, .string ⟨v6 b.aJ⟩, .string ⟨v6 b.aR⟩,vI a.aV] 72 6 1 h ?_
 intro aD cB C
 replace C:=IX (y:=row aD 1 1 (q4 aN.cells ([(aN.mk a.av ([]) ([]) b.aJ b.aR a.aV)])) 72 6) rfl C
 have V:=C.pf [5]
 refine WL.do rfl (IW (k:=f.length) (m:=1) (mG) V rfl rfl (gN F2 (V.rds (i:=1) rfl) (dX aN.one ([(aN.mk a.av ([]) ([]) b.aJ b.aR a.aV)]))) rfl e6 (s:=s0 (f++ [(aN.mk a.av ([]) ([]) b.aJ b.aR a.aV)])) f7 (r5).symm ?_)
 intro W X cK aF
 have bC:s0 (f++ [(aN.mk a.av ([]) ([]) b.aJ b.aR a.aV)])=f.length+1:=by simp only [o2,s1,E7]
 refine Kz (vP j 1) ?_
 have aG:=aF.pf [4]
 refine df [.slice W (s0 (f++ [(aN.mk a.av ([]) ([]) b.aJ b.aR a.aV)])) X] 1 aG U9 ?_
 intro cO Y
 refine nt (Il (Kz (vP j 2) (Lz (.slice R g.length S) Y 0 D4 (Mz rfl ?_))))
 refine jV [vJ d] 3 1 1 Y ?_
 intro aH cZ E
 replace E:=IX (y:=row aH 1 1 (q4 (eI .i64) ([((d:Nat):Int)])) 3 1) rfl E
 have Z:=E.pf [7]
 refine WL.do rfl (IW (k:=g.length) (m:=1) (mq) Z rfl rfl (gN y4 (Z.rds (i:=1) rfl) (dX qB ([((d:Nat):Int)]))) rfl e6 (s:=s0 (g++ [((d:Nat):Int)])) f7 (r5).symm ?_)
 intro aa af di aI
 have bD:s0 (g++ [((d:Nat):Int)])=g.length+1:=by simp only [o2,s1,E7]
 refine Kz (vP j 2) ?_
 have aJ:=aI.pf [2]
 refine df [.slice aa (s0 (g++ [((d:Nat):Int)])) af] 2 aJ V0 ?_
 intro dm aK
 refine C4 (bN (Iq (Il (fw (vJ (c+1)) (Ir (e:=C3.wrap (((c:Nat):Int)+1)) yk f0) (Mz rfl (C4 ?_))))))
 have aO:=aK.pk [6,0,7,3,1]
 exact II (c+1,W,X,(f++ [(aN.mk a.av ([]) ([]) b.aJ b.aR a.aV)]),aa,af,(g++ [((d:Nat):Int)])) ⟨rfl,rfl,rfl,rfl,rfl,rfl,rfl,rfl,rfl,rfl,rfl,rfl,rfl,rfl,rfl,rfl,trivial⟩ (F.2 ⟨aO,e6,e6,e6,e6,et (I) (et (congrArg (fun q=>iF l0 r d a q c f g) T) (et (ip aj) (et (iN au) (et (ae ah) (et (ae aT) (ip p))))))⟩) (by show l0.length - (c+1) < l0.length - c; omega)
 refine jF p (IU (bN (Iq (Il (fw (vJ (c+1)) (Ir (e:=C3.wrap (((c:Nat):Int)+1)) yk f0) (Mz rfl (C4 ?_)))))))
 have aP:=h.px [] [0,6] []
 exact II (c+1,P,Q,f,R,S,g) ⟨rfl,rfl,rfl,rfl,rfl,rfl,rfl,rfl,rfl,rfl,rfl,rfl,rfl,rfl,rfl,rfl,trivial⟩ (F.2 ⟨aP,e6,e6,e6,e6,et (I) (et (congrArg (fun q=>iF l0 r d a q c f g) T) (et (ip aj) (et (iN au) (et (ae ah) (et (ae aT) (fP p))))))⟩) (by show l0.length - (c+1) < l0.length - c; omega)
 refine GY.do 12 rfl e7 (Jb (cs:= [.string ⟨v6 ([])⟩, .string ⟨v6 ([])⟩]) (t:=38) bB rfl rfl (fun _=>by kernel_rfl) ?_)
 intro dw fC fD
 have aQ:=fD.pb [0]
 refine⟨.inr ⟨_,aQ⟩, ?_⟩
 obtain⟨⟨b,B⟩,G⟩:∃ q:aL × Bool,ng O (aL.mk a.aJ a.aR)=q:=⟨_,rfl⟩
 obtain⟨fE,aU,dO,aV,dP⟩:=Iu aQ
 refine qd 8 rfl (IP V1 rfl (ut _ _ O (aL.mk a.aJ a.aR) b B aU G) ?_)
 rintro _ cu ⟨rfl,aW⟩
 have U:=aV _ _ aW
 refine⟨.inr ⟨_,U⟩, ?_⟩
 refine qv 9 rfl rfl (qk (.agg (aL.cells b).toArray) 10 rfl (qk (.bool B) 11 rfl ?_))
 have aB:=U.pf [6]
 refine qe 13 rfl (Do.store (vs:=(aL.cells b)) (o:=0) aB rfl rfl M9 rfl rfl rfl rfl ?_)
 intro cz aC
 have h:=aC.pb [0]
 refine⟨.inr ⟨_,h⟩, ?_⟩
 refine qa 14 rfl rfl (qn (Iq (sr (Mn rfl ?_))))
 rcases Ls (B) with p | p
 refine jT p (sr (Kz (vP j 1) (Lz (.slice P f.length Q) h 2 R6 (Kz (vP u 0) (Lz (vI a.av) h 1 C2 (Kz (vP dw 0) (Lz (.string ⟨v6 b.aJ⟩) h 6 C0 (Kz (vP dw 1) (Lz (.string ⟨v6 b.aR⟩) h 6 C0 (Kz (vP u 5) (Lz (vI a.aV) h 1 C2 (Kz (.agg #[vI a.av, .string ⟨v6 ([])⟩, .string ⟨v6 ([])⟩, .string ⟨v6 b.aJ⟩, .string ⟨v6 b.aR⟩,vI a.aV]) ?_))))))))))))
 refine jV [vI a.av, .string ⟨v6 ([])⟩, .string ⟨v6 ([])⟩, .string ⟨v6 b.aJ⟩, .string ⟨v6 b.aR⟩,vI a.aV] 72 6 1 h ?_
 intro aD cB C
 replace C:=IX (y:=row aD 1 1 (q4 aN.cells ([(aN.mk a.av ([]) ([]) b.aJ b.aR a.aV)])) 72 6) rfl C
 have V:=C.pf [5]
 refine WL.do rfl (IW (k:=f.length) (m:=1) (mG) V rfl rfl (gN F2 (V.rds (i:=1) rfl) (dX aN.one ([(aN.mk a.av ([]) ([]) b.aJ b.aR a.aV)]))) rfl e6 (s:=s0 (f++ [(aN.mk a.av ([]) ([]) b.aJ b.aR a.aV)])) f7 (r5).symm ?_)
 intro W X cK aF
 have bC:s0 (f++ [(aN.mk a.av ([]) ([]) b.aJ b.aR a.aV)])=f.length+1:=by simp only [o2,s1,E7]
 refine Kz (vP j 1) ?_
 have aG:=aF.pf [4]
 refine df [.slice W (s0 (f++ [(aN.mk a.av ([]) ([]) b.aJ b.aR a.aV)])) X] 1 aG U9 ?_
 intro cO Y
 refine nt (Il (Kz (vP j 2) (Lz (.slice R g.length S) Y 0 D4 (Mz rfl ?_))))
 refine jV [vJ d] 3 1 1 Y ?_
 intro aH cZ E
 replace E:=IX (y:=row aH 1 1 (q4 (eI .i64) ([((d:Nat):Int)])) 3 1) rfl E
 have Z:=E.pf [7]
 refine WL.do rfl (IW (k:=g.length) (m:=1) (mq) Z rfl rfl (gN y4 (Z.rds (i:=1) rfl) (dX qB ([((d:Nat):Int)]))) rfl e6 (s:=s0 (g++ [((d:Nat):Int)])) f7 (r5).symm ?_)
 intro aa af di aI
 have bD:s0 (g++ [((d:Nat):Int)])=g.length+1:=by simp only [o2,s1,E7]
 refine Kz (vP j 2) ?_
 have aJ:=aI.pf [2]
 refine df [.slice aa (s0 (g++ [((d:Nat):Int)])) af] 2 aJ V0 ?_
 intro dm aK
 refine C4 (bN (Iq (Il (fw (vJ (c+1)) (Ir (e:=C3.wrap (((c:Nat):Int)+1)) yk f0) (Mz rfl (C4 ?_))))))
 have aO:=aK.pk [6,0,7,3,1]
 exact II (c+1,W,X,(f++ [(aN.mk a.av ([]) ([]) b.aJ b.aR a.aV)]),aa,af,(g++ [((d:Nat):Int)])) ⟨rfl,rfl,rfl,rfl,rfl,rfl,rfl,rfl,rfl,rfl,rfl,rfl,rfl,rfl,rfl,rfl,trivial⟩ (F.2 ⟨aO,e6,e6,e6,e6,et (I) (et (congrArg (fun q=>iF l0 r d a q c f g) T) (et (ip aj) (et (iN au) (et (ae ah) (et (ae G) (ip p))))))⟩) (by show l0.length - (c+1) < l0.length - c; omega)
 refine jF p (IU (bN (Iq (Il (fw (vJ (c+1)) (Ir (e:=C3.wrap (((c:Nat):Int)+1)) yk f0) (Mz rfl (C4 ?_)))))))
 have aP:=h.px [] [0,6] []
 exact II (c+1,P,Q,f,R,S,g) ⟨rfl,rfl,rfl,rfl,rfl,rfl,rfl,rfl,rfl,rfl,rfl,rfl,rfl,rfl,rfl,rfl,trivial⟩ (F.2 ⟨aP,e6,e6,e6,e6,et (I) (et (congrArg (fun q=>iF l0 r d a q c f g) T) (et (ip aj) (et (iN au) (et (ae ah) (et (ae G) (fP p))))))⟩) (by show l0.length - (c+1) < l0.length - c; omega)
 refine GY.do 12 rfl e7 (Jb (cs:= [.string ⟨v6 ([])⟩, .string ⟨v6 ([])⟩]) (t:=38) bX rfl rfl (fun _=>by kernel_rfl) ?_)
 intro dx iE fF
 have dz:=fF.pb [0]
 refine⟨.inr ⟨_,dz⟩, ?_⟩
 obtain⟨O,aX⟩:∃ q,kX l0 ((c:Nat):Int)=q:=⟨_,rfl⟩
 obtain⟨iG,dQ,dR,dS,gQ⟩:=Iu dz
 refine qd 2 rfl (IP U7 rfl (qQ _ _ A0 l0.length c0 l0 ((c:Nat):Int) O dQ (dR _ bf) rfl e6 e6 aX) ?_)
 rintro _ fC ⟨rfl,dU⟩
 have aQ:=dS _ _ dU
 refine⟨.inr ⟨_,aQ⟩, ?_⟩
 obtain⟨⟨b,B⟩,G⟩:∃ q:aL × Bool,ng O (aL.mk a.aJ a.aR)=q:=⟨_,rfl⟩
 obtain⟨fE,aU,dO,aV,dP⟩:=Iu aQ
 refine qd 8 rfl (IP V1 rfl (ut _ _ O (aL.mk a.aJ a.aR) b B aU G) ?_)
 rintro _ cu ⟨rfl,aW⟩
 have U:=aV _ _ aW
 refine⟨.inr ⟨_,U⟩, ?_⟩
 refine qv 9 rfl rfl (qk (.agg (aL.cells b).toArray) 10 rfl (qk (.bool B) 11 rfl ?_))
 have aB:=U.pf [6]
 refine qe 13 rfl (Do.store (vs:=(aL.cells b)) (o:=0) aB rfl rfl M9 rfl rfl rfl rfl ?_)
 intro cz aC
 have h:=aC.pb [0]
 refine⟨.inr ⟨_,h⟩, ?_⟩
 refine qa 14 rfl rfl (qn (Iq (sr (Mn rfl ?_))))
 rcases Ls (B) with p | p
 refine jT p (sr (Kz (vP j 1) (Lz (.slice P f.length Q) h 2 R6 (Kz (vP u 0) (Lz (vI a.av) h 1 C2 (Kz (vP dx 0) (Lz (.string ⟨v6 b.aJ⟩) h 6 C0 (Kz (vP dx 1) (Lz (.string ⟨v6 b.aR⟩) h 6 C0 (Kz (vP u 5) (Lz (vI a.aV) h 1 C2 (Kz (.agg #[vI a.av, .string ⟨v6 ([])⟩, .string ⟨v6 ([])⟩, .string ⟨v6 b.aJ⟩, .string ⟨v6 b.aR⟩,vI a.aV]) ?_))))))))))))
 refine jV [vI a.av, .string ⟨v6 ([])⟩, .string ⟨v6 ([])⟩, .string ⟨v6 b.aJ⟩, .string ⟨v6 b.aR⟩,vI a.aV] 72 6 1 h ?_
 intro aD cB C
 replace C:=IX (y:=row aD 1 1 (q4 aN.cells ([(aN.mk a.av ([]) ([]) b.aJ b.aR a.aV)])) 72 6) rfl C
 have V:=C.pf [5]
 refine WL.do rfl (IW (k:=f.length) (m:=1) (mG) V rfl rfl (gN F2 (V.rds (i:=1) rfl) (dX aN.one ([(aN.mk a.av ([]) ([]) b.aJ b.aR a.aV)]))) rfl e6 (s:=s0 (f++ [(aN.mk a.av ([]) ([]) b.aJ b.aR a.aV)])) f7 (r5).symm ?_)
 intro W X cK aF
 have bC:s0 (f++ [(aN.mk a.av ([]) ([]) b.aJ b.aR a.aV)])=f.length+1:=by simp only [o2,s1,E7]
 refine Kz (vP j 1) ?_
 have aG:=aF.pf [4]
 refine df [.slice W (s0 (f++ [(aN.mk a.av ([]) ([]) b.aJ b.aR a.aV)])) X] 1 aG U9 ?_
 intro cO Y
 refine nt (Il (Kz (vP j 2) (Lz (.slice R g.length S) Y 0 D4 (Mz rfl ?_))))
 refine jV [vJ d] 3 1 1 Y ?_
 intro aH cZ E
 replace E:=IX (y:=row aH 1 1 (q4 (eI .i64) ([((d:Nat):Int)])) 3 1) rfl E
 have Z:=E.pf [7]
 refine WL.do rfl (IW (k:=g.length) (m:=1) (mq) Z rfl rfl (gN y4 (Z.rds (i:=1) rfl) (dX qB ([((d:Nat):Int)]))) rfl e6 (s:=s0 (g++ [((d:Nat):Int)])) f7 (r5).symm ?_)
 intro aa af di aI
 have bD:s0 (g++ [((d:Nat):Int)])=g.length+1:=by simp only [o2,s1,E7]
 refine Kz (vP j 2) ?_
 have aJ:=aI.pf [2]
 refine df [.slice aa (s0 (g++ [((d:Nat):Int)])) af] 2 aJ V0 ?_
 intro dm aK
 refine C4 (bN (Iq (Il (fw (vJ (c+1)) (Ir (e:=C3.wrap (((c:Nat):Int)+1)) yk f0) (Mz rfl (C4 ?_))))))
 have aO:=aK.pk [6,0,7,3,1]
 exact II (c+1,W,X,(f++ [(aN.mk a.av ([]) ([]) b.aJ b.aR a.aV)]),aa,af,(g++ [((d:Nat):Int)])) ⟨rfl,rfl,rfl,rfl,rfl,rfl,rfl,rfl,rfl,rfl,rfl,rfl,rfl,rfl,rfl,rfl,trivial⟩ (F.2 ⟨aO,e6,e6,e6,e6,et (I) (et (congrArg (fun q=>iF l0 r d a q c f g) T) (et (ip aj) (et (iN au) (et (ae aX) (et (ae G) (ip p))))))⟩) (by show l0.length - (c+1) < l0.length - c; omega)
 refine jF p (IU (bN (Iq (Il (fw (vJ (c+1)) (Ir (e:=C3.wrap (((c:Nat):Int)+1)) yk f0) (Mz rfl (C4 ?_)))))))
 have aP:=h.px [] [0,6] []
 exact II (c+1,P,Q,f,R,S,g) ⟨rfl,rfl,rfl,rfl,rfl,rfl,rfl,rfl,rfl,rfl,rfl,rfl,rfl,rfl,rfl,rfl,trivial⟩ (F.2 ⟨aP,e6,e6,e6,e6,et (I) (et (congrArg (fun q=>iF l0 r d a q c f g) T) (et (ip aj) (et (iN au) (et (ae aX) (et (ae G) (fP p))))))⟩) (by show l0.length - (c+1) < l0.length - c; omega)
 refine jT (dT aj) (C5 (IC (IK (Iq (Il (fw (vJ (c+1)) (Ir (e:=C3.wrap (((c:Nat):Int)+1)) yk f0) (Mz rfl (C4 ?_))))))))
 have fG:=bn.px [] [0] []
 exact II (c+1,P,Q,f,R,S,g) ⟨rfl,rfl,rfl,rfl,rfl,rfl,rfl,rfl,rfl,rfl,rfl,rfl,rfl,rfl,rfl,rfl,trivial⟩ (F.2 ⟨fG,e6,e6,e6,e6,et (I) (et (congrArg (fun q=>iF l0 r d a q c f g) T) (iN aj))⟩) (by show l0.length - (c+1) < l0.length - c; omega)
 refine jF (dF eB) (C5 (IC ?_))
 have dV:iF l0 r d a l0 0 z A=(f,g):=et (I) (et (congrArg (fun q=>iF l0 r d a q c f g) (dZ (ls:=l0) (i:=c) e6)) rfl)
 refine IC (IK (bN (Iq (Il (fw (vJ (d+1)) (Ir (e:=C3.wrap (((d:Nat):Int)+1)) yk f0) (Mz rfl (C4 ?_)))))))
 have fH:=bu.px [] [0] []
 exact II (d+1,P,Q,f,R,S,g) ⟨rfl,rfl,rfl,rfl,rfl,rfl,rfl,trivial⟩ (bq.2 ⟨fH,e6,e6,et (bK) (et (congrArg (fun q=>l5 l0 r q d z A) ek) (ae dV))⟩) (by show x.length - (d+1) < x.length - d; omega)
 refine jF (dF ed) (C5 (IC ?_))
 have dW:l5 l0 r x 0 ([]) ([])=(z,A):=et (bK) (et (congrArg (fun q=>l5 l0 r q d z A) (dZ (ls:=x) (i:=d) e6)) rfl)
 refine IC (IK (Iq (sr (La ([vI r, .slice ax z.length ay, .slice az A.length aA]) bg 0 V2 U8 ?_))))
 have fI:=bg.pf [1]
 refine df [vI r, .slice ax z.length ay, .slice az A.length aA] 0 fI U8 ?_
 intro iH dB
 refine nt (rt (Fin.res (oo rfl rfl (IJ (cs:= [vI r, .slice ax z.length ay, .slice az A.length aA]) V2 U8 ((dB.cls (i:=0) rfl).lit (k:=0) (m:=3) rfl))) ?_))
 have fJ:=dB.pk [2,3]
 obtain rfl:_=jA.mk r (Ll.mk z) (Ll.mk A):=hr.symm.trans (ae dW)
 exact⟨ax,ay,az,aA,rfl,fJ⟩
def lu (l0:List aM) (l1:List aN):Nat→List jA→Nat→(List jA)
  | 0,b,a=>default
  | d+1,b,a=>if((a:Nat):Int)≤4 then bnd (yu l0 ((a:Nat):Int) l1) fun c=>if((c.aB.ls.length:Nat):Int) > 0 then lu l0 l1 d (b++ [c]) (a+1) else lu l0 l1 d b (a+1) else b
def sS (l0:List aM) (l1:List aN):(List jA) × Int:=
 bnd (pG l0) fun a=>if a=0 then bnd (rU l1) fun b=>if b=0 then bnd (lu l0 l1 ((5 - 1)+1) ([]) 1) fun sLrbtbtL=>(sLrbtbtL,0) else(([]:List jA),b) else(([]:List jA),a)
theorem CE (w D S n0 U l0 T n1 V l1 r0 r1) (H:Own w D w []) (W:Ro w D fun w'=>aY w' 2 S n0 (q4 aM.cells l0)) (aU:n0=l0.length) (bR:l0.length *24≤211106232532992) (X:Ro w D fun w'=>aY w' 6 T n1 (q4 aN.cells l1)) (aV:n1=l1.length) (bS:l1.length≤9223372036854775807) (hr:sS l0 l1=(r0,r1)):
    Calls v5 16 #[.slice S n0 U, .slice T n1 V] w (dA fun v w'=> ∃ B0 b0 e0,v= .tuple #[.slice B0 r0.length b0,vI r1]∧Own w D w' [row B0 r0.length b0 (q4 dQ.cells e0) 70 3,sepL (q4 dQ.own e0)]∧(List.map dQ.abs e0=r0)):=by
 subst aU aV
 refine cb Tryz.func16 ?_
 refine sr (Az rfl (An rfl (Ik (sr (Mz rfl ?_)))))
 obtain⟨r,o⟩:∃ q,pG l0=q:=⟨_,rfl⟩
 obtain⟨bT,Y,Z,aa,bI⟩:=Iu H
 refine cl Tryz.call31 (wu _ _ S l0.length U l0 r Y (Z _ W) rfl e6 o) ?_
 rintro _ af ⟨rfl,ag,M⟩
 have ah:=aa _ _ ag
 replace M: ¬ (r=0)∨(1≤l0.length∧l0.length≤6):=M
 refine Ar rfl (Mz rfl (fw (.bool (decide (¬ (r=0)))) (IM (e:= !(decide (r=0))) yk decide_not.symm) (nt ?_)))
 by_cases x:r=0
 refine jF (dF (Lr x)) (sk (Ik (sr (Mz rfl ?_))))
 obtain⟨t,z⟩:∃ q,rU l1=q:=⟨_,rfl⟩
 obtain⟨bU,ai,aj,ak,bJ⟩:=Iu ah
 refine cl Tryz.call32 (A9 _ _ T l1.length V l1 t ai (aj _ X) rfl e6 z) ?_
 rintro _ I ⟨rfl,au,N⟩
 have av:=ak _ _ au
 replace N: ¬ (t=0)∨l1.length≤24:=N
 refine Ar rfl (Mz rfl (fw (.bool (decide (¬ (t=0)))) (IM (e:= !(decide (t=0))) yk decide_not.symm) (nt ?_)))
 by_cases J:t=0
 refine jF (dF (Lr J)) (sk (sr (An rfl (Ik (sr (An rfl (bo ?_)))))))
 have aX:Own w D I [sepL (q4 dQ.own ([]))]:=av.sepNil
 have aZ:Own w D I [row none 0 0 (q4 dQ.cells ([])) 70 3,sepL (q4 dQ.own ([]))]:=aX.free (eP 70 3)
 have bf:=aZ.pf []
 obtain⟨bg,p⟩:=G8 fun A (B:Nat) l c (b:Nat) (C:Nat) w'=>Own w D w' [row A c.length B (q4 dQ.cells l) 70 3,sepL (q4 dQ.own l)]∧List.map dQ.abs l=c∧(1≤b∧b≤5∧c.length≤b)∧5 - b < C∧lu l0 l1 ((5 - 1)+1) ([]) 1=lu l0 l1 C c b
 refine C1 (fun i:(Option Addr) × Nat × (List dQ) × (List jA) × Nat × Nat=> [(8, .slice i.1 i.2.2.2.1.length i.2.1),(9,vJ i.2.2.2.2.1),(5,vI 0),(4, .slice none 0 0),(0, .slice S l0.length U),(1, .slice T l1.length V)]) bg (fun i=>i.2.2.2.2.2) (none,0, [], [],1,(5 - 1)+1) ⟨rfl,rfl,rfl,rfl,rfl,rfl,trivial⟩ (p.2 ⟨bf,(show List.map dQ.abs ([])=([])∧(1≤1∧1≤5∧0≤1)∧5 - 1 < ((5 - 1)+1)∧lu l0 l1 ((5 - 1)+1) ([]) 1=lu l0 l1 ((5 - 1)+1) ([]) 1 from ⟨by exact rfl,e6,e6,rfl⟩)⟩) ?_
 rintro ⟨A,B,l,c,b,C⟩ bV ax
 obtain⟨ay,n,bK,bL,E⟩:=p.1 ax
 have bM:=aA n
 obtain⟨u,az⟩:∃ q,C=q+1:=⟨C - 1,e6⟩
 subst az
 refine Ik (sr (Mz rfl (Kz (.bool (decide (((b:Nat):Int)≤4))) (nt ?_))))
 by_cases F:((b:Nat):Int)≤4
 refine jT (dT F) (sk (Ik (bo (sr (Mz rfl (Mz rfl (Mz rfl ?_)))))))
 obtain⟨a,G⟩:∃ q,yu l0 ((b:Nat):Int) l1=q:=⟨_,rfl⟩
 obtain⟨bW,aB,O,aC,bO⟩:=Iu ay
 refine cl Tryz.call33 (DF _ _ S l0.length U l0 ((b:Nat):Int) T l1.length V l1 a aB (O _ W) rfl e6 (O _ X) rfl e6 e6 G) ?_
 rintro _ bX ⟨d,g,h,j,rfl,aD⟩
 have P:=aC _ _ aD
 have bP:=P.rowC (i:=0) rfl
 have bQ:=P.rowC (i:=1) rfl
 refine dn [vI 0, .slice none 0 0, .slice none 0 0] 70 P ?_
 intro bi bY bn
 refine df [vI a.bE, .slice d a.aB.ls.length g, .slice h a.aI.ls.length j] 0 bn U8 ?_
 intro bZ K
 refine ns (Kz (vP bi 1) (Lz (.slice d a.aB.ls.length g) K 0 R6 (Kz (vJ a.aB.ls.length) (Kz (.bool (decide (((a.aB.ls.length:Nat):Int) > 0))) (nt ?_)))))
 by_cases L:((a.aB.ls.length:Nat):Int) > 0
 refine jT (dT L) (Il (Mz rfl (La ([vI a.bE, .slice d a.aB.ls.length g, .slice h a.aI.ls.length j]) K 0 V2 U8 ?_)))
 refine jV [vI a.bE, .slice d a.aB.ls.length g, .slice h a.aI.ls.length j] 70 3 1 K ?_
 intro bq cu Q
 replace Q:=IX (y:=row bq 1 1 (q4 dQ.cells ([(dQ.mk a.bE (G3 d g a.aB.ls) (G3 h j a.aI.ls))])) 70 3) rfl Q
 have aF:=Q.pb [2,3,0,1]
 refine WL.do rfl (IW (k:=c.length) (m:=1) (xe) aF rfl rfl (gN Tryz.underlying66 (aF.rds (i:=4) rfl) (dX dQ.one ([(dQ.mk a.bE (G3 d g a.aB.ls) (G3 h j a.aI.ls))]))) rfl e6 (s:=s0 (c++ [a])) f7 (r5).symm ?_)
 intro bu bv bz bA
 have bB:=bA.pb [0,4,5]
 have bC:Own w D bz (sepL (q4 dQ.own (l++ [(dQ.mk a.bE (G3 d g a.aB.ls) (G3 h j a.aI.ls))]))::_):=bB.sepAdd (L2:= [row d a.aB.ls.length g (q4 aN.cells a.aB.ls) 72 6,row h a.aI.ls.length j (q4 (eI .i64) a.aI.ls) 3 1]) (r5 (f:=dQ.own) (xs:=l) (ys:= [(dQ.mk a.bE (G3 d g a.aB.ls) (G3 h j a.aI.ls))])).symm
 have bD:s0 (c++ [a])=c.length+1:=by simp only [o2,s1,E7]
 have bE:=aA (nu (es:= [(dQ.mk a.bE (G3 d g a.aB.ls) (G3 h j a.aI.ls))]) (ms:= [a]) n rfl)
 refine Az rfl (C4 (bN (Iq (Il (Mz rfl (fw (vJ (b+1)) (Ir (e:=C3.wrap (((b:Nat):Int)+1)) yk f0) (Az rfl (C4 ?_))))))))
 have aG:=bC.pk [1,0]
 exact II (bu,bv,(l++ [(dQ.mk a.bE (G3 d g a.aB.ls) (G3 h j a.aI.ls))]),(c++ [a]),b+1,u) ⟨rfl,rfl,rfl,rfl,rfl,rfl,trivial⟩ (p.2 ⟨aG,by exact(nu (es:= [(dQ.mk a.bE (G3 d g a.aB.ls) (G3 h j a.aI.ls))]) (ms:= [a]) n rfl),e6,e6,et (E) (et (ip F) (et (ae G) (ip L)))⟩) (by show u < u+1; omega)
 refine jF (dF L) (IU (bN (Iq (Il (Mz rfl (fw (vJ (b+1)) (Ir (e:=C3.wrap (((b:Nat):Int)+1)) yk f0) (Az rfl (C4 ?_))))))))
 have aH:=K.pk [3,4]
 exact II (A,B,l,c,b+1,u) ⟨rfl,rfl,rfl,rfl,rfl,rfl,trivial⟩ (p.2 ⟨aH,by exact n,e6,e6,et (E) (et (ip F) (et (ae G) (iN L)))⟩) (by show u < u+1; omega)
 refine jF (dF F) (C5 (IC ?_))
 have R:lu l0 l1 ((5 - 1)+1) ([]) 1=c:=et (E) (iN F)
 refine IC (IK (Iq (sr (Mz rfl (Az rfl (An rfl (rt (Fin.res (lH rfl rfl rfl) ?_))))))))
 have aI:=ay.pf []
 obtain⟨rfl,rfl⟩:=fD (hr.symm.trans (show _=(c,0) from et (ae o) (et (ip x) (et (ae z) (et (ip J) (ae R))))))
 exact⟨A,B,l,rfl,aI,n⟩
 refine jT (dT J) (sr (Mz rfl (Az rfl (An rfl (rt (tR (Fin.res (lH rfl rfl rfl) ?_)))))))
 have aJ:Own w D I [sepL (q4 dQ.own ([]))]:=av.sepNil
 have aK:Own w D I [row none 0 0 (q4 dQ.cells ([])) 70 3,sepL (q4 dQ.own ([]))]:=aJ.free (eP 70 3)
 have aL:=aK.pf []
 obtain⟨rfl,rfl⟩:=fD (hr.symm.trans (show _=(([]:List jA),t) from et (ae o) (et (ip x) (et (ae z) (iN J)))))
 exact⟨none,0, [],rfl,aL,rfl⟩
 refine jT (dT x) (sr (Mz rfl (Az rfl (An rfl (rt (tR (Fin.res (lH rfl rfl rfl) ?_)))))))
 have aO:Own w D af [sepL (q4 dQ.own ([]))]:=ah.sepNil
 have aP:Own w D af [row none 0 0 (q4 dQ.cells ([])) 70 3,sepL (q4 dQ.own ([]))]:=aO.free (eP 70 3)
 have aQ:=aP.pf []
 obtain⟨rfl,rfl⟩:=fD (hr.symm.trans (show _=(([]:List jA),r) from et (ae o) (iN x)))
 exact⟨none,0, [],rfl,aQ,rfl⟩
def kw (l0:List aM) (e:Int) (f:aL):List aM→Nat→Unit ⊕ Bool
  | [],a=>B7 ()
  | g::b,a=>if g.bE=e then bnd (kX l0 ((a:Nat):Int)) fun c=>bnd (nz c f) fun d=>if d=true then B9 (true) else kw l0 e f b (a+1) else kw l0 e f b (a+1)
def lv (l0:List aM) (d:Int) (c:aL):Bool:=
 bnd (pG l0) fun a=>if a=0 then bnd (gF c) fun b=>if b=0 then lp (kw l0 d c l0 0) fun _=>false else false else false
theorem wV (w D n n0 B l0 l) (d:aL) (r0) (H:Own w D w []) (o:Ro w D fun w'=>aY w' 2 n n0 (q4 aM.cells l0)) (ak:n0=l0.length) (aS:l0.length *24≤211106232532992) (hr:lv l0 l d=r0):
    Calls v5 18 #[.slice n n0 B,vI l, .agg (aL.cells d).toArray] w (dA fun v w'=>v= .bool r0∧Own w D w' []):=by
 subst ak
 refine cb Tryz.func18 ?_
 refine sr ?_
 refine dn (aL.cells d) 38 H ?_
 intro F aT au
 refine An rfl (Ik (sr (Mz rfl ?_)))
 obtain⟨p,f⟩:∃ q,pG l0=q:=⟨_,rfl⟩
 obtain⟨aU,L,M,N,aJ⟩:=Iu au
 refine cl Tryz.call31 (wu _ _ n l0.length B l0 p L (M _ o) rfl e6 f) ?_
 rintro _ aV ⟨rfl,O,C⟩
 have G:=N _ _ O
 replace C: ¬ (p=0)∨(1≤l0.length∧l0.length≤6):=C
 refine fw (.bool (decide (¬ (p=0)))) (IM (e:= !(decide (p=0))) yk decide_not.symm) (Mz rfl ?_)
 by_cases c:p=0
 refine gw (.agg (aL.cells d).toArray) (dF (Lr c)) (IB rfl (IJ (cs:=(aL.cells d)) N0 M9 ((G.cls (i:=0) rfl).lit (k:=0) (m:=2) rfl))) ?_
 obtain⟨r,g⟩:∃ q,gF d=q:=⟨_,rfl⟩
 obtain⟨aW,P,aK,Q,aN⟩:=Iu G
 refine pW (dF (Lr c)) U4 (lZ _ _ d r P g) ?_
 rintro _ aX ⟨rfl,R⟩
 have S:=Q _ _ R
 refine gw (.bool (decide (¬ (r=0)))) (dF (Lr c)) (IM (e:= !(decide (r=0))) yk decide_not.symm) (fw (.bool (decide (¬ (r=0)))) (Io rfl (dF (Lr c)) rfl) (nt ?_))
 by_cases s:r=0
 refine jF (dF (Lr s)) (sk (Ik (sr (Mz rfl (Kz (vJ l0.length) (Mn rfl (bo ?_)))))))
 have av:=S.pf []
 obtain⟨ax,h⟩:=lF fun (a:Nat) w'=>Own w D w' [blk F (aL.cells d) 38]∧a≤l0.length∧kw l0 l d l0 0=kw l0 l d (r4 a l0) a
 refine C1 (fun i:Nat=> [(6, .bool false),(19,vJ i),(18,vJ l0.length),(17, .slice n l0.length B),(5,vP F 0),(0, .slice n l0.length B),(1,vI l)]) ax (fun i=>l0.length - i) 0 ⟨rfl,rfl,rfl,rfl,rfl,rfl,rfl,trivial⟩ (h.2 ⟨av,e6,rfl⟩) ?_
 rintro a aZ T
 obtain⟨t,aO,j⟩:=h.1 T
 refine sr (Kz (.bool (decide (((a:Nat):Int) < ((l0.length:Nat):Int)))) (nt (Ik ?_)))
 by_cases U:((a:Nat):Int) < ((l0.length:Nat):Int)
 obtain⟨u,E⟩:=dh (ls:=l0) (i:=a) aM.len f2 (t.ro o) e9
 have x:=drop_at E
 refine jT (dT U) (sk (Ik (bo (sr (Mz rfl (fw (.pointer (some ⟨ab n,ao n+a *2,none⟩)) (Iz (nE) rfl rfl ((t.ro o).addr (i:=a) e6) e6) (fw (.agg (aM.cells u).toArray) (IB rfl (IJ (cs:=(aM.cells u)) U6 P3 ((t.ro o).elem aM.len E f2))) ?_)))))))
 refine dn [.string ⟨v6 ([])⟩,vI 0] 89 t ?_
 intro ay bf az
 refine Az rfl ?_
 refine df (aM.cells u) 0 az P3 ?_
 intro bg aA
 refine nt (Ik ?_)
 refine pM [] (IE (bv.block (IE (IE (bv.block (IE IQ)))))) aA ?_
 intro bi V
 refine qp ay 1 0 rfl (ql 1 rfl 0 C2 rfl rfl rfl (qv 2 rfl rfl (qk (.bool (decide (u.bE=l))) 3 rfl (qv 4 rfl rfl ?_))))
 by_cases b:u.bE=l
 refine Iy (v:= .slice n l0.length B) (rs:= []) 5 rfl rfl rfl (dT b) e7 (fun _ _=>IA rfl) (Iy (v:=vJ a) (rs:= []) 6 rfl rfl rfl (dT b) e7 (fun _ _=>IA rfl) (Iy (v:= .agg (aL.cells d).toArray) (rs:= []) 8 rfl rfl rfl (dT b) e7 (fun _ ⟨_,H9⟩=>IB rfl (IJ (cs:=(aL.cells d)) N0 M9 ((H9.cls (i:=1) rfl).lit (k:=0) (m:=2) rfl))) ?_))
 obtain⟨I,y⟩:∃ q,kX l0 ((a:Nat):Int)=q:=⟨_,rfl⟩
 obtain⟨bq,W,X,Y,aP⟩:=Iu V
 refine Jl 7 rfl rfl rfl (dT b) e7 (IP U7 rfl (qQ _ _ n l0.length B l0 ((a:Nat):Int) I W (X _ o) rfl e6 e6 y) ?_)
 rintro _ bu ⟨rfl,Z⟩
 have aa:=Y _ _ Z
 refine⟨.inr ⟨_,aa⟩, ?_⟩
 obtain⟨J,z⟩:∃ q,nz I d=q:=⟨_,rfl⟩
 obtain⟨bz,af,aQ,ag,aR⟩:=Iu aa
 refine Jl 9 rfl rfl rfl (dT b) e7 (IP Tryz.call37 rfl (zy _ _ I d J af z) ?_)
 rintro _ bA ⟨rfl,ah⟩
 have K:=ag _ _ ah
 refine⟨.inr ⟨_,K⟩, ?_⟩
 refine qt (v:= .bool J) 10 rfl (fun _ _=>Iw rfl (dT b) rfl) (qn (Iq ?_))
 rcases Ls (J) with A | A
 refine jT A (sr (An rfl (rt (bR (tR (tR (bR (tR (rs ?_)))))))))
 have aB:=K.pk []
 obtain rfl:_=true:=hr.symm.trans (et (ae f) (et (ip c) (et (ae g) (et (ip s) (gL (et (j) (et (congrArg (fun q=>kw l0 l d q a) x) (et (ip b) (et (ae y) (et (ae z) (ip A)))))))))))
 exact⟨rfl,aB⟩
 refine jF A (IU (bN (Iq (Il (fw (vJ (a+1)) (Ir (e:=C3.wrap (((a:Nat):Int)+1)) yk f0) (Mz rfl (C4 ?_)))))))
 have aC:=K.pk [1]
 exact II (a+1) ⟨rfl,rfl,rfl,rfl,rfl,rfl,rfl,trivial⟩ (h.2 ⟨aC,e6,et (j) (et (congrArg (fun q=>kw l0 l d q a) x) (et (ip b) (et (ae y) (et (ae z) (fP A)))))⟩) (by show l0.length - (a+1) < l0.length - a; omega)
 refine Ip (rs:= []) 5 rfl rfl rfl (dF b) e7 (Ip (rs:= []) 6 rfl rfl rfl (dF b) e7 (Ip (rs:= []) 7 rfl rfl rfl (dF b) e7 (Ip (rs:= []) 8 rfl rfl rfl (dF b) e7 (Ip (rs:= []) 9 rfl rfl rfl (dF b) e7 (qt (v:= .bool false) 10 rfl (fun _ _=>Io rfl (dF b) rfl) (qn (Iq (jf (IU (bN (Iq (Il (fw (vJ (a+1)) (Ir (e:=C3.wrap (((a:Nat):Int)+1)) yk f0) (Mz rfl (C4 ?_)))))))))))))))
 have aD:=V.pk [1]
 exact II (a+1) ⟨rfl,rfl,rfl,rfl,rfl,rfl,rfl,trivial⟩ (h.2 ⟨aD,e6,et (j) (et (congrArg (fun q=>kw l0 l d q a) x) (iN b))⟩) (by show l0.length - (a+1) < l0.length - a; omega)
 refine jF (dF U) (C5 (IC ?_))
 have ai:kw l0 l d l0 0=B7 ():=et (j) (et (congrArg (fun q=>kw l0 l d q a) (dZ (ls:=l0) (i:=a) e6)) rfl)
 refine IC (IK (Iq (sr (An rfl (rt (rs ?_))))))
 have aF:=t.pk []
 obtain rfl:_=false:=hr.symm.trans (et (ae f) (et (ip c) (et (ae g) (et (ip s) (mF ai)))))
 exact⟨rfl,aF⟩
 refine jT (dT s) (sr (An rfl (rt (tR (rs ?_)))))
 have aG:=S.pk []
 obtain rfl:_=false:=hr.symm.trans (et (ae f) (et (ip c) (et (ae g) (iN s))))
 exact⟨rfl,aG⟩
 refine Sz (dT c) (Sz (dT c) (Sz (dT c) (fw (.bool true) (Iw rfl (dT c) rfl) (nt (jt (sr (An rfl (rt (tR (rs ?_))))))))))
 have aH:=G.pk []
 obtain rfl:_=false:=hr.symm.trans (et (ae f) (iN c))
 exact⟨rfl,aH⟩
end Go.Proofs.YtbkagebjhbphaaaGreat
