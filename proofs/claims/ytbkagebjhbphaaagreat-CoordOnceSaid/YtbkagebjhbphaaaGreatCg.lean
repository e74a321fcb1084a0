/-
 coord: a transaction is committed.
-/
import Derived.Test.YtbkagebjhbphaaaGreatCc
import Derived.Test.YtbkagebjhbphaaaGreatCf
namespace Go.Proofs.YtbkagebjhbphaaaGreat
open Int renaming toNat→D0
open IntKind renaming i64→C5
open List renaming cons→Q5,drop→r3,flatMap→q3,getD→C0,length→r8,length_append→o1,length_cons→s0,length_drop→o0,length_map→s3,length_nil→F2,length_replicate→H2,length_set→H1,length_take→m9,map→s5,mem_append_right→v2,mem_flatMap→Q3,mem_of_getElem?→D3,set→u2,take→q7
open Ll renaming mk→E2
open Sv renaming mk→H0
open _root_.Go.Proofs.Tryz renaming isAgg24→P3,isAgg28→D4,isAgg3→C4,isAgg31→H3,isAgg56→Q4,prog→v8,sizeOf56→P2
set_option maxRecDepth 100000
open Go.RowKit
set_option linter.unusedVariables false
set_option linter.unusedSectionVars false
set_option linter.unusedSimpArgs false
def cmp_isNaN_int (a:Int):Bool:=
 false
theorem tX (w D a c) (H:Own w D w []) (hr:cmp_isNaN_int a=c):
    Calls v8 169 #[vI a] w (d9 fun v w'=>v= .bool c∧Own w D w' []):=by
 refine cb Tryz.func169 ?_
 refine sr (Ar rfl (Mz rfl (Mz rfl (fw (.bool false) (IG (e:= !(decide (a=a))) yk i8) (An rfl (rt (rs ?_)))))))
 have b:=H.pk []
 obtain rfl:_=false:=hr.symm.trans rfl
 exact⟨rfl,b⟩
def cmp_Compare_int (c:Int) (d:Int):Int:=
 bnd (cmp_isNaN_int c) fun b=>bnd (cmp_isNaN_int d) fun a=>if b=true then if a=true then 0 else(-1) else if a=true then 1 else if c < d then(-1) else if c > d then 1 else 0
theorem sw (w D i j C) (H:Own w D w []) (hr:cmp_Compare_int i j=C):
    Calls v8 154 #[vI i,vI j] w (d9 fun v w'=>v=vI C∧Own w D w' []):=by
 refine cb Tryz.func154 ?_
 refine sr (Ar rfl (Mz rfl ?_))
 obtain⟨l,a⟩:∃ q,cmp_isNaN_int i=q:=⟨_,rfl⟩
 obtain⟨J,m,E,n,F⟩:=Ii H
 refine cl Tryz.call169 (tX _ _ i l m a) ?_
 rintro _ K ⟨rfl,o⟩
 have t:=n _ _ o
 refine Ar rfl (Mz rfl ?_)
 obtain⟨k,b⟩:∃ q,cmp_isNaN_int j=q:=⟨_,rfl⟩
 obtain⟨L,p,G,r,I⟩:=Ii t
 refine cl Tryz.call169 (tX _ _ j k p b) ?_
 rintro _ M ⟨rfl,s⟩
 have e:=r _ _ s
 refine An rfl (Ic (sr (Mn rfl ?_)))
 rcases Li (l) with c | c
 refine jT c (Ic (sr (Mn rfl ?_)))
 rcases Li (k) with f | f
 refine jT f (sr (An rfl (rt (tR (tR (rs ?_))))))
 have u:=e.pk []
 obtain rfl:_=0:=hr.symm.trans (et (ah a) (et (ah b) (et (ip c) (ip f))))
 exact⟨rfl,u⟩
 refine jF f (sk (sr (An rfl (rt (tR (rs ?_))))))
 have x:=e.pk []
 obtain rfl:_=(-1):=hr.symm.trans (et (ah a) (et (ah b) (et (ip c) (gm f))))
 exact⟨rfl,x⟩
 refine jF c (sk (Ic (sr (Mn rfl ?_))))
 rcases Li (k) with d | d
 refine jT d (sr (An rfl (rt (tR (rs ?_)))))
 have y:=e.pk []
 obtain rfl:_=1:=hr.symm.trans (et (ah a) (et (ah b) (et (gm c) (ip d))))
 exact⟨rfl,y⟩
 refine jF d (sk (Ic (sr (Mz rfl (Mz rfl (Kz (.bool (decide (i < j))) (nt ?_)))))))
 by_cases g:i < j
 refine jT (dT g) (sr (An rfl (rt (tR (rs ?_)))))
 have z:=e.pk []
 obtain rfl:_=(-1):=hr.symm.trans (et (ah a) (et (ah b) (et (gm c) (et (gm d) (ip g)))))
 exact⟨rfl,z⟩
 refine jF (dF g) (sk (Ic (sr (Mz rfl (Mz rfl (Kz (.bool (decide (i > j))) (nt ?_)))))))
 by_cases h:i > j
 refine jT (dT h) (sr (An rfl (rt (tR (rs ?_)))))
 have A:=e.pk []
 obtain rfl:_=1:=hr.symm.trans (et (ah a) (et (ah b) (et (gm c) (et (gm d) (et (iN g) (ip h))))))
 exact⟨rfl,A⟩
 refine jF (dF h) (sk (sr (An rfl (rt (rs ?_)))))
 have B:=e.pk []
 obtain rfl:_=0:=hr.symm.trans (et (ah a) (et (ah b) (et (gm c) (et (gm d) (et (iN g) (iN h))))))
 exact⟨rfl,B⟩
def fu (l0:List eD) (f:Int):Nat→Nat→Nat→Nat
  | 0,a,b=>default
  | c+1,a,b=>if((a:Nat):Int) < ((b:Nat):Int) then bnd (C0 l0 ((a+b) / 2) default) fun d=>bnd (cmp_Compare_int d.aK f) fun e=>if e < 0 then fu l0 f c (((a+b) / 2)+1) b else fu l0 f c a ((a+b) / 2) else a
def fH (l0:List eD) (c:Int):Int × Bool:=
 bnd (fu l0 c ((l0.length - 0)+1) 0 l0.length) fun sLrL=>if((sLrL:Nat):Int) < ((l0.length:Nat):Int) then bnd (C0 l0 sLrL default) fun a=>bnd (cmp_Compare_int a.aK c) fun b=>(((sLrL:Nat):Int),decide (b=0)) else(((sLrL:Nat):Int),false)
theorem nM (w D y Z Y d0 l0 n K r1) (H:Own w D w []) (G:s5 aU.abs d0=l0) (l:Ro w D fun w'=>bE w' 4 y Z (q3 aU.cells d0)) (L:∀ x ∈ d0,Ro w D (fun w'=>bE w' 3 x.ai.A x.ai.ls.length (q3 ae.cells x.ai.ls))∧(x.ai.ls.length≤x.ai.c∧x.ai.ls.length≤9223372036854775807)∧(∀ J ∈ x.ai.ls,Ro w D (fun w'=>bE w' 2 J.ak.A J.ak.ls.length (q3 aI.cells J.ak.ls))∧(J.ak.ls.length≤J.ak.c∧J.ak.ls.length≤9223372036854775807))) (af:Z=l0.length) (aP:l0.length *48≤211106232532992) (hr:fH l0 n=(K,r1)):
    Calls v8 152 #[.slice y Z Y,vI n, .func (.func 153) #[] #[]] w (d9 fun v w'=>v= .tuple #[vI K, .bool r1]∧Own w D w' []∧(0≤K∧K≤((l0.length:Nat):Int))∧(Bool.toNat r1=0∨K < ((l0.length:Nat):Int))):=by
 subst af
 have aA:=aB G
 refine cb Tryz.func152 ?_
 refine sr (Az rfl (Ar rfl (Mz rfl (Kz (vJ l0.length) (Ar rfl (Mz rfl (Az rfl (An rfl (Ic (bo ?_))))))))))
 have ag:=H.pk []
 obtain⟨ai,j⟩:=rz fun (a:Nat) (b:Nat) (o:Nat) w'=>Own w D w' []∧a≤b∧b≤l0.length∧b - a < o∧fu l0 n ((l0.length - 0)+1) 0 l0.length=fu l0 n o a b
 refine Wp.loop (fun i:Nat × Nat × Nat=> [(9,vJ i.1),(10,vJ i.2.1),(8,vJ l0.length),(7, .bool false),(6,vI 0),(0, .slice y l0.length Y),(1,vI n),(2, .func (.func 153) #[] #[])]) ai (fun i=>i.2.2) (0,l0.length,(l0.length - 0)+1) ⟨rfl,rfl,rfl,rfl,rfl,rfl,rfl,rfl,trivial⟩ (j.2 ⟨ag,e6,e6,e6,rfl⟩) ?_
 rintro ⟨a,b,o⟩ aQ M
 obtain⟨f,aC,aD,aF,p⟩:=j.1 M
 obtain⟨m,N⟩:∃ q,o=q+1:=⟨o - 1,e6⟩
 subst N
 refine Ic (sr (Mz rfl (Mz rfl (Kz (.bool (decide (((a:Nat):Int) < ((b:Nat):Int)))) (nt ?_)))))
 by_cases r:((a:Nat):Int) < ((b:Nat):Int)
 refine jT (dT r) (sk (bo (sr (Mz rfl (Mz rfl (fw (vJ (a+b)) (Ie (e:=C5.wrap (((a:Nat):Int)+((b:Nat):Int))) yk f0) (fw (vU (a+b)) (Ie (e:=IntKind.u64.wrap ((a+b:Nat):Int)) yk (IntWalk.u64_in _ e6)) (fw (vU ((a+b) / 2)) (Ie (e:=Int.fdiv ((a+b:Nat):Int) 2) yk (nV _ 1 _ f4)) (fw (vJ ((a+b) / 2)) (Ie (e:=C5.wrap (((a+b) / 2:Nat):Int)) yk (Lf _ e6)) (Ar rfl (Mz rfl (Mz rfl (Mz rfl ?_)))))))))))))
 obtain⟨g,s⟩:=dN (ls:=d0) (i:=(a+b) / 2) aU.len f4 (f.ro l) e9
 have C:=fF G s
 have aG:=(L _ (D3 s)).2.1
 have aH:r8 (s5 ae.abs g.ai.ls)=g.ai.ls.length:=s3 ..
 refine fw (.pointer (some ⟨ab y,ao y+((a+b) / 2) *4,none⟩)) (Ij (l6) rfl rfl ((f.ro l).addr (i:=(a+b) / 2) e6) e6) (fw (.agg (aU.cells g).toArray) (Io rfl (Iy (cs:=(aU.cells g)) Q4 P2 ((f.ro l).elem aU.len s f4))) (Mz rfl ?_))
 refine WL.do rfl (IK Tryz.call153 rfl rfl ?_ (fun _ _ k=>k))
 refine cb Tryz.func153 ?_
 refine sr ?_
 refine dV (aU.cells g) 56 f ?_
 intro aj aR O
 refine Ar rfl (Kz (vP aj 0) (Lz (vI g.aK) O 0 C4 (Mz rfl ?_)))
 obtain⟨I,t⟩:∃ q,cmp_Compare_int g.aK n=q:=⟨_,rfl⟩
 obtain⟨aS,P,aJ,Q,aK⟩:=Ii O
 refine cl Tryz.call154 (sw _ _ g.aK n I P t) ?_
 rintro _ aT ⟨rfl,R⟩
 have S:=Q _ _ R
 refine An rfl (rt (rs (Kz (.bool (decide (I < 0))) (nt ?_))))
 by_cases z:I < 0
 refine jT (dT z) (Ib (Mz rfl (fw (vI ((((a+b) / 2)+1:Nat):Int)) (Ie (e:=C5.wrap ((((a+b) / 2:Nat):Int)+1)) yk f0) (Az rfl (WL.nil (bN ?_))))))
 have ak:=S.pk []
 exact Ir (((a+b) / 2)+1,b,m) ⟨rfl,rfl,rfl,rfl,rfl,rfl,rfl,rfl,trivial⟩ (j.2 ⟨ak,e6,e6,e6,et (p) (et (ip r) (et (ah (bJ C)) (et (ah t) (ip z))))⟩) (by show m < m+1; omega)
 refine jF (dF z) (Ib (Mz rfl (Az rfl (WL.nil (bN ?_)))))
 have au:=S.pk []
 exact Ir (a,(a+b) / 2,m) ⟨rfl,rfl,rfl,rfl,rfl,rfl,rfl,rfl,trivial⟩ (j.2 ⟨au,e6,e6,e6,et (p) (et (ip r) (et (ah (bJ C)) (et (ah t) (iN z))))⟩) (by show m < m+1; omega)
 refine jF (dF r) (Wp.exit (Il ?_))
 have E:fu l0 n ((l0.length - 0)+1) 0 l0.length=a:=et (p) (iN r)
 refine Il (IB (Ig (sr (Mz rfl (Mz rfl (Mz rfl (Kz (.bool (decide (((a:Nat):Int) < ((l0.length:Nat):Int)))) (Mz rfl ?_))))))))
 by_cases d:((a:Nat):Int) < ((l0.length:Nat):Int)
 refine gw (.func (.func 153) #[] #[]) (dT d) (Iq rfl) (gw (.slice y l0.length Y) (dT d) (Iq rfl) (gw (vJ a) (dT d) (Iq rfl) ?_))
 obtain⟨h,u⟩:=dN (ls:=d0) (i:=a) aU.len f4 (f.ro l) e9
 have T:=fF G u
 have aL:=(L _ (D3 u)).2.1
 have aM:r8 (s5 ae.abs h.ai.ls)=h.ai.ls.length:=s3 ..
 refine gw (.pointer (some ⟨ab y,ao y+a *4,none⟩)) (dT d) (Ij (l6) rfl rfl ((f.ro l).addr (i:=a) e6) e6) (gw (.agg (aU.cells h).toArray) (dT d) (Io rfl (Iy (cs:=(aU.cells h)) Q4 P2 ((f.ro l).elem aU.len u f4))) (gw (vI n) (dT d) (Iq rfl) ?_))
 refine Jm rfl rfl (dT d) rfl (IK Tryz.call153 rfl rfl ?_ (fun _ _ k=>k))
 refine cb Tryz.func153 ?_
 refine sr ?_
 refine dV (aU.cells h) 56 f ?_
 intro av aV U
 refine Ar rfl (Kz (vP av 0) (Lz (vI h.aK) U 0 C4 (Mz rfl ?_)))
 obtain⟨B,F⟩:∃ q,cmp_Compare_int h.aK n=q:=⟨_,rfl⟩
 obtain⟨aW,V,aN,W,aO⟩:=Ii U
 refine cl Tryz.call154 (sw _ _ h.aK n B V F) ?_
 rintro _ aX ⟨rfl,X⟩
 have ax:=W _ _ X
 refine An rfl (rt (rs (Gz (.bool (decide (B=0))) (dT d) (fw (.bool (decide (B=0))) (Iw rfl (dT d) rfl) (Az rfl (An rfl (rt (Fin.res (lW rfl rfl rfl) ?_))))))))
 have ay:=ax.pk []
 obtain⟨rfl,rfl⟩:=ic (hr.symm.trans (show _=(((a:Nat):Int),decide (B=0)) from et (ah E) (et (ip d) (et (ah (bJ T)) (ah F)))))
 exact⟨rfl,ay,e6,i7⟩
 refine Sz (dF d) (Sz (dF d) (Sz (dF d) (Sz (dF d) (Sz (dF d) (Sz (dF d) (Sz (dF d) (Sz (dF d) (fw (.bool false) (Ih rfl (dF d) rfl) (Az rfl (An rfl (rt (Fin.res (lW rfl rfl rfl) ?_))))))))))))
 have az:=f.pk []
 obtain⟨rfl,rfl⟩:=ic (hr.symm.trans (show _=(((a:Nat):Int),false) from et (ah E) (iN d)))
 exact⟨rfl,az,e6,i7⟩
def jQ (m:bI) (j:Int) (a:aA):bI × aA:=
 bnd (C0 a.ay.ls (D0 j) default) fun b=>bnd (lM b.bV.ls b.aG.ls b.af.ls) fun i=>if i.2=0 then bnd (jM (dK.mk b.aR b.aM b.aS b.dh (E2 b.bV.ls) (E2 b.aG.ls) (E2 b.bD.ls) (E2 b.af.ls) b.eO)) fun h=>bnd (bM a.aa.aj.ls b.aR) fun f=>bnd (fH a.aa.aF.ls b.aM) fun g=>if g.2=true then bnd (dC m b.aM b.aS 1 i.1 (aA.mk (cZ.mk a.aa.au a.aa.av a.aa.aV a.aa.aL (E2 a.aa.ag.ls) (E2 (q7 (D0 f.1) a.aa.aj.ls++((bH.mk b.aR b.aM a.aa.av b.aS (E2 h))::r3 (D0 f.1) a.aa.aj.ls))) (E2 (u2 a.aa.aF.ls (D0 g.1) (eD.mk b.aM a.aa.av b.aS (E2 i.1))))) a.bP (E2 (q7 (D0 j) a.ay.ls++r3 ((D0 j)+1) a.ay.ls)) a.bK a.bA a.bz a.bv a.bq a.dP a.dH a.dI a.dG a.dJ)) fun d=>bnd (dZ d.1 b.aR h true) fun k=>(k,aA.mk (cZ.mk d.2.aa.au d.2.aa.av d.2.aa.aV d.2.aa.aL (E2 a.aa.ag.ls) (E2 (q7 (D0 f.1) a.aa.aj.ls++((bH.mk b.aR b.aM a.aa.av b.aS (E2 h))::r3 (D0 f.1) a.aa.aj.ls))) (E2 (u2 a.aa.aF.ls (D0 g.1) (eD.mk b.aM a.aa.av b.aS (E2 i.1))))) d.2.bP (E2 (q7 (D0 j) a.ay.ls++r3 ((D0 j)+1) a.ay.ls)) d.2.bK d.2.bA d.2.bz d.2.bv d.2.bq d.2.dP d.2.dH d.2.dI d.2.dG d.2.dJ) else bnd (dC m b.aM b.aS 1 i.1 (aA.mk (cZ.mk a.aa.au a.aa.av a.aa.aV a.aa.aL (E2 a.aa.ag.ls) (E2 (q7 (D0 f.1) a.aa.aj.ls++((bH.mk b.aR b.aM a.aa.av b.aS (E2 h))::r3 (D0 f.1) a.aa.aj.ls))) (E2 (q7 (D0 g.1) a.aa.aF.ls++((eD.mk b.aM a.aa.av b.aS (E2 i.1))::r3 (D0 g.1) a.aa.aF.ls)))) a.bP (E2 (q7 (D0 j) a.ay.ls++r3 ((D0 j)+1) a.ay.ls)) a.bK a.bA a.bz a.bv a.bq a.dP a.dH a.dI a.dG a.dJ)) fun e=>bnd (dZ e.1 b.aR h true) fun l=>(l,aA.mk (cZ.mk e.2.aa.au e.2.aa.av e.2.aa.aV e.2.aa.aL (E2 a.aa.ag.ls) (E2 (q7 (D0 f.1) a.aa.aj.ls++((bH.mk b.aR b.aM a.aa.av b.aS (E2 h))::r3 (D0 f.1) a.aa.aj.ls))) (E2 (q7 (D0 g.1) a.aa.aF.ls++((eD.mk b.aM a.aa.av b.aS (E2 i.1))::r3 (D0 g.1) a.aa.aF.ls)))) e.2.bP (E2 (q7 (D0 j) a.ay.ls++r3 ((D0 j)+1) a.ay.ls)) e.2.bK e.2.bA e.2.bz e.2.bv e.2.bq e.2.dP e.2.dH e.2.dI e.2.dG e.2.dJ) else bnd (fq m j a) fun c=>(c.1,aA.mk (cZ.mk c.2.aa.au c.2.aa.av c.2.aa.aV c.2.aa.aL (E2 a.aa.ag.ls) (E2 a.aa.aj.ls) (E2 a.aa.aF.ls)) c.2.bP (E2 c.2.ay.ls) c.2.bK c.2.bA c.2.bz c.2.bv c.2.bq c.2.dP c.2.dH c.2.dI c.2.dG c.2.dJ)
set_option maxHeartbeats 4000000 in
theorem vz (w D Z) (p0:bI) (bK bL bz O d) (a:aA) (aa af U V p B P l W aM r aN aP ag aR aS ai aT aV aj aX aY ak bg bn au) (r0:bI) (r1:aA) (H:Own w D w (blk Z [.pointer (some ⟨d,0,none⟩), .slice bK p0.aX.ls.length bL] 98::row bK p0.aX.ls.length bL (q3 bf.cells bz) 42 21::sepL (q3 bf.own bz)::mX d a aa a.aa.ag.ls.length af U V p B P l W aM r aN aP ag aR aS ai aT aV aj aX aY ak bg bn au [])) (bC:s5 bf.abs bz=p0.aX.ls) (G:s5 aC.abs p=a.aa.aj.ls) (s:s5 aU.abs l=a.aa.aF.ls) (I:s5 bB.abs r=a.ay.ls) (av:s5 ae.abs ag=a.bK.af.ls) (ay:s5 ae.abs ai=a.bA.af.ls) (az:s5 ae.abs aj=a.bz.af.ls) (aD:s5 ae.abs ak=a.bv.af.ls) (aF:s5 ae.abs au=a.bq.af.ls) (uP:a.aa.ag.ls.length≤1000∧a.aa.aj.ls.length≤1000∧a.aa.aF.ls.length≤1000∧a.ay.ls.length≤1000∧p0.aX.ls.length≤100000) (uQ:Ak a.ay.ls) (uR:0≤O∧O < ((a.ay.ls.length:Nat):Int)) (hr:jQ p0 O a=(r0,r1)):
    Calls v8 94 #[vP Z 0,vI O] w (d9 fun v w'=> ∃ cO df bT ib ig dh ik il di iq iw dm iy iA dn iB iC dw iD iE dx iF iG dz iH iI dA,v= .tuple #[]∧Own w D w' (blk Z [vP d 0, .slice cO r0.aX.ls.length df] 98::row cO r0.aX.ls.length df (q3 bf.cells bT) 42 21::sepL (q3 bf.own bT)::mX d r1 aa a.aa.ag.ls.length af ib ig dh ik il di iq iw dm iy iA dn iB iC dw iD iE dx iF iG dz iH iI dA [])∧(s5 bf.abs bT=r0.aX.ls)∧(s5 aC.abs dh=r1.aa.aj.ls)∧(s5 aU.abs di=r1.aa.aF.ls)∧(s5 bB.abs dm=r1.ay.ls)∧(s5 ae.abs dn=r1.bK.af.ls)∧(s5 ae.abs dw=r1.bA.af.ls)∧(s5 ae.abs dx=r1.bz.af.ls)∧(s5 ae.abs dz=r1.bv.af.ls)∧(s5 ae.abs dA=r1.bq.af.ls)):=by
 have oG:=aB bC
 have jD:=aB G
 have jE:=aB s
 have jG:=aB I
 have jH:=aB av
 have jI:=aB ay
 have jJ:=aB az
 have jK:=aB aD
 have jL:=aB aF
 have oH:=H.rowC (i:=1) rfl
 have jO:=H.rowC (i:=4) rfl
 have jP:=H.rowC (i:=6) rfl
 have jR:=H.rowC (i:=8) rfl
 have jS:=H.rowC (i:=10) rfl
 have jU:=H.rowC (i:=12) rfl
 have jW:=H.rowC (i:=14) rfl
 have jX:=H.rowC (i:=16) rfl
 have jY:=H.rowC (i:=18) rfl
 refine cb Tryz.func94 ?_
 refine sr (Mz rfl (Kz (vP Z 0) (Kz (vP Z 0) (Lz (vP d 0) H 0 P3 (Kz (vP d 0) (Kz (vP d 8) (Lz (.slice W a.ay.ls.length aM) H 3 Tryz.isAgg79 (fw (vJ (D0 O)) (Ie (e:=O) (Iq rfl) e6) ?_))))))))
 obtain⟨b,u⟩:=dN (ls:=r) (i:=D0 O) bB.len f4 (H.rds (i:=8) rfl) e9
 have bY:=fF I u
 have rU:b.bV.ls.length≤b.bV.c∧b.bV.ls.length≤9223372036854775807:=aZ H (i:=9) rfl (φ:=fun _=>_) (ax (Q3.2 ⟨b,D3 u,b1⟩) aW)
 have rV:b.aG.ls.length≤b.aG.c∧b.aG.ls.length≤9223372036854775807:=aZ H (i:=9) rfl (φ:=fun _=>_) (ax (Q3.2 ⟨b,D3 u, .tail _ b1⟩) aW)
 have rW:b.bD.ls.length≤b.bD.c∧b.bD.ls.length≤9223372036854775807:=aZ H (i:=9) rfl (φ:=fun _=>_) (ax (Q3.2 ⟨b,D3 u, .tail _ b2⟩) aW)
 have rX:b.af.ls.length≤b.af.c∧b.af.ls.length≤9223372036854775807:=aZ H (i:=9) rfl (φ:=fun _=>_) (ax (Q3.2 ⟨b,D3 u, .tail _ b3⟩) aW)
 have R:Tok (bB.abs b):=yz f8 bY
 have rY:1≤b.aM∧b.aM≤4:=R.uh
 have rZ:b.bD.ls.length=b.aG.ls.length:=by have q9:=R.yes; simp only [bB.abs,s3] at q9; exact q9
 have r9:b.af.ls.length=b.aG.ls.length:=by have q9:=R.res; simp only [bB.abs,s3] at q9; exact q9
 have si:b.aG.ls.length≤5:=by have q9:=R.len; simp only [bB.abs,s3] at q9; exact q9
 have sj:b.bV.ls.length≤24:=R.ops.1
 have su:tt (s5 bO.abs b.af.ls)≤100000000:=F4 R
 refine fw (.pointer (some ⟨ab W,ao W+(D0 O) *9,none⟩)) (Ij (qh) rfl rfl ((H.rds (i:=8) rfl).addr (i:=D0 O) e6) e6) (fw (.agg (bB.cells b).toArray) (Io rfl (Iy (cs:=(bB.cells b)) Tryz.isAgg107 Tryz.sizeOf107 ((H.rds (i:=8) rfl).elem bB.len u f4))) ?_)
 refine dV (rJ 0 0 0 0 none 0 0 none 0 0 none 0 0 none 0 0 0) 107 H ?_
 intro X uS oI
 refine dS (bB.cells b) 0 oI Tryz.sizeOf107 ?_
 intro uT oJ
 refine ns (Kz (vP X 4) ?_)
 have oK:=oJ.pf [10]
 have aL:=JV (f:=bB.own) (i:=D0 O) (row b.bV.A b.bV.ls.length b.bV.c (q3 bi.cells b.bV.ls) 72 6) (row b.aG.A b.aG.ls.length b.aG.c (q3 bG.cells b.aG.ls) 172 3) (row b.bD.A b.bD.ls.length b.bD.c (q3 eL b.bD.ls) 4 1) (row b.af.A b.af.ls.length b.af.c (q3 (IX (β:=ae)) b.af.ls) 40 1) (sepL (q3 bG.own b.aG.ls)) (sepL (q3 bO.own b.af.ls)) rfl u oK
 have sw:=aL.rowC (i:=0) rfl
 have sD:=aL.rowC (i:=1) rfl
 have sF:b.aG.ls.length=r8 (s5 bG.abs b.aG.ls):=aB (rfl:s5 bG.abs b.aG.ls=s5 bG.abs b.aG.ls)
 have sG:=aL.rowC (i:=2) rfl
 have sH:=aL.rowC (i:=3) rfl
 have sI:b.af.ls.length=r8 (s5 bO.abs b.af.ls):=aB (rfl:s5 bO.abs b.af.ls=s5 bO.abs b.af.ls)
 refine Lz (.slice b.bV.A b.bV.ls.length b.bV.c) aL 7 Tryz.isAgg39 (Kz (vP X 5) (Lz (.slice b.aG.A b.aG.ls.length b.aG.c) aL 7 Tryz.isAgg103 (Kz (vP X 7) (Lz (.slice b.af.A b.af.ls.length b.af.c) aL 7 Tryz.isAgg105 ?_))))
 have sJ:b.aG.ls.length=r8 (s5 bG.abs b.aG.ls):=f1
 have sK:b.af.ls.length=r8 (s5 bO.abs b.af.ls):=f1
 obtain⟨⟨n,dB⟩,bN⟩:∃ q:(List aQ) × Int,lM b.bV.ls (s5 bG.abs b.aG.ls) (s5 bO.abs b.af.ls)=q:=⟨_,rfl⟩
 obtain⟨uU,jZ,sM,j3,bq⟩:=Ii aL
 refine cl Tryz.call129 (yj _ _ b.bV.A b.bV.ls.length b.bV.c b.bV.ls b.aG.A b.aG.ls.length b.aG.c b.aG.ls (s5 bG.abs b.aG.ls) b.af.A b.af.ls.length b.af.c b.af.ls (s5 bO.abs b.af.ls) n dB jZ (bq _ 0 _ rfl aO) rfl e6 (rfl:s5 bG.abs b.aG.ls=s5 bG.abs b.aG.ls) (bq _ 1 _ rfl aO) (fun Y Q=>⟨bq _ 4 _ rfl (ax (Q3.2 ⟨Y,Q,b1⟩) aO),aZ (φ:=fun _=>_) aL (i:=4) rfl (ax (Q3.2 ⟨Y,Q,b1⟩) aW),bq _ 4 _ rfl (ax (Q3.2 ⟨Y,Q, .tail _ b1⟩) aO),aZ (φ:=fun _=>_) aL (i:=4) rfl (ax (Q3.2 ⟨Y,Q, .tail _ b1⟩) aW)⟩) f1 g4 (rfl:s5 bO.abs b.af.ls=s5 bO.abs b.af.ls) (bq _ 3 _ rfl aO) (fun Y Q=>⟨bq _ 5 _ rfl (ax (Q3.2 ⟨Y,Q,b1⟩) aO),aZ (φ:=fun _=>_) aL (i:=5) rfl (ax (Q3.2 ⟨Y,Q,b1⟩) aW),(fun y1 k1=>⟨bq _ 5 _ rfl (ax (Q3.2 ⟨Y,Q, .tail _ b1⟩) (ax (Q3.2 ⟨y1,k1,b1⟩) aO)),aZ (φ:=fun _=>_) aL (i:=5) rfl (ax (Q3.2 ⟨Y,Q, .tail _ b1⟩) (ax (Q3.2 ⟨y1,k1,b1⟩) aW))⟩)⟩) f1 g4 (by first | assumption | omega) bN) ?_
 rintro _ uV ⟨J,K,aG,rfl,j4,N⟩
 have iK:=j3 _ _ j4
 have sN:=aB N
 have sO:=iK.rowC (i:=0) rfl
 have j5:nI n:=yA bN R.ops.1 R.ops.2 R.Cs
 have sP:n.length≤1000:=j5.1
 refine Mz rfl (Kz (.slice J n.length K) (Kz (vI dB) (Az rfl (An rfl (Ic (sr (Mz rfl (fw (.bool (decide (¬ (dB=0)))) (IG (e:= !(decide (dB=0))) yk decide_not.symm) (nt ?_)))))))))
 by_cases dD:dB=0
 refine jF (dF (Lh dD)) (sk (Ic ?_))
 have oL:=iK.pf [10,13]
 refine qy [17] (Iu IC) oL ?_
 intro uW oM
 have oN:=oM.pf [4,5,6,7,8,9,10]
 have dE:=rH (f:=bB.own) u oN
 have sQ:b.bV.ls.length≤b.bV.c∧b.bV.ls.length≤9223372036854775807:=aZ dE (i:=0) rfl (φ:=fun _=>_) (ax (Q3.2 ⟨b,D3 u,b1⟩) aW)
 have sS:b.aG.ls.length≤b.aG.c∧b.aG.ls.length≤9223372036854775807:=aZ dE (i:=0) rfl (φ:=fun _=>_) (ax (Q3.2 ⟨b,D3 u, .tail _ b1⟩) aW)
 have sU:b.bD.ls.length≤b.bD.c∧b.bD.ls.length≤9223372036854775807:=aZ dE (i:=0) rfl (φ:=fun _=>_) (ax (Q3.2 ⟨b,D3 u, .tail _ b2⟩) aW)
 have sV:b.af.ls.length≤b.af.c∧b.af.ls.length≤9223372036854775807:=aZ dE (i:=0) rfl (φ:=fun _=>_) (ax (Q3.2 ⟨b,D3 u, .tail _ b3⟩) aW)
 refine qv 0 rfl rfl (qp Z 0 1 rfl (qp Z 0 2 rfl (ql 3 rfl 0 P3 rfl rfl rfl (qv 4 rfl rfl (qp Z 0 5 rfl (qp Z 0 6 rfl (ql 7 rfl 0 P3 rfl rfl rfl (qp d 0 8 rfl (qp d 8 9 rfl (ql 10 rfl 1 Tryz.isAgg79 rfl rfl rfl (qv 11 rfl rfl (qv 12 rfl rfl (qt (v:=vI (O+1)) 13 rfl (fun _ _=>Ie (e:=C5.wrap (O+1)) yk g2) ?_)))))))))))))
 have oO:=dE.pf [12]
 obtain⟨uX,j6,sW,kg,sZ⟩:=IJ oO
 refine qd 14 rfl (Iz Tryz.call105 rfl (vH _ _ W a.ay.ls.length aM r a.ay.ls O (O+1) (D0 O) b j6 e6 I e6 e6 e6 u) ?_)
 rintro _ uY ⟨dG,dH,rfl,ko⟩
 have dI:=kg _ _ ko
 have tq:r8 (q7 (D0 O) r++r3 ((D0 O)+1) r)=r8 (q7 (D0 O) a.ay.ls++r3 ((D0 O)+1) a.ay.ls):=by exact aB (qc I)
 have tu:r8 (q7 (D0 O) a.ay.ls++r3 ((D0 O)+1) a.ay.ls)+1=a.ay.ls.length:=by simp only [o1,m9,o0]; omega
 have tC:b.aG.ls.length=r8 (s5 bG.abs b.aG.ls):=by exact(s3 _).symm
 have tF:b.af.ls.length=r8 (s5 bO.abs b.af.ls):=by exact(s3 _).symm
 have tH:=dI.rowC (i:=2) rfl
 have tJ:=dI.rowC (i:=3) rfl
 have tK:=dI.rowC (i:=4) rfl
 have tL:=dI.rowC (i:=5) rfl
 have ku:=dI.pf [8,9]
 refine⟨.inr ⟨_,ku⟩, ?_⟩
 refine qp d 0 15 rfl (qp d 8 16 rfl ?_)
 have oP:=ku.pf [1]
 refine qe 17 rfl (Do.store (vs:= [.slice dG (r8 (q7 (D0 O) a.ay.ls++r3 ((D0 O)+1) a.ay.ls)) dH]) (o:=8) oP rfl rfl Tryz.sizeOf79 rfl rfl rfl rfl ?_)
 intro tN kv
 refine⟨.inl e7, ?_⟩
 refine qn (Ig (Ic ?_))
 have bD:b.aG.ls.length=r8 (s5 bG.abs b.aG.ls):=by first | omega | (simp only [H1]; done) | (simp only [H1,o1,s0,F2,m9,o0,H2]; omega)
 have kw:=kv.pf [5]
 have ky:=I4 bD kw
 have kz:=ky.pf [12]
 have kC:=Jh 5 bD kz
 have kD:=kC.pf [2,3,4,5,6,1,7,8,9,10,11,12]
 have bE:b.af.ls.length=r8 (s5 bO.abs b.af.ls):=by first | omega | (simp only [H1]; done) | (simp only [H1,o1,s0,F2,m9,o0,H2]; omega)
 have kE:=kD.pf [7]
 have kF:=I4 bE kE
 have kG:=kF.pf [12]
 have kH:=Jh 7 bE kG
 have kI:=kH.pf [2,3,4,5,6,7,8,1,9,10,11,12]
 refine qy [] (Iu IC) kI ?_
 intro tO kJ
 refine qp X 0 0 rfl ?_
 have gz:=kJ.pf [0,1,12]
 refine BP gz (ql 1 rfl 2 D4 rfl rfl rfl (qp X 1 2 rfl (ql 3 rfl 2 C4 rfl rfl rfl (qv 4 rfl rfl (qp Z 0 5 rfl (qp Z 0 6 rfl (ql 7 rfl 1 P3 rfl rfl rfl (qp d 0 8 rfl (qp d 0 9 rfl (qp d 1 10 rfl (ql 11 rfl 0 D4 rfl rfl rfl (qp X 2 12 rfl (ql 13 rfl 2 D4 rfl rfl rfl ?_)))))))))))))
 obtain⟨h,bF⟩:∃ q,jM (dK.mk b.aR b.aM b.aS b.dh (E2 b.bV.ls) (E2 (s5 bG.abs b.aG.ls)) (E2 b.bD.ls) (E2 (s5 bO.abs b.af.ls)) b.eO)=q:=⟨_,rfl⟩
 have oQ:h.length≤5:=by have q9:=yC bF; simp only [s3] at q9; omega
 refine Eu ⟨14,_,_,_,_,_,Option Addr × Nat,fun g9=> .slice g9.1 h.length g9.2,fun _=>True,fun g9=> [row g9.1 h.length g9.2 (q3 (eI .i64) h) 3 1]⟩ ⟨16,_,_,_,_,_,Nat,fun g9=>vP g9 0,fun _=>True,fun g9=> [blk g9 [.int .u64 0,vI 0, .int .u64 0, .int .u64 0, .slice none 0 0] 60]⟩ 15 3 gz ⟨⟨rfl,rfl,rfl, ?_⟩,⟨rfl,rfl,rfl, ?_⟩,trivial⟩ rfl ?_
 intro tQ L' kK
 refine(IY (cs:= [.int .u64 0,vI 0, .int .u64 0, .int .u64 0, .slice none 0 0]) (t:=60) kK rfl rfl (fun _=>by kernel_rfl) ?_)
 intro bP tT kL
 exact⟨bP,rfl,trivial,kL⟩
 intro tV L' kM
 have aH:=kM.pf [3]
 have oU:=aH.rowC (i:=6) rfl
 have oV:=aH.rowC (i:=7) rfl
 have oW:=aH.rowC (i:=8) rfl
 have oZ:=aH.rowC (i:=9) rfl
 obtain⟨tX,iL,o5,iM,S⟩:=II aH
 refine(Iz Tryz.call107 rfl (rD _ _ X (dK.mk b.aR b.aM b.aS b.dh (E2 b.bV.ls) (E2 (s5 bG.abs b.aG.ls)) (E2 b.bD.ls) (E2 (s5 bO.abs b.af.ls)) b.eO) b.bV.A b.bV.c b.aG.A b.aG.c b.aG.ls b.bD.A b.bD.c b.af.A b.af.c b.af.ls h iL (S _ 5 _ rfl aO) (show b.bV.ls.length≤b.bV.c∧b.bV.ls.length≤9223372036854775807 from by omega) (rfl:s5 bG.abs b.aG.ls=s5 bG.abs b.aG.ls) (S _ 6 _ rfl aO) (show r8 (s5 bG.abs b.aG.ls)≤b.aG.c∧r8 (s5 bG.abs b.aG.ls)≤9223372036854775807 from by omega) (fun Y Q=>⟨S _ 9 _ rfl (ax (Q3.2 ⟨Y,Q,b1⟩) aO),aZ (φ:=fun _=>_) aH (i:=10) rfl (ax (Q3.2 ⟨Y,Q,b1⟩) aW),S _ 9 _ rfl (ax (Q3.2 ⟨Y,Q, .tail _ b1⟩) aO),aZ (φ:=fun _=>_) aH (i:=10) rfl (ax (Q3.2 ⟨Y,Q, .tail _ b1⟩) aW)⟩) (S _ 7 _ rfl aO) (show b.bD.ls.length≤b.bD.c∧b.bD.ls.length≤9223372036854775807 from by omega) (rfl:s5 bO.abs b.af.ls=s5 bO.abs b.af.ls) (S _ 8 _ rfl aO) (show r8 (s5 bO.abs b.af.ls)≤b.af.c∧r8 (s5 bO.abs b.af.ls)≤9223372036854775807 from by omega) (fun Y Q=>⟨S _ 10 _ rfl (ax (Q3.2 ⟨Y,Q,b1⟩) aO),aZ (φ:=fun _=>_) aH (i:=11) rfl (ax (Q3.2 ⟨Y,Q,b1⟩) aW),(fun y1 k1=>⟨S _ 10 _ rfl (ax (Q3.2 ⟨Y,Q, .tail _ b1⟩) (ax (Q3.2 ⟨y1,k1,b1⟩) aO)),aZ (φ:=fun _=>_) aH (i:=11) rfl (ax (Q3.2 ⟨Y,Q, .tail _ b1⟩) (ax (Q3.2 ⟨y1,k1,b1⟩) aW))⟩)⟩) e8 bF) ?_)
 rintro _ tY ⟨L,M,rfl,iO⟩
 have kN:=iM _ _ iO
 have kP:=kN.pf [0,2,3,4]
 exact⟨(L,M),rfl,trivial,kP⟩
 rintro ⟨L,M⟩ _
 refine⟨.agg #[vU b.aR,vI b.aM,vU a.aa.av,vU b.aS, .slice L h.length M],fun _=>yk, ?_⟩
 rintro bP _
 intro kQ kR
 have gB:Own w D kQ (blk bP [.int .u64 0,vI 0, .int .u64 0, .int .u64 0, .slice none 0 0] 60::row L h.length M (q3 (eI .i64) h) 3 1::_):=kR.flat.pf []
 have o6:=gB.rowC (i:=1) rfl
 have kS:=gB.pf [2,3,4]
 have kT:=kS.pf [3]
 refine qe 17 rfl (Do.store (vs:= [vU b.aR,vI b.aM,vU a.aa.av,vU b.aS, .slice L h.length M]) (o:=0) kT rfl rfl Tryz.sizeOf60 rfl rfl rfl rfl ?_)
 intro tZ kU
 have gD:=kU.pf [1,2,3]
 refine⟨.inr ⟨_,gD⟩, ?_⟩
 refine qn (Ig (Ic ?_))
 have kW:=gD.pf [1,2,3,4,7,8,9,10,11,12,13,14,15,16]
 refine pU 14 [] (Iu IC) kW ?_
 intro uf dJ
 refine qv 0 rfl rfl (qp Z 0 1 rfl (qp Z 0 2 rfl (ql 3 rfl 0 P3 rfl rfl rfl (qp X 0 4 rfl (ql 5 rfl 1 D4 rfl rfl rfl ?_)))))
 refine GX.do 6 rfl e7 (Iz Tryz.call95 rfl ?_ (fun _ _ k=>k))
 refine cb Tryz.func95 ?_
 refine sr (Az rfl (Ar rfl (Mz rfl (Kz (vP d 0) (Kz (vP d 0) (Kz (vP d 5) (Lz (.slice U a.aa.aj.ls.length V) dJ 14 Tryz.isAgg30 (Mz rfl ?_))))))))
 obtain⟨⟨j,bZ⟩,bU⟩:∃ q:Int × Bool,bM a.aa.aj.ls b.aR=q:=⟨_,rfl⟩
 obtain⟨ug,iP,o8,iQ,dL⟩:=Ii dJ
 refine cl Tryz.call132 (iJ _ _ U a.aa.aj.ls.length V p a.aa.aj.ls b.aR j bZ iP G (dL _ 17 _ rfl aO) (fun Y Q=>⟨dL _ 18 _ rfl (ax (Q3.2 ⟨Y,Q,b1⟩) aO),aZ (φ:=fun _=>_) dJ (i:=18) rfl (ax (Q3.2 ⟨Y,Q,b1⟩) aW)⟩) rfl e6 bU) ?_
 rintro _ uh ⟨rfl,iR,dM,dO⟩
 have gF:=iQ _ _ iR
 replace dM:0≤j∧j≤((a.aa.aj.ls.length:Nat):Int):=dM
 replace dO:Bool.toNat bZ=0∨j < ((a.aa.aj.ls.length:Nat):Int):=dO
 refine Kz (vI j) (Kz (.bool bZ) (Az rfl (An rfl (rt (Fin.res (lW rfl rfl rfl) ?_)))))
 refine⟨.inr ⟨_,gF⟩, ?_⟩
 refine qv 7 rfl rfl (qk (vI j) 8 rfl (qk (.bool bZ) 9 rfl (qa 10 rfl rfl (qa 11 rfl rfl (qn (Ig (Ic ?_)))))))
 have kX:=gF.pf [0,14]
 refine qy [19] (Iu IC) kX ?_
 intro ui kY
 refine qv 0 rfl rfl (qp Z 0 1 rfl (qp Z 0 2 rfl (ql 3 rfl 0 P3 rfl rfl rfl (qv 4 rfl rfl (qp Z 0 5 rfl (qp Z 0 6 rfl (ql 7 rfl 0 P3 rfl rfl rfl (qp d 0 8 rfl (qp d 0 9 rfl (qp d 5 10 rfl (ql 11 rfl 1 Tryz.isAgg30 rfl rfl rfl (qv 12 rfl rfl ?_))))))))))))
 have gG:=kY.pf [0,1,3]
 refine BP gG (qb 13 rfl 2 Tryz.isAgg60 Tryz.sizeOf60 rfl rfl rfl ?_)
 refine qd 14 rfl (JM (cs:= [vU b.aR,vI b.aM,vU a.aa.av,vU b.aS, .slice L h.length M]) (t:=60) (sz:=5) (m:=1) gG rfl rfl (fun _=>by kernel_rfl) rfl ?_)
 intro gH uj dP
 replace dP:=IL (y:=qV gH 1 (q3 aC.cells ([(aC.mk b.aR b.aM a.aa.av b.aS (H0 L M h))])) 60 5) rfl dP
 have gI:=dP.pf [1,2,3]
 refine⟨.inr ⟨_,gI⟩, ?_⟩
 have kZ:=gI.pf [18,3,19,5]
 obtain⟨uk,iT,o9,iU,pg⟩:=I5 kZ
 refine qd 15 rfl (Iz Tryz.call130 rfl (wo _ _ U a.aa.aj.ls.length V p a.aa.aj.ls j (D0 j) gH (aC.mk b.aR b.aM a.aa.av b.aS (H0 L M h)) (bH.mk b.aR b.aM a.aa.av b.aS (E2 h)) iT e6 G rfl e6 e6 e6) ?_)
 rintro _ ul ⟨bQ,bR,rfl,iV⟩
 have lc:=iU _ _ iV
 have pq:r8 (q7 (D0 j) p++((aC.mk b.aR b.aM a.aa.av b.aS (H0 L M h))::r3 (D0 j) p))=r8 (q7 (D0 j) a.aa.aj.ls++((bH.mk b.aR b.aM a.aa.av b.aS (E2 h))::r3 (D0 j) a.aa.aj.ls)):=by exact aB (rO (z:=(bH.mk b.aR b.aM a.aa.av b.aS (E2 h))) G rfl)
 have pu:r8 (q7 (D0 j) a.aa.aj.ls++((bH.mk b.aR b.aM a.aa.av b.aS (E2 h))::r3 (D0 j) a.aa.aj.ls))=a.aa.aj.ls.length+1:=by simp only [o1,m9,s0,o0]; omega
 have gJ:=lc.pf [2,3,4]
 refine⟨.inr ⟨_,gJ⟩, ?_⟩
 refine qp d 0 16 rfl (qp d 0 17 rfl (qp d 5 18 rfl ?_))
 have lg:=gJ.pf [1]
 refine qe 19 rfl (Do.store (vs:= [.slice bQ (r8 (q7 (D0 j) a.aa.aj.ls++((bH.mk b.aR b.aM a.aa.av b.aS (E2 h))::r3 (D0 j) a.aa.aj.ls))) bR]) (o:=5) lg rfl rfl Tryz.sizeOf30 rfl rfl rfl rfl ?_)
 intro um lh
 refine⟨.inl e7, ?_⟩
 refine qn (Ig (Ic ?_))
 refine qy [15] (Iu IC) lh ?_
 intro uo ll
 refine qv 0 rfl rfl (qp X 1 1 rfl ?_)
 have gK:=ll.pf [0,1,5]
 refine BP gK (ql 2 rfl 2 C4 rfl rfl rfl (qv 3 rfl rfl (qp Z 0 4 rfl (qp Z 0 5 rfl (ql 6 rfl 1 P3 rfl rfl rfl (qp d 0 7 rfl (qp d 0 8 rfl (qp d 1 9 rfl (ql 10 rfl 0 D4 rfl rfl rfl (qp X 2 11 rfl (ql 12 rfl 2 D4 rfl rfl rfl (qv 13 rfl rfl (qk (.agg #[vI b.aM,vU a.aa.av,vU b.aS, .slice J n.length K]) 14 rfl ?_)))))))))))))
 refine GX.do 15 rfl e7 (Iz Tryz.call131 rfl ?_ (fun _ _ k=>k))
 refine cb Tryz.func131 ?_
 refine sr ?_
 refine dV [vI b.aM,vU a.aa.av,vU b.aS, .slice J n.length K] 56 gK ?_
 intro lm uq lq
 refine nt (Ic ?_)
 refine pU 31 [] (Iu IC) lq ?_
 intro ut dQ
 refine qv 0 rfl rfl (qp Z 0 1 rfl (qp Z 0 2 rfl (ql 3 rfl 2 P3 rfl rfl rfl (qp d 0 4 rfl (qp d 0 5 rfl (qp d 6 6 rfl (ql 7 rfl 1 H3 rfl rfl rfl (qp lm 0 8 rfl (ql 9 rfl 0 C4 rfl rfl rfl ?_)))))))))
 obtain⟨⟨g,bA⟩,bV⟩:∃ q:Int × Bool,fH a.aa.aF.ls b.aM=q:=⟨_,rfl⟩
 obtain⟨uu,iX,pz,iY,bW⟩:=Ii dQ
 refine qd 10 rfl (Iz Tryz.call152 rfl (nM _ _ B a.aa.aF.ls.length P l a.aa.aF.ls b.aM g bA iX s (bW _ 19 _ rfl aO) (fun Y Q=>⟨bW _ 20 _ rfl (ax (Q3.2 ⟨Y,Q,b1⟩) aO),aZ (φ:=fun _=>_) dQ (i:=20) rfl (ax (Q3.2 ⟨Y,Q,b1⟩) aW),(fun y1 k1=>⟨bW _ 20 _ rfl (ax (Q3.2 ⟨Y,Q, .tail _ b1⟩) (ax (Q3.2 ⟨y1,k1,b1⟩) aO)),aZ (φ:=fun _=>_) dQ (i:=20) rfl (ax (Q3.2 ⟨Y,Q, .tail _ b1⟩) (ax (Q3.2 ⟨y1,k1,b1⟩) aW))⟩)⟩) rfl e6 bV) ?_)
 rintro _ uw ⟨rfl,iZ,dR,dU⟩
 have dW:=iY _ _ iZ
 replace dR:0≤g∧g≤((a.aa.aF.ls.length:Nat):Int):=dR
 replace dU:Bool.toNat bA=0∨g < ((a.aa.aF.ls.length:Nat):Int):=dU
 refine⟨.inr ⟨_,dW⟩, ?_⟩
 refine qv 11 rfl rfl (qk (vI g) 12 rfl (qk (.bool bA) 13 rfl (qa 14 rfl rfl (qa 15 rfl rfl (qn (Ig (Ic (sr (Mn rfl ?_)))))))))
 rcases Li (bA) with bu | bu
 have h217t:Bool.toNat bA=1:=by rw [bu]; rfl
 refine jT bu (Ic ?_)
 have lu:=dW.pf [1,2]
 refine qy [11] (Iu (Iu IC)) lu ?_
 intro uy gL
 refine qv 0 rfl rfl (qp Z 0 1 rfl (qp Z 0 2 rfl (ql 3 rfl 1 P3 rfl rfl rfl (qp d 0 4 rfl (qp d 0 5 rfl (qp d 6 6 rfl (ql 7 rfl 0 H3 rfl rfl rfl (qt (v:=vJ (D0 g)) 8 rfl (fun _ _=>Ie (e:=g) (Iq rfl) e6) (BP gL (qb 9 rfl 2 Q4 P2 rfl rfl rfl ?_))))))))))
 have gM:=gL.pf [0,1,2,19]
 refine Hr gM ?_
 obtain⟨bv,T⟩:=jN (ls:=l) (i:=D0 g) e9
 have pE:=fF s T
 refine qt (v:= .pointer (some ⟨ab B,ao B+(D0 g) *4,none⟩)) 10 rfl (fun _ ⟨_,H9⟩=>Ij (l6) rfl rfl ((H9.rds (i:=3) rfl).addr (i:=D0 g) e6) e6) ?_
 have lv:=gM.pf [20]
 have lw:=JU (f:=aU.own) (i:=D0 g) (row bv.ai.A bv.ai.ls.length bv.ai.c (q3 ae.cells bv.ai.ls) 149 3) (sepL (q3 ae.own bv.ai.ls)) rfl T lv
 have lC:=lw.px [] [0,1] []
 have lD:=lC.pf [15,16]
 have lF:=I4 (aB N).symm lD
 have lG:=I7 (f:=aU.own) (y:=(aU.mk b.aM a.aa.av b.aS (H0 J K aG))) T lF
 have lH:=lG.pf [4]
 refine qe 11 rfl (Do.storeRow (vs:= [vI b.aM,vU a.aa.av,vU b.aS, .slice J n.length K]) (o:=(D0 g) *4+0) (q:=ao B+(D0 g) *4) lH rfl e6 rfl P2 rfl rfl (Le rfl) (je aU.len T (Le rfl)) (jV (x:=bv) (f:=0) (vs:= [vI b.aM,vU a.aa.av,vU b.aS, .slice J n.length K]) (y:=(aU.mk b.aM a.aa.av b.aS (H0 J K aG))) aU.len (show put (aU.cells bv) 0 ([vI b.aM,vU a.aa.av,vU b.aS, .slice J n.length K]:List Value)=aU.cells (aU.mk b.aM a.aa.av b.aS (H0 J K aG)) from congrArg (fun z9=>([vI b.aM,vU a.aa.av,vU b.aS, .slice J z9 K]:List Value)) (aB N).symm) (Le rfl) T) ?_)
 intro uz lI
 have pF:r8 (u2 l (D0 g) (aU.mk b.aM a.aa.av b.aS (H0 J K aG)))=r8 (u2 a.aa.aF.ls (D0 g) (eD.mk b.aM a.aa.av b.aS (E2 n))):=aB (iW s (congrArg (fun z9=>eD.mk b.aM a.aa.av b.aS (E2 z9)) N))
 have pG:r8 (u2 a.aa.aF.ls (D0 g) (eD.mk b.aM a.aa.av b.aS (E2 n)))=a.aa.aF.ls.length:=H1
 refine⟨.inl e7, ?_⟩
 refine qn (Ig (rt (tR (Fin.res (res0 rfl) ?_))))
 refine⟨.inl e7, ?_⟩
 refine qn (Ig (Ic ?_))
 have dX:=lI.px [] [4] []
 refine Ib (Mz rfl (Kz (vP X 1) (Lz (vI b.aM) dX 4 C4 (Kz (vP X 2) (Lz (vU b.aS) dX 4 D4 (Mz rfl ?_))))))
 have bX:a.aa.aF.ls.length=r8 (u2 a.aa.aF.ls (D0 g) (eD.mk b.aM a.aa.av b.aS (E2 n))):=by first | omega | (simp only [H1]; done) | (simp only [H1,o1,s0,F2,m9,o0,H2]; omega)
 have lJ:=I4 bX dX
 have lK:=lJ.pf [2]
 have lL:=Jh 6 bX lK
 have lN:=lL.pf [1,2]
 have gN:=lN.pf [3,14,15,2,18,19,20,21,22,23,24,25,26,27]
 obtain⟨⟨cu,E⟩,dY⟩:∃ q:bI × aA,dC p0 b.aM b.aS 1 n (aA.mk (cZ.mk a.aa.au a.aa.av a.aa.aV a.aa.aL (E2 a.aa.ag.ls) (E2 (q7 (D0 j) a.aa.aj.ls++((bH.mk b.aR b.aM a.aa.av b.aS (E2 h))::r3 (D0 j) a.aa.aj.ls))) (E2 (u2 a.aa.aF.ls (D0 g) (eD.mk b.aM a.aa.av b.aS (E2 n))))) a.bP (E2 (q7 (D0 O) a.ay.ls++r3 ((D0 O)+1) a.ay.ls)) a.bK a.bA a.bz a.bv a.bq a.dP a.dH a.dI a.dG a.dJ)=q:=⟨_,rfl⟩
 obtain⟨uA,ja,pI,jb,ed⟩:=Ja gN
 refine cl Tryz.call106 (kr _ _ Z p0 bK bL bz b.aM b.aS 1 J n.length K aG n d (aA.mk (cZ.mk a.aa.au a.aa.av a.aa.aV a.aa.aL (E2 a.aa.ag.ls) (E2 (q7 (D0 j) a.aa.aj.ls++((bH.mk b.aR b.aM a.aa.av b.aS (E2 h))::r3 (D0 j) a.aa.aj.ls))) (E2 (u2 a.aa.aF.ls (D0 g) (eD.mk b.aM a.aa.av b.aS (E2 n))))) a.bP (E2 (q7 (D0 O) a.ay.ls++r3 ((D0 O)+1) a.ay.ls)) a.bK a.bA a.bz a.bv a.bq a.dP a.dH a.dI a.dG a.dJ) aa af bQ bR B P dG dH aN aP ag aR aS ai aT aV aj aX aY ak bg bn au cu E ja bC N (ed _ 1 _ rfl (ax (Q3.2 ⟨_,(xB (aU.mk b.aM a.aa.av b.aS (H0 J K aG)) T),b1⟩) (fun w9 Q a9 b9=>qg (aB N) (aO w9 Q a9 b9)))) (fun Y Q=>⟨ed _ 1 _ rfl (ax (Q3.2 ⟨_,(xB (aU.mk b.aM a.aa.av b.aS (H0 J K aG)) T), .tail _ b1⟩) (ax (Q3.2 ⟨Y,Q,b1⟩) aO)),aZ (φ:=fun _=>_) gN (i:=15) rfl (ax (Q3.2 ⟨_,(xB (aU.mk b.aM a.aa.av b.aS (H0 J K aG)) T), .tail _ b1⟩) (ax (Q3.2 ⟨Y,Q,b1⟩) aW))⟩) rfl e6 g6 av ay az aD aF e8 g3 g3 i2 dY) ?_
 rintro _ uB ⟨lQ,lS,lT,lU,lV,lX,lY,lZ,l5,l7,l8,l9,ma,mf,mg,mh,mi,mo,rfl,jc,ek,eu,eB,eF,eG,eH,eO⟩
 have aI:=jb _ _ jc
 have pO:=aB ek
 have pQ:=aB eu
 have pR:=aB eB
 have pV:=aB eF
 have pW:=aB eG
 have pX:=aB eH
 have pY:=aI.rowC (i:=1) rfl
 have p8:=aI.rowC (i:=4) rfl
 have p9:=aI.rowC (i:=6) rfl
 have qf:=aI.rowC (i:=8) rfl
 have qi:=aI.rowC (i:=10) rfl
 have qj:=aI.rowC (i:=12) rfl
 replace eO:cu.aX.ls.length=p0.aX.ls.length+1:=eO
 refine nt (Ib (Mz rfl (Kz (vP X 0) (Lz (vU b.aR) aI 16 D4 (Kz (vP bP 4) (Lz (.slice L h.length M) aI 17 Tryz.isAgg58 ?_))))))
 obtain⟨gP,eP⟩:∃ q,dZ cu b.aR h true=q:=⟨_,rfl⟩
 obtain⟨uC,jd,qm,jf,jg⟩:=IU aI
 refine cl Tryz.call27 (kV _ _ Z cu lQ lS lT d b.aR L h.length M h true gP jd ek (jg _ 16 _ rfl (ax (Q3.2 ⟨_,v2 _ b1,b1⟩) aO)) rfl e6 g7 eP) ?_
 rintro _ uD ⟨mq,mr,mD,rfl,jh,eQ⟩
 have gQ:=jf _ _ jh
 have qo:=aB eQ
 have qw:=gQ.rowC (i:=1) rfl
 refine WL.nil (IA (res0 rfl) ?_)
 have mF:=gQ.pk [0,1,2,3,18,19,14,15,26,27,4,5,6,7,8,9,10,11,12,13]
 obtain⟨rfl,rfl⟩:=ic (hr.symm.trans (show _=(gP,aA.mk (cZ.mk E.aa.au E.aa.av E.aa.aV E.aa.aL (E2 a.aa.ag.ls) (E2 (q7 (D0 j) a.aa.aj.ls++((bH.mk b.aR b.aM a.aa.av b.aS (E2 h))::r3 (D0 j) a.aa.aj.ls))) (E2 (u2 a.aa.aF.ls (D0 g) (eD.mk b.aM a.aa.av b.aS (E2 n))))) E.bP (E2 (q7 (D0 O) a.ay.ls++r3 ((D0 O)+1) a.ay.ls)) E.bK E.bA E.bz E.bv E.bq E.dP E.dH E.dI E.dG E.dJ) from et (ah (bJ bY)) (et (ah bN) (et (ip dD) (et (ah bF) (et (ah bU) (et (ah bV) (et (ip bu) (et (ah dY) (ah eP))))))))))
 exact⟨mq,mr,mD,bQ,bR,(q7 (D0 j) p++((aC.mk b.aR b.aM a.aa.av b.aS (H0 L M h))::r3 (D0 j) p)),B,P,(u2 l (D0 g) (aU.mk b.aM a.aa.av b.aS (H0 J K aG))),dG,dH,(q7 (D0 O) r++r3 ((D0 O)+1) r),lU,lV,lX,lY,lZ,l5,l7,l8,l9,ma,mf,mg,mh,mi,mo,(by(first | rw [← bD] | skip); (first | rw [← bE] | skip); (first | rw [← bX] | skip); first | done | rfl),mF,eQ,(rO (z:=(bH.mk b.aR b.aM a.aa.av b.aS (E2 h))) G rfl),(iW s (congrArg (fun z9=>eD.mk b.aM a.aa.av b.aS (E2 z9)) N)),(qc I),eu,eB,eF,eG,eH⟩
 have h217t:Bool.toNat bA=0:=by rw [bu]; rfl
 refine jF bu (sk ?_)
 have mG:=dW.pf [1,2]
 refine qy [19] IC mG ?_
 intro uE gT
 refine qv 0 rfl rfl (qp Z 0 1 rfl (qp Z 0 2 rfl (ql 3 rfl 1 P3 rfl rfl rfl (qv 4 rfl rfl (qp Z 0 5 rfl (qp Z 0 6 rfl (ql 7 rfl 1 P3 rfl rfl rfl (qp d 0 8 rfl (qp d 0 9 rfl (qp d 6 10 rfl (ql 11 rfl 0 H3 rfl rfl rfl (qv 12 rfl rfl (BP gT (qb 13 rfl 2 Q4 P2 rfl rfl rfl ?_))))))))))))))
 refine qd 14 rfl (JM (cs:= [vI b.aM,vU a.aa.av,vU b.aS, .slice J n.length K]) (t:=56) (sz:=4) (m:=1) gT rfl rfl (fun _=>by kernel_rfl) rfl ?_)
 intro eT uF eU
 replace eU:=IL (y:=qV eT 1 (q3 aU.cells ([(aU.mk b.aM a.aa.av b.aS (H0 J K aG))])) 56 4) (congrArg (fun z9=>qV eT 1 [vI b.aM,vU a.aa.av,vU b.aS, .slice J z9 K] 56 4) (aB N).symm) eU
 have gU:=eU.pf [1,2,3]
 refine⟨.inr ⟨_,gU⟩, ?_⟩
 have mH:=gU.pf [14]
 have mI:=I4 (aB N).symm mH
 have mJ:=mI.pf [20,4,21,0,15]
 obtain⟨uG,ji,qx,jk,qz⟩:=Kq mJ
 refine qd 15 rfl (Iz Tryz.call155 rfl (yR _ _ B a.aa.aF.ls.length P l a.aa.aF.ls g (D0 g) eT (aU.mk b.aM a.aa.av b.aS (H0 J K aG)) (eD.mk b.aM a.aa.av b.aS (E2 n)) ji e6 s (Q5.inj (congrArg (fun z9=> [eD.mk b.aM a.aa.av b.aS (E2 z9)]) N)).1 e6 e6 e6) ?_)
 rintro _ uH ⟨eX,eY,rfl,jl⟩
 have mK:=jk _ _ jl
 have qA:r8 (q7 (D0 g) l++((aU.mk b.aM a.aa.av b.aS (H0 J K aG))::r3 (D0 g) l))=r8 (q7 (D0 g) a.aa.aF.ls++((eD.mk b.aM a.aa.av b.aS (E2 n))::r3 (D0 g) a.aa.aF.ls)):=by exact aB (rO (z:=(eD.mk b.aM a.aa.av b.aS (E2 n))) s (Q5.inj (congrArg (fun z9=> [eD.mk b.aM a.aa.av b.aS (E2 z9)]) N)).1)
 have qB:r8 (q7 (D0 g) a.aa.aF.ls++((eD.mk b.aM a.aa.av b.aS (E2 n))::r3 (D0 g) a.aa.aF.ls))=a.aa.aF.ls.length+1:=by simp only [o1,m9,s0,o0]; omega
 have gV:=mK.pf [2,3,4]
 refine⟨.inr ⟨_,gV⟩, ?_⟩
 refine qp d 0 16 rfl (qp d 0 17 rfl (qp d 6 18 rfl ?_))
 refine qe 19 rfl (Do.store (vs:= [.slice eX (r8 (q7 (D0 g) a.aa.aF.ls++((eD.mk b.aM a.aa.av b.aS (E2 n))::r3 (D0 g) a.aa.aF.ls))) eY]) (o:=6) gV rfl rfl Tryz.sizeOf31 rfl rfl rfl rfl ?_)
 intro uI mM
 refine⟨.inl e7, ?_⟩
 refine qn (IA (res0 rfl) ?_)
 refine⟨.inl e7, ?_⟩
 refine qn (Ig (Ic ?_))
 have eZ:=mM.px [] [2] []
 refine Ib (Mz rfl (Kz (vP X 1) (Lz (vI b.aM) eZ 4 C4 (Kz (vP X 2) (Lz (vU b.aS) eZ 4 D4 (Mz rfl ?_))))))
 have gW:=eZ.pf [1,14,15,0,18,19,20,21,22,23,24,25,26,27]
 obtain⟨⟨cz,F⟩,fe⟩:∃ q:bI × aA,dC p0 b.aM b.aS 1 n (aA.mk (cZ.mk a.aa.au a.aa.av a.aa.aV a.aa.aL (E2 a.aa.ag.ls) (E2 (q7 (D0 j) a.aa.aj.ls++((bH.mk b.aR b.aM a.aa.av b.aS (E2 h))::r3 (D0 j) a.aa.aj.ls))) (E2 (q7 (D0 g) a.aa.aF.ls++((eD.mk b.aM a.aa.av b.aS (E2 n))::r3 (D0 g) a.aa.aF.ls)))) a.bP (E2 (q7 (D0 O) a.ay.ls++r3 ((D0 O)+1) a.ay.ls)) a.bK a.bA a.bz a.bv a.bq a.dP a.dH a.dI a.dG a.dJ)=q:=⟨_,rfl⟩
 obtain⟨uJ,jm,qC,jo,fo⟩:=Ja gW
 refine cl Tryz.call106 (kr _ _ Z p0 bK bL bz b.aM b.aS 1 J n.length K aG n d (aA.mk (cZ.mk a.aa.au a.aa.av a.aa.aV a.aa.aL (E2 a.aa.ag.ls) (E2 (q7 (D0 j) a.aa.aj.ls++((bH.mk b.aR b.aM a.aa.av b.aS (E2 h))::r3 (D0 j) a.aa.aj.ls))) (E2 (q7 (D0 g) a.aa.aF.ls++((eD.mk b.aM a.aa.av b.aS (E2 n))::r3 (D0 g) a.aa.aF.ls)))) a.bP (E2 (q7 (D0 O) a.ay.ls++r3 ((D0 O)+1) a.ay.ls)) a.bK a.bA a.bz a.bv a.bq a.dP a.dH a.dI a.dG a.dJ) aa af bQ bR eX eY dG dH aN aP ag aR aS ai aT aV aj aX aY ak bg bn au cz F jm bC N (fo _ 1 _ rfl (ax (Q3.2 ⟨_,v2 _ b1,b1⟩) (fun w9 Q a9 b9=>qg (aB N) (aO w9 Q a9 b9)))) (fun Y Q=>⟨fo _ 1 _ rfl (ax (Q3.2 ⟨_,v2 _ b1, .tail _ b1⟩) (ax (Q3.2 ⟨Y,Q,b1⟩) aO)),aZ (φ:=fun _=>_) gW (i:=15) rfl (ax (Q3.2 ⟨_,v2 _ b1, .tail _ b1⟩) (ax (Q3.2 ⟨Y,Q,b1⟩) aW))⟩) rfl e6 g6 av ay az aD aF e8 g3 g3 i2 fe) ?_
 rintro _ uK ⟨mO,mP,mQ,mR,mU,mV,mW,mY,mZ,ng,ni,nk,nu,ny,nz,nA,nC,nD,rfl,jq,fu,fA,fB,fC,fD,fE,fG⟩
 have aJ:=jo _ _ jq
 have qD:=aB fu
 have qE:=aB fA
 have qF:=aB fB
 have qG:=aB fC
 have qH:=aB fD
 have qI:=aB fE
 have qJ:=aJ.rowC (i:=1) rfl
 have qK:=aJ.rowC (i:=4) rfl
 have qL:=aJ.rowC (i:=6) rfl
 have qM:=aJ.rowC (i:=8) rfl
 have qO:=aJ.rowC (i:=10) rfl
 have qP:=aJ.rowC (i:=12) rfl
 replace fG:cz.aX.ls.length=p0.aX.ls.length+1:=fG
 refine nt (Ib (Mz rfl (Kz (vP X 0) (Lz (vU b.aR) aJ 16 D4 (Kz (vP bP 4) (Lz (.slice L h.length M) aJ 17 Tryz.isAgg58 ?_))))))
 obtain⟨gX,fI⟩:∃ q,dZ cz b.aR h true=q:=⟨_,rfl⟩
 obtain⟨uL,jr,qQ,jv,jw⟩:=IU aJ
 refine cl Tryz.call27 (kV _ _ Z cz mO mP mQ d b.aR L h.length M h true gX jr fu (jw _ 16 _ rfl (ax (Q3.2 ⟨_,v2 _ b1,b1⟩) aO)) rfl e6 g7 fI) ?_
 rintro _ uM ⟨nE,nG,nH,rfl,jy,fJ⟩
 have gY:=jv _ _ jy
 have qR:=aB fJ
 have qU:=gY.rowC (i:=1) rfl
 refine WL.nil (IA (res0 rfl) ?_)
 have nK:=gY.pk [0,1,2,3,18,19,14,15,26,27,4,5,6,7,8,9,10,11,12,13]
 obtain⟨rfl,rfl⟩:=ic (hr.symm.trans (show _=(gX,aA.mk (cZ.mk F.aa.au F.aa.av F.aa.aV F.aa.aL (E2 a.aa.ag.ls) (E2 (q7 (D0 j) a.aa.aj.ls++((bH.mk b.aR b.aM a.aa.av b.aS (E2 h))::r3 (D0 j) a.aa.aj.ls))) (E2 (q7 (D0 g) a.aa.aF.ls++((eD.mk b.aM a.aa.av b.aS (E2 n))::r3 (D0 g) a.aa.aF.ls)))) F.bP (E2 (q7 (D0 O) a.ay.ls++r3 ((D0 O)+1) a.ay.ls)) F.bK F.bA F.bz F.bv F.bq F.dP F.dH F.dI F.dG F.dJ) from et (ah (bJ bY)) (et (ah bN) (et (ip dD) (et (ah bF) (et (ah bU) (et (ah bV) (et (gm bu) (et (ah fe) (ah fI))))))))))
 exact⟨nE,nG,nH,bQ,bR,(q7 (D0 j) p++((aC.mk b.aR b.aM a.aa.av b.aS (H0 L M h))::r3 (D0 j) p)),eX,eY,(q7 (D0 g) l++((aU.mk b.aM a.aa.av b.aS (H0 J K aG))::r3 (D0 g) l)),dG,dH,(q7 (D0 O) r++r3 ((D0 O)+1) r),mR,mU,mV,mW,mY,mZ,ng,ni,nk,nu,ny,nz,nA,nC,nD,(by(first | rw [← bD] | skip); (first | rw [← bE] | skip); first | done | rfl),nK,fJ,(rO (z:=(bH.mk b.aR b.aM a.aa.av b.aS (E2 h))) G rfl),(rO (z:=(eD.mk b.aM a.aa.av b.aS (E2 n))) s (Q5.inj (congrArg (fun z9=> [eD.mk b.aM a.aa.av b.aS (E2 z9)]) N)).1),(qc I),fA,fB,fC,fD,fE⟩
 refine jT (dT dD) (sr ?_)
 have nL:=iK.pf [2,3,4,5,6,7,8]
 have bS:=rH (f:=bB.own) u nL
 have qW:b.bV.ls.length≤b.bV.c∧b.bV.ls.length≤9223372036854775807:=aZ bS (i:=0) rfl (φ:=fun _=>_) (ax (Q3.2 ⟨b,D3 u,b1⟩) aW)
 have qX:b.aG.ls.length≤b.aG.c∧b.aG.ls.length≤9223372036854775807:=aZ bS (i:=0) rfl (φ:=fun _=>_) (ax (Q3.2 ⟨b,D3 u, .tail _ b1⟩) aW)
 have qY:b.bD.ls.length≤b.bD.c∧b.bD.ls.length≤9223372036854775807:=aZ bS (i:=0) rfl (φ:=fun _=>_) (ax (Q3.2 ⟨b,D3 u, .tail _ b2⟩) aW)
 have qZ:b.af.ls.length≤b.af.c∧b.af.ls.length≤9223372036854775807:=aZ bS (i:=0) rfl (φ:=fun _=>_) (ax (Q3.2 ⟨b,D3 u, .tail _ b3⟩) aW)
 refine Mz rfl (Mz rfl ?_)
 have nN:=bS.px [4,5,6,7,12] [] [1,2,3,8,9,10,11]
 obtain⟨⟨gZ,C⟩,fK⟩:∃ q:bI × aA,fq p0 O a=q:=⟨_,rfl⟩
 obtain⟨uN,jA,q8,jB,rf⟩:=Jg nN
 refine cl Tryz.call63 (nP _ _ Z p0 bK bL bz O d a aa af U V B P W aM r aN aP ag aR aS ai aT aV aj aX aY ak bg bn au gZ C jA bC I av ay az aD aF e8 (by first | assumption | exact Mk.act f5 | exact nJ f8 (o7 (x:=bB.abs b) R f5) | exact nJ f8 (qN (x:=bB.abs b) R _)) e8 fK) ?_
 rintro _ uO ⟨nO,nQ,nR,nS,nT,nU,nV,nW,nX,nY,nZ,og,oh,ol,om,oo,oq,ou,ow,oz,oC,rfl,jC,fM,fO,fP,fQ,fT,fU,fV⟩
 have aK:=jB _ _ jC
 have rq:=aB fM
 have ru:=aB fO
 have ry:=aB fP
 have rz:=aB fQ
 have rA:=aB fT
 have rC:=aB fU
 have rE:=aB fV
 have rF:=aK.rowC (i:=1) rfl
 have rG:=aK.rowC (i:=4) rfl
 have rM:=aK.rowC (i:=6) rfl
 have rP:=aK.rowC (i:=8) rfl
 have rQ:=aK.rowC (i:=10) rfl
 have rR:=aK.rowC (i:=12) rfl
 have rT:=aK.rowC (i:=14) rfl
 refine nt (rt (tR (Fin.res (res0 rfl) ?_)))
 have oD:=aK.px [0,1,2,3,19,20,21,22] [16,17,18] []
 obtain⟨rfl,rfl⟩:=ic (hr.symm.trans (show _=(gZ,aA.mk (cZ.mk C.aa.au C.aa.av C.aa.aV C.aa.aL (E2 a.aa.ag.ls) (E2 a.aa.aj.ls) (E2 a.aa.aF.ls)) C.bP (E2 C.ay.ls) C.bK C.bA C.bz C.bv C.bq C.dP C.dH C.dI C.dG C.dJ) from et (ah (bJ bY)) (et (ah bN) (et (iN dD) (ah fK)))))
 exact⟨nO,nQ,nR,U,V,p,B,P,l,nS,nT,nU,nV,nW,nX,nY,nZ,og,oh,ol,om,oo,oq,ou,ow,oz,oC,rfl,oD,fM,G,s,fO,fP,fQ,fT,fU,fV⟩
end Go.Proofs.YtbkagebjhbphaaaGreat
