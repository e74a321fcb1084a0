/-
 coord: a transaction is committed.
-/
import Derived.Test.YtbkagebjhbphaaaGreatCc
import Derived.Test.YtbkagebjhbphaaaGreatCf
namespace Go.Proofs.YtbkagebjhbphaaaGreat
open Int renaming toNat→C6
open IntKind renaming i64→C3
open List renaming cons→Q8,drop→r4,flatMap→q4,getD→B8,length→s0,length_append→o2,length_cons→s1,length_drop→o1,length_map→s3,length_nil→E7,length_replicate→H0,length_set→G4,length_take→o0,map→s5,mem_append_right→u5,mem_flatMap→Q6,mem_of_getElem?→D1,set→I3,take→r3
open Ll renaming mk→E0
open Sv renaming mk→G3
open _root_.Go.Proofs.Tryz renaming isAgg24→P6,isAgg28→D2,isAgg3→C2,isAgg31→H1,isAgg56→Q7,prog→v5,sizeOf56→P5
set_option maxRecDepth 100000
open Go.RowKit
set_option linter.unusedVariables false
set_option linter.unusedSectionVars false
set_option linter.unusedSimpArgs false
def cmp_isNaN_int (a:Int):Bool:=
 false
theorem tQ (w D a c) (H:Own w D w []) (hr:cmp_isNaN_int a=c):
    Calls v5 169 #[vI a] w (dA fun v w'=>v= .bool c∧Own w D w' []):=by
 refine cb Tryz.func169 ?_
 refine sr (Ar rfl (Mz rfl (Mz rfl (fw (.bool false) (IM (e:= !(decide (a=a))) yk i7) (An rfl (rt (rs ?_)))))))
 have b:=H.pk []
 obtain rfl:_=false:=hr.symm.trans rfl
 exact⟨rfl,b⟩
def cmp_Compare_int (c:Int) (d:Int):Int:=
 bnd (cmp_isNaN_int c) fun b=>bnd (cmp_isNaN_int d) fun a=>if b=true then if a=true then 0 else(-1) else if a=true then 1 else if c < d then(-1) else if c > d then 1 else 0
theorem rQ (w D i j C) (H:Own w D w []) (hr:cmp_Compare_int i j=C):
    Calls v5 154 #[vI i,vI j] w (dA fun v w'=>v=vI C∧Own w D w' []):=by
 refine cb Tryz.func154 ?_
 refine sr (Ar rfl (Mz rfl ?_))
 obtain⟨l,a⟩:∃ q,cmp_isNaN_int i=q:=⟨_,rfl⟩
 obtain⟨J,m,E,n,F⟩:=Iu H
 refine cl Tryz.call169 (tQ _ _ i l m a) ?_
 rintro _ K ⟨rfl,o⟩
 have t:=n _ _ o
 refine Ar rfl (Mz rfl ?_)
 obtain⟨k,b⟩:∃ q,cmp_isNaN_int j=q:=⟨_,rfl⟩
 obtain⟨L,p,G,r,I⟩:=Iu t
 refine cl Tryz.call169 (tQ _ _ j k p b) ?_
 rintro _ M ⟨rfl,s⟩
 have e:=r _ _ s
 refine An rfl (Ik (sr (Mn rfl ?_)))
 rcases Ls (l) with c | c
 refine jT c (Ik (sr (Mn rfl ?_)))
 rcases Ls (k) with f | f
 refine jT f (sr (An rfl (rt (tR (tR (rs ?_))))))
 have u:=e.pk []
 obtain rfl:_=0:=hr.symm.trans (et (ae a) (et (ae b) (et (ip c) (ip f))))
 exact⟨rfl,u⟩
 refine jF f (sk (sr (An rfl (rt (tR (rs ?_))))))
 have x:=e.pk []
 obtain rfl:_=(-1):=hr.symm.trans (et (ae a) (et (ae b) (et (ip c) (fP f))))
 exact⟨rfl,x⟩
 refine jF c (sk (Ik (sr (Mn rfl ?_))))
 rcases Ls (k) with d | d
 refine jT d (sr (An rfl (rt (tR (rs ?_)))))
 have y:=e.pk []
 obtain rfl:_=1:=hr.symm.trans (et (ae a) (et (ae b) (et (fP c) (ip d))))
 exact⟨rfl,y⟩
 refine jF d (sk (Ik (sr (Mz rfl (Mz rfl (Kz (.bool (decide (i < j))) (nt ?_)))))))
 by_cases g:i < j
 refine jT (dT g) (sr (An rfl (rt (tR (rs ?_)))))
 have z:=e.pk []
 obtain rfl:_=(-1):=hr.symm.trans (et (ae a) (et (ae b) (et (fP c) (et (fP d) (ip g)))))
 exact⟨rfl,z⟩
 refine jF (dF g) (sk (Ik (sr (Mz rfl (Mz rfl (Kz (.bool (decide (i > j))) (nt ?_)))))))
 by_cases h:i > j
 refine jT (dT h) (sr (An rfl (rt (tR (rs ?_)))))
 have A:=e.pk []
 obtain rfl:_=1:=hr.symm.trans (et (ae a) (et (ae b) (et (fP c) (et (fP d) (et (iN g) (ip h))))))
 exact⟨rfl,A⟩
 refine jF (dF h) (sk (sr (An rfl (rt (rs ?_)))))
 have B:=e.pk []
 obtain rfl:_=0:=hr.symm.trans (et (ae a) (et (ae b) (et (fP c) (et (fP d) (et (iN g) (iN h))))))
 exact⟨rfl,B⟩
def fq (l0:List fF) (f:Int):Nat→Nat→Nat→Nat
  | 0,a,b=>default
  | c+1,a,b=>if((a:Nat):Int) < ((b:Nat):Int) then bnd (B8 l0 ((a+b) / 2) default) fun d=>bnd (cmp_Compare_int d.aP f) fun e=>if e < 0 then fq l0 f c (((a+b) / 2)+1) b else fq l0 f c a ((a+b) / 2) else a
def ik (l0:List fF) (c:Int):Int × Bool:=
 bnd (fq l0 c ((l0.length - 0)+1) 0 l0.length) fun sLrL=>if((sLrL:Nat):Int) < ((l0.length:Nat):Int) then bnd (B8 l0 sLrL default) fun a=>bnd (cmp_Compare_int a.aP c) fun b=>(((sLrL:Nat):Int),decide (b=0)) else(((sLrL:Nat):Int),false)
theorem mZ (w D y n0 Z K l0 n L r1) (H:Own w D w []) (G:s5 aS.abs K=l0) (l:Ro w D fun w'=>aY w' 4 y n0 (q4 aS.cells K)) (M:∀ x ∈ K,Ro w D (fun w'=>aY w' 3 x.ah.A x.ah.ls.length (q4 af.cells x.ah.ls))∧(x.ah.ls.length≤x.ah.c∧x.ah.ls.length≤9223372036854775807)∧(∀ J ∈ x.ah.ls,Ro w D (fun w'=>aY w' 2 J.aj.A J.aj.ls.length (q4 aH.cells J.aj.ls))∧(J.aj.ls.length≤J.aj.c∧J.aj.ls.length≤9223372036854775807))) (ah:n0=l0.length) (aQ:l0.length *48≤211106232532992) (hr:ik l0 n=(L,r1)):
    Calls v5 152 #[.slice y n0 Z,vI n, .func (.func 153) #[] #[]] w (dA fun v w'=>v= .tuple #[vI L, .bool r1]∧Own w D w' []∧(0≤L∧L≤((l0.length:Nat):Int))∧(Bool.toNat r1=0∨L < ((l0.length:Nat):Int))):=by
 subst ah
 have aC:=aA G
 refine cb Tryz.func152 ?_
 refine sr (Az rfl (Ar rfl (Mz rfl (Kz (vJ l0.length) (Ar rfl (Mz rfl (Az rfl (An rfl (Ik (bo ?_))))))))))
 have ai:=H.pk []
 obtain⟨aj,j⟩:=rJ fun (a:Nat) (b:Nat) (o:Nat) w'=>Own w D w' []∧a≤b∧b≤l0.length∧b - a < o∧fq l0 n ((l0.length - 0)+1) 0 l0.length=fq l0 n o a b
 refine Wp.loop (fun i:Nat × Nat × Nat=> [(9,vJ i.1),(10,vJ i.2.1),(8,vJ l0.length),(7, .bool false),(6,vI 0),(0, .slice y l0.length Z),(1,vI n),(2, .func (.func 153) #[] #[])]) aj (fun i=>i.2.2) (0,l0.length,(l0.length - 0)+1) ⟨rfl,rfl,rfl,rfl,rfl,rfl,rfl,rfl,trivial⟩ (j.2 ⟨ai,e6,e6,e6,rfl⟩) ?_
 rintro ⟨a,b,o⟩ aR N
 obtain⟨f,aD,aF,aG,p⟩:=j.1 N
 obtain⟨m,O⟩:∃ q,o=q+1:=⟨o - 1,e6⟩
 subst O
 refine Ik (sr (Mz rfl (Mz rfl (Kz (.bool (decide (((a:Nat):Int) < ((b:Nat):Int)))) (nt ?_)))))
 by_cases r:((a:Nat):Int) < ((b:Nat):Int)
 refine jT (dT r) (sk (bo (sr (Mz rfl (Mz rfl (fw (vJ (a+b)) (Ir (e:=C3.wrap (((a:Nat):Int)+((b:Nat):Int))) yk f0) (fw (vU (a+b)) (Ir (e:=IntKind.u64.wrap ((a+b:Nat):Int)) yk (IntWalk.u64_in _ e6)) (fw (vU ((a+b) / 2)) (Ir (e:=Int.fdiv ((a+b:Nat):Int) 2) yk (ny _ 1 _ f2)) (fw (vJ ((a+b) / 2)) (Ir (e:=C3.wrap (((a+b) / 2:Nat):Int)) yk (Lm _ e6)) (Ar rfl (Mz rfl (Mz rfl (Mz rfl ?_)))))))))))))
 obtain⟨g,s⟩:=dh (ls:=K) (i:=(a+b) / 2) aS.len f2 (f.ro l) e9
 have C:=eY G s
 have aI:=(M _ (D1 s)).2.1
 have aJ:s0 (s5 af.abs g.ah.ls)=g.ah.ls.length:=s3 ..
 refine fw (.pointer (some ⟨ab y,ao y+((a+b) / 2) *4,none⟩)) (Iz (lW) rfl rfl ((f.ro l).addr (i:=(a+b) / 2) e6) e6) (fw (.agg (aS.cells g).toArray) (IB rfl (IJ (cs:=(aS.cells g)) Q7 P5 ((f.ro l).elem aS.len s f2))) (Mz rfl ?_))
 refine WL.do rfl (IY Tryz.call153 rfl rfl ?_ (fun _ _ k=>k))
 refine cb Tryz.func153 ?_
 refine sr ?_
 refine dn (aS.cells g) 56 f ?_
 intro ak aU P
 refine Ar rfl (Kz (vP ak 0) (Lz (vI g.aP) P 0 C2 (Mz rfl ?_)))
 obtain⟨I,t⟩:∃ q,cmp_Compare_int g.aP n=q:=⟨_,rfl⟩
 obtain⟨aV,Q,aK,R,aL⟩:=Iu P
 refine cl Tryz.call154 (rQ _ _ g.aP n I Q t) ?_
 rintro _ aW ⟨rfl,S⟩
 have T:=R _ _ S
 refine An rfl (rt (rs (Kz (.bool (decide (I < 0))) (nt ?_))))
 by_cases z:I < 0
 refine jT (dT z) (Il (Mz rfl (fw (vI ((((a+b) / 2)+1:Nat):Int)) (Ir (e:=C3.wrap ((((a+b) / 2:Nat):Int)+1)) yk f0) (Az rfl (WL.nil (bN ?_))))))
 have au:=T.pk []
 exact II (((a+b) / 2)+1,b,m) ⟨rfl,rfl,rfl,rfl,rfl,rfl,rfl,rfl,trivial⟩ (j.2 ⟨au,e6,e6,e6,et (p) (et (ip r) (et (ae (aT C)) (et (ae t) (ip z))))⟩) (by show m < m+1; omega)
 refine jF (dF z) (Il (Mz rfl (Az rfl (WL.nil (bN ?_)))))
 have av:=T.pk []
 exact II (a,(a+b) / 2,m) ⟨rfl,rfl,rfl,rfl,rfl,rfl,rfl,rfl,trivial⟩ (j.2 ⟨av,e6,e6,e6,et (p) (et (ip r) (et (ae (aT C)) (et (ae t) (iN z))))⟩) (by show m < m+1; omega)
 refine jF (dF r) (Wp.exit (IC ?_))
 have E:fq l0 n ((l0.length - 0)+1) 0 l0.length=a:=et (p) (iN r)
 refine IC (IK (Iq (sr (Mz rfl (Mz rfl (Mz rfl (Kz (.bool (decide (((a:Nat):Int) < ((l0.length:Nat):Int)))) (Mz rfl ?_))))))))
 by_cases d:((a:Nat):Int) < ((l0.length:Nat):Int)
 refine gw (.func (.func 153) #[] #[]) (dT d) (IA rfl) (gw (.slice y l0.length Z) (dT d) (IA rfl) (gw (vJ a) (dT d) (IA rfl) ?_))
 obtain⟨h,u⟩:=dh (ls:=K) (i:=a) aS.len f2 (f.ro l) e9
 have U:=eY G u
 have aM:=(M _ (D1 u)).2.1
 have aN:s0 (s5 af.abs h.ah.ls)=h.ah.ls.length:=s3 ..
 refine gw (.pointer (some ⟨ab y,ao y+a *4,none⟩)) (dT d) (Iz (lW) rfl rfl ((f.ro l).addr (i:=a) e6) e6) (gw (.agg (aS.cells h).toArray) (dT d) (IB rfl (IJ (cs:=(aS.cells h)) Q7 P5 ((f.ro l).elem aS.len u f2))) (gw (vI n) (dT d) (IA rfl) ?_))
 refine Ju rfl rfl (dT d) rfl (IY Tryz.call153 rfl rfl ?_ (fun _ _ k=>k))
 refine cb Tryz.func153 ?_
 refine sr ?_
 refine dn (aS.cells h) 56 f ?_
 intro ax aX V
 refine Ar rfl (Kz (vP ax 0) (Lz (vI h.aP) V 0 C2 (Mz rfl ?_)))
 obtain⟨B,F⟩:∃ q,cmp_Compare_int h.aP n=q:=⟨_,rfl⟩
 obtain⟨aZ,W,aO,X,aP⟩:=Iu V
 refine cl Tryz.call154 (rQ _ _ h.aP n B W F) ?_
 rintro _ bf ⟨rfl,Y⟩
 have ay:=X _ _ Y
 refine An rfl (rt (rs (Gz (.bool (decide (B=0))) (dT d) (fw (.bool (decide (B=0))) (Iw rfl (dT d) rfl) (Az rfl (An rfl (rt (Fin.res (lH rfl rfl rfl) ?_))))))))
 have az:=ay.pk []
 obtain⟨rfl,rfl⟩:=fD (hr.symm.trans (show _=(((a:Nat):Int),decide (B=0)) from et (ae E) (et (ip d) (et (ae (aT U)) (ae F)))))
 exact⟨rfl,az,e6,i8⟩
 refine Sz (dF d) (Sz (dF d) (Sz (dF d) (Sz (dF d) (Sz (dF d) (Sz (dF d) (Sz (dF d) (Sz (dF d) (fw (.bool false) (Io rfl (dF d) rfl) (Az rfl (An rfl (rt (Fin.res (lH rfl rfl rfl) ?_))))))))))))
 have aB:=f.pk []
 obtain⟨rfl,rfl⟩:=fD (hr.symm.trans (show _=(((a:Nat):Int),false) from et (ae E) (iN d)))
 exact⟨rfl,aB,e6,i8⟩
def lC (m:bU) (j:Int) (a:aD):bU × aD:=
 bnd (B8 a.aC.ls (C6 j) default) fun b=>bnd (nQ b.cB.ls b.aO.ls b.ai.ls) fun i=>if i.2=0 then bnd (kr (ed.mk b.bI b.bf b.bi b.fE (E0 b.cB.ls) (E0 b.aO.ls) (E0 b.bL.ls) (E0 b.ai.ls) b.iI)) fun h=>bnd (bQ a.aa.ak.ls b.bI) fun f=>bnd (ik a.aa.aK.ls b.bf) fun g=>if g.2=true then bnd (dL m b.bf b.bi 1 i.1 (aD.mk (bZ.mk a.aa.au a.aa.ax a.aa.bG a.aa.aF (E0 a.aa.ag.ls) (E0 (r3 (C6 f.1) a.aa.ak.ls++((bH.mk b.bI b.bf a.aa.ax b.bi (E0 h))::r4 (C6 f.1) a.aa.ak.ls))) (E0 (I3 a.aa.aK.ls (C6 g.1) (fF.mk b.bf a.aa.ax b.bi (E0 i.1))))) a.bT (E0 (r3 (C6 j) a.aC.ls++r4 ((C6 j)+1) a.aC.ls)) a.bM a.bD a.bA a.bC a.bB a.dO a.dG a.dH a.dD a.dE)) fun d=>bnd (fV d.1 b.bI h true) fun k=>(k,aD.mk (bZ.mk d.2.aa.au d.2.aa.ax d.2.aa.bG d.2.aa.aF (E0 a.aa.ag.ls) (E0 (r3 (C6 f.1) a.aa.ak.ls++((bH.mk b.bI b.bf a.aa.ax b.bi (E0 h))::r4 (C6 f.1) a.aa.ak.ls))) (E0 (I3 a.aa.aK.ls (C6 g.1) (fF.mk b.bf a.aa.ax b.bi (E0 i.1))))) d.2.bT (E0 (r3 (C6 j) a.aC.ls++r4 ((C6 j)+1) a.aC.ls)) d.2.bM d.2.bD d.2.bA d.2.bC d.2.bB d.2.dO d.2.dG d.2.dH d.2.dD d.2.dE) else bnd (dL m b.bf b.bi 1 i.1 (aD.mk (bZ.mk a.aa.au a.aa.ax a.aa.bG a.aa.aF (E0 a.aa.ag.ls) (E0 (r3 (C6 f.1) a.aa.ak.ls++((bH.mk b.bI b.bf a.aa.ax b.bi (E0 h))::r4 (C6 f.1) a.aa.ak.ls))) (E0 (r3 (C6 g.1) a.aa.aK.ls++((fF.mk b.bf a.aa.ax b.bi (E0 i.1))::r4 (C6 g.1) a.aa.aK.ls)))) a.bT (E0 (r3 (C6 j) a.aC.ls++r4 ((C6 j)+1) a.aC.ls)) a.bM a.bD a.bA a.bC a.bB a.dO a.dG a.dH a.dD a.dE)) fun e=>bnd (fV e.1 b.bI h true) fun l=>(l,aD.mk (bZ.mk e.2.aa.au e.2.aa.ax e.2.aa.bG e.2.aa.aF (E0 a.aa.ag.ls) (E0 (r3 (C6 f.1) a.aa.ak.ls++((bH.mk b.bI b.bf a.aa.ax b.bi (E0 h))::r4 (C6 f.1) a.aa.ak.ls))) (E0 (r3 (C6 g.1) a.aa.aK.ls++((fF.mk b.bf a.aa.ax b.bi (E0 i.1))::r4 (C6 g.1) a.aa.aK.ls)))) e.2.bT (E0 (r3 (C6 j) a.aC.ls++r4 ((C6 j)+1) a.aC.ls)) e.2.bM e.2.bD e.2.bA e.2.bC e.2.bB e.2.dO e.2.dG e.2.dH e.2.dD e.2.dE) else bnd (iy m j a) fun c=>(c.1,aD.mk (bZ.mk c.2.aa.au c.2.aa.ax c.2.aa.bG c.2.aa.aF (E0 a.aa.ag.ls) (E0 a.aa.ak.ls) (E0 a.aa.aK.ls)) c.2.bT (E0 c.2.aC.ls) c.2.bM c.2.bD c.2.bA c.2.bC c.2.bB c.2.dO c.2.dG c.2.dH c.2.dD c.2.dE)
set_option maxHeartbeats 4000000 in
theorem uW (w D Z) (p0:bU) (bG bI bA O d) (a:aD) (aa ag U V p B P l W aM r aO aP ah aR aU ai aV aX aj aY aZ ak bf bg au) (r0:bU) (r1:aD) (H:Own w D w (blk Z [.pointer (some ⟨d,0,none⟩), .slice bG p0.bF.ls.length bI] 98::row bG p0.bF.ls.length bI (q4 bz.cells bA) 42 21::sepL (q4 bz.own bA)::mX d a aa a.aa.ag.ls.length ag U V p B P l W aM r aO aP ah aR aU ai aV aX aj aY aZ ak bf bg au [])) (bC:s5 bz.abs bA=p0.bF.ls) (G:s5 ay.abs p=a.aa.ak.ls) (s:s5 aS.abs l=a.aa.aK.ls) (I:s5 bK.abs r=a.aC.ls) (av:s5 af.abs ah=a.bM.ai.ls) (ax:s5 af.abs ai=a.bD.ai.ls) (aB:s5 af.abs aj=a.bA.ai.ls) (aC:s5 af.abs ak=a.bC.ai.ls) (aF:s5 af.abs au=a.bB.ai.ls) (uO:a.aa.ag.ls.length≤1000∧a.aa.ak.ls.length≤1000∧a.aa.aK.ls.length≤1000∧a.aC.ls.length≤1000∧p0.bF.ls.length≤100000) (uP:Ak a.aC.ls) (uQ:0≤O∧O < ((a.aC.ls.length:Nat):Int)) (hr:lC p0 O a=(r0,r1)):
    Calls v5 94 #[vP Z 0,vI O] w (dA fun v w'=> ∃ cZ di bS ib ic dm ig il dw iq iw dx iA iB dz iC iD dB iE iF dC iH iI dD iJ iK dE,v= .tuple #[]∧Own w D w' (blk Z [vP d 0, .slice cZ r0.bF.ls.length di] 98::row cZ r0.bF.ls.length di (q4 bz.cells bS) 42 21::sepL (q4 bz.own bS)::mX d r1 aa a.aa.ag.ls.length ag ib ic dm ig il dw iq iw dx iA iB dz iC iD dB iE iF dC iH iI dD iJ iK dE [])∧(s5 bz.abs bS=r0.bF.ls)∧(s5 ay.abs dm=r1.aa.ak.ls)∧(s5 aS.abs dw=r1.aa.aK.ls)∧(s5 bK.abs dx=r1.aC.ls)∧(s5 af.abs dz=r1.bM.ai.ls)∧(s5 af.abs dB=r1.bD.ai.ls)∧(s5 af.abs dC=r1.bA.ai.ls)∧(s5 af.abs dD=r1.bC.ai.ls)∧(s5 af.abs dE=r1.bB.ai.ls)):=by
 have oD:=aA bC
 have jE:=aA G
 have jG:=aA s
 have jH:=aA I
 have jI:=aA av
 have jK:=aA ax
 have jL:=aA aB
 have jN:=aA aC
 have jO:=aA aF
 have oF:=H.rowC (i:=1) rfl
 have jP:=H.rowC (i:=4) rfl
 have jQ:=H.rowC (i:=6) rfl
 have jR:=H.rowC (i:=8) rfl
 have jS:=H.rowC (i:=10) rfl
 have jU:=H.rowC (i:=12) rfl
 have jV:=H.rowC (i:=14) rfl
 have jW:=H.rowC (i:=16) rfl
 have jX:=H.rowC (i:=18) rfl
 refine cb Tryz.func94 ?_
 refine sr (Mz rfl (Kz (vP Z 0) (Kz (vP Z 0) (Lz (vP d 0) H 0 P6 (Kz (vP d 0) (Kz (vP d 8) (Lz (.slice W a.aC.ls.length aM) H 3 Tryz.isAgg79 (fw (vJ (C6 O)) (Ir (e:=O) (IA rfl) e6) ?_))))))))
 obtain⟨b,u⟩:=dh (ls:=r) (i:=C6 O) bK.len f2 (H.rds (i:=8) rfl) e9
 have bY:=eY I u
 have rQ:b.cB.ls.length≤b.cB.c∧b.cB.ls.length≤9223372036854775807:=bq H (i:=9) rfl (φ:=fun _=>_) (az (Q6.2 ⟨b,D1 u,b1⟩) bn)
 have rR:b.aO.ls.length≤b.aO.c∧b.aO.ls.length≤9223372036854775807:=bq H (i:=9) rfl (φ:=fun _=>_) (az (Q6.2 ⟨b,D1 u, .tail _ b1⟩) bn)
 have rT:b.bL.ls.length≤b.bL.c∧b.bL.ls.length≤9223372036854775807:=bq H (i:=9) rfl (φ:=fun _=>_) (az (Q6.2 ⟨b,D1 u, .tail _ b2⟩) bn)
 have rU:b.ai.ls.length≤b.ai.c∧b.ai.ls.length≤9223372036854775807:=bq H (i:=9) rfl (φ:=fun _=>_) (az (Q6.2 ⟨b,D1 u, .tail _ b3⟩) bn)
 have R:Tok (bK.abs b):=Cv g5 bY
 have rV:1≤b.bf∧b.bf≤4:=R.D7
 have rW:b.bL.ls.length=b.aO.ls.length:=by have q9:=R.yes; simp only [bK.abs,s3] at q9; exact q9
 have rX:b.ai.ls.length=b.aO.ls.length:=by have q9:=R.res; simp only [bK.abs,s3] at q9; exact q9
 have rY:b.aO.ls.length≤5:=by have q9:=R.len; simp only [bK.abs,s3] at q9; exact q9
 have r9:b.cB.ls.length≤24:=R.ops.1
 have si:tt (s5 bP.abs b.ai.ls)≤100000000:=F9 R
 refine fw (.pointer (some ⟨ab W,ao W+(C6 O) *9,none⟩)) (Iz (qF) rfl rfl ((H.rds (i:=8) rfl).addr (i:=C6 O) e6) e6) (fw (.agg (bK.cells b).toArray) (IB rfl (IJ (cs:=(bK.cells b)) Tryz.isAgg107 Tryz.sizeOf107 ((H.rds (i:=8) rfl).elem bK.len u f2))) ?_)
 refine dn (rZ 0 0 0 0 none 0 0 none 0 0 none 0 0 none 0 0 0) 107 H ?_
 intro X uR oG
 refine df (bK.cells b) 0 oG Tryz.sizeOf107 ?_
 intro uS oH
 refine ns (Kz (vP X 4) ?_)
 have oI:=oH.pf [10]
 have aL:=J6 (f:=bK.own) (i:=C6 O) (row b.cB.A b.cB.ls.length b.cB.c (q4 aN.cells b.cB.ls) 72 6) (row b.aO.A b.aO.ls.length b.aO.c (q4 bO.cells b.aO.ls) 172 3) (row b.bL.A b.bL.ls.length b.bL.c (q4 eL b.bL.ls) 4 1) (row b.ai.A b.ai.ls.length b.ai.c (q4 (I9 (β:=af)) b.ai.ls) 40 1) (sepL (q4 bO.own b.aO.ls)) (sepL (q4 bP.own b.ai.ls)) rfl u oI
 have sj:=aL.rowC (i:=0) rfl
 have su:=aL.rowC (i:=1) rfl
 have sw:b.aO.ls.length=s0 (s5 bO.abs b.aO.ls):=aA (rfl:s5 bO.abs b.aO.ls=s5 bO.abs b.aO.ls)
 have sD:=aL.rowC (i:=2) rfl
 have sF:=aL.rowC (i:=3) rfl
 have sG:b.ai.ls.length=s0 (s5 bP.abs b.ai.ls):=aA (rfl:s5 bP.abs b.ai.ls=s5 bP.abs b.ai.ls)
 refine Lz (.slice b.cB.A b.cB.ls.length b.cB.c) aL 7 Tryz.isAgg39 (Kz (vP X 5) (Lz (.slice b.aO.A b.aO.ls.length b.aO.c) aL 7 Tryz.isAgg103 (Kz (vP X 7) (Lz (.slice b.ai.A b.ai.ls.length b.ai.c) aL 7 Tryz.isAgg105 ?_))))
 have sH:b.aO.ls.length=s0 (s5 bO.abs b.aO.ls):=f1
 have sI:b.ai.ls.length=s0 (s5 bP.abs b.ai.ls):=f1
 obtain⟨⟨n,dG⟩,bJ⟩:∃ q:(List aQ) × Int,nQ b.cB.ls (s5 bO.abs b.aO.ls) (s5 bP.abs b.ai.ls)=q:=⟨_,rfl⟩
 obtain⟨uT,jY,sJ,jZ,bi⟩:=Iu aL
 refine cl Tryz.call129 (xU _ _ b.cB.A b.cB.ls.length b.cB.c b.cB.ls b.aO.A b.aO.ls.length b.aO.c b.aO.ls (s5 bO.abs b.aO.ls) b.ai.A b.ai.ls.length b.ai.c b.ai.ls (s5 bP.abs b.ai.ls) n dG jY (bi _ 0 _ rfl aW) rfl e6 (rfl:s5 bO.abs b.aO.ls=s5 bO.abs b.aO.ls) (bi _ 1 _ rfl aW) (fun Y Q=>⟨bi _ 4 _ rfl (az (Q6.2 ⟨Y,Q,b1⟩) aW),bq (φ:=fun _=>_) aL (i:=4) rfl (az (Q6.2 ⟨Y,Q,b1⟩) bn),bi _ 4 _ rfl (az (Q6.2 ⟨Y,Q, .tail _ b1⟩) aW),bq (φ:=fun _=>_) aL (i:=4) rfl (az (Q6.2 ⟨Y,Q, .tail _ b1⟩) bn)⟩) f1 g3 (rfl:s5 bP.abs b.ai.ls=s5 bP.abs b.ai.ls) (bi _ 3 _ rfl aW) (fun Y Q=>⟨bi _ 5 _ rfl (az (Q6.2 ⟨Y,Q,b1⟩) aW),bq (φ:=fun _=>_) aL (i:=5) rfl (az (Q6.2 ⟨Y,Q,b1⟩) bn),(fun y1 k1=>⟨bi _ 5 _ rfl (az (Q6.2 ⟨Y,Q, .tail _ b1⟩) (az (Q6.2 ⟨y1,k1,b1⟩) aW)),bq (φ:=fun _=>_) aL (i:=5) rfl (az (Q6.2 ⟨Y,Q, .tail _ b1⟩) (az (Q6.2 ⟨y1,k1,b1⟩) bn))⟩)⟩) f1 g3 (by first | assumption | omega) bJ) ?_
 rintro _ uU ⟨J,K,aG,rfl,j3,N⟩
 have iL:=jZ _ _ j3
 have sK:=aA N
 have sM:=iL.rowC (i:=0) rfl
 have j4:mV n:=yf bJ R.ops.1 R.ops.2 R.Ci
 have sN:n.length≤1000:=j4.1
 refine Mz rfl (Kz (.slice J n.length K) (Kz (vI dG) (Az rfl (An rfl (Ik (sr (Mz rfl (fw (.bool (decide (¬ (dG=0)))) (IM (e:= !(decide (dG=0))) yk decide_not.symm) (nt ?_)))))))))
 by_cases dH:dG=0
 refine jF (dF (Lr dH)) (sk (Ik ?_))
 have oJ:=iL.pf [10,13]
 refine pM [17] (IE IQ) oJ ?_
 intro uV oK
 have oL:=oK.pf [4,5,6,7,8,9,10]
 have dI:=qX (f:=bK.own) u oL
 have sO:b.cB.ls.length≤b.cB.c∧b.cB.ls.length≤9223372036854775807:=bq dI (i:=0) rfl (φ:=fun _=>_) (az (Q6.2 ⟨b,D1 u,b1⟩) bn)
 have sP:b.aO.ls.length≤b.aO.c∧b.aO.ls.length≤9223372036854775807:=bq dI (i:=0) rfl (φ:=fun _=>_) (az (Q6.2 ⟨b,D1 u, .tail _ b1⟩) bn)
 have sQ:b.bL.ls.length≤b.bL.c∧b.bL.ls.length≤9223372036854775807:=bq dI (i:=0) rfl (φ:=fun _=>_) (az (Q6.2 ⟨b,D1 u, .tail _ b2⟩) bn)
 have sS:b.ai.ls.length≤b.ai.c∧b.ai.ls.length≤9223372036854775807:=bq dI (i:=0) rfl (φ:=fun _=>_) (az (Q6.2 ⟨b,D1 u, .tail _ b3⟩) bn)
 refine qv 0 rfl rfl (qp Z 0 1 rfl (qp Z 0 2 rfl (ql 3 rfl 0 P6 rfl rfl rfl (qv 4 rfl rfl (qp Z 0 5 rfl (qp Z 0 6 rfl (ql 7 rfl 0 P6 rfl rfl rfl (qp d 0 8 rfl (qp d 8 9 rfl (ql 10 rfl 1 Tryz.isAgg79 rfl rfl rfl (qv 11 rfl rfl (qv 12 rfl rfl (qt (v:=vI (O+1)) 13 rfl (fun _ _=>Ir (e:=C3.wrap (O+1)) yk g1) ?_)))))))))))))
 have oM:=dI.pf [12]
 obtain⟨uX,j5,sU,j6,sV⟩:=IV oM
 refine qd 14 rfl (IP Tryz.call105 rfl (vw _ _ W a.aC.ls.length aM r a.aC.ls O (O+1) (C6 O) b j5 e6 I e6 e6 e6 u) ?_)
 rintro _ uY ⟨dJ,dK,rfl,kg⟩
 have dM:=j6 _ _ kg
 have sW:s0 (r3 (C6 O) r++r4 ((C6 O)+1) r)=s0 (r3 (C6 O) a.aC.ls++r4 ((C6 O)+1) a.aC.ls):=by exact aA (pK I)
 have tq:s0 (r3 (C6 O) a.aC.ls++r4 ((C6 O)+1) a.aC.ls)+1=a.aC.ls.length:=by simp only [o2,o0,o1]; omega
 have tu:b.aO.ls.length=s0 (s5 bO.abs b.aO.ls):=by exact(s3 _).symm
 have tC:b.ai.ls.length=s0 (s5 bP.abs b.ai.ls):=by exact(s3 _).symm
 have tF:=dM.rowC (i:=2) rfl
 have tH:=dM.rowC (i:=3) rfl
 have tJ:=dM.rowC (i:=4) rfl
 have tK:=dM.rowC (i:=5) rfl
 have ko:=dM.pf [8,9]
 refine⟨.inr ⟨_,ko⟩, ?_⟩
 refine qp d 0 15 rfl (qp d 8 16 rfl ?_)
 have oN:=ko.pf [1]
 refine qe 17 rfl (Do.store (vs:= [.slice dJ (s0 (r3 (C6 O) a.aC.ls++r4 ((C6 O)+1) a.aC.ls)) dK]) (o:=8) oN rfl rfl Tryz.sizeOf79 rfl rfl rfl rfl ?_)
 intro tL ku
 refine⟨.inl e7, ?_⟩
 refine qn (Iq (Ik ?_))
 have bD:b.aO.ls.length=s0 (s5 bO.abs b.aO.ls):=by first | omega | (simp only [G4]; done) | (simp only [G4,o2,s1,E7,o0,o1,H0]; omega)
 have kv:=ku.pf [5]
 have kw:=Jc bD kv
 have ky:=kw.pf [12]
 have kz:=Jp 5 bD ky
 have kC:=kz.pf [2,3,4,5,6,1,7,8,9,10,11,12]
 have bE:b.ai.ls.length=s0 (s5 bP.abs b.ai.ls):=by first | omega | (simp only [G4]; done) | (simp only [G4,o2,s1,E7,o0,o1,H0]; omega)
 have kD:=kC.pf [7]
 have kE:=Jc bE kD
 have kF:=kE.pf [12]
 have kG:=Jp 7 bE kF
 have kH:=kG.pf [2,3,4,5,6,7,8,1,9,10,11,12]
 refine pM [] (IE IQ) kH ?_
 intro tN kI
 refine qp X 0 0 rfl ?_
 have gy:=kI.pf [0,1,12]
 refine BC gy (ql 1 rfl 2 D2 rfl rfl rfl (qp X 1 2 rfl (ql 3 rfl 2 C2 rfl rfl rfl (qv 4 rfl rfl (qp Z 0 5 rfl (qp Z 0 6 rfl (ql 7 rfl 1 P6 rfl rfl rfl (qp d 0 8 rfl (qp d 0 9 rfl (qp d 1 10 rfl (ql 11 rfl 0 D2 rfl rfl rfl (qp X 2 12 rfl (ql 13 rfl 2 D2 rfl rfl rfl ?_)))))))))))))
 obtain⟨h,bF⟩:∃ q,kr (ed.mk b.bI b.bf b.bi b.fE (E0 b.cB.ls) (E0 (s5 bO.abs b.aO.ls)) (E0 b.bL.ls) (E0 (s5 bP.abs b.ai.ls)) b.iI)=q:=⟨_,rfl⟩
 have oO:h.length≤5:=by have q9:=yg bF; simp only [s3] at q9; omega
 refine EG ⟨14,_,_,_,_,_,Option Addr × Nat,fun g9=> .slice g9.1 h.length g9.2,fun _=>True,fun g9=> [row g9.1 h.length g9.2 (q4 (eI .i64) h) 3 1]⟩ ⟨16,_,_,_,_,_,Nat,fun g9=>vP g9 0,fun _=>True,fun g9=> [blk g9 [.int .u64 0,vI 0, .int .u64 0, .int .u64 0, .slice none 0 0] 60]⟩ 15 3 gy ⟨⟨rfl,rfl,rfl, ?_⟩,⟨rfl,rfl,rfl, ?_⟩,trivial⟩ rfl ?_
 intro tO L' kJ
 refine(Jb (cs:= [.int .u64 0,vI 0, .int .u64 0, .int .u64 0, .slice none 0 0]) (t:=60) kJ rfl rfl (fun _=>by kernel_rfl) ?_)
 intro bL tQ kK
 exact⟨bL,rfl,trivial,kK⟩
 intro tT L' kL
 have aH:=kL.pf [3]
 have oP:=aH.rowC (i:=6) rfl
 have oU:=aH.rowC (i:=7) rfl
 have oW:=aH.rowC (i:=8) rfl
 have oZ:=aH.rowC (i:=9) rfl
 obtain⟨tV,iM,o5,iO,S⟩:=IZ aH
 refine(IP Tryz.call107 rfl (qV _ _ X (ed.mk b.bI b.bf b.bi b.fE (E0 b.cB.ls) (E0 (s5 bO.abs b.aO.ls)) (E0 b.bL.ls) (E0 (s5 bP.abs b.ai.ls)) b.iI) b.cB.A b.cB.c b.aO.A b.aO.c b.aO.ls b.bL.A b.bL.c b.ai.A b.ai.c b.ai.ls h iM (S _ 5 _ rfl aW) (show b.cB.ls.length≤b.cB.c∧b.cB.ls.length≤9223372036854775807 from by omega) (rfl:s5 bO.abs b.aO.ls=s5 bO.abs b.aO.ls) (S _ 6 _ rfl aW) (show s0 (s5 bO.abs b.aO.ls)≤b.aO.c∧s0 (s5 bO.abs b.aO.ls)≤9223372036854775807 from by omega) (fun Y Q=>⟨S _ 9 _ rfl (az (Q6.2 ⟨Y,Q,b1⟩) aW),bq (φ:=fun _=>_) aH (i:=10) rfl (az (Q6.2 ⟨Y,Q,b1⟩) bn),S _ 9 _ rfl (az (Q6.2 ⟨Y,Q, .tail _ b1⟩) aW),bq (φ:=fun _=>_) aH (i:=10) rfl (az (Q6.2 ⟨Y,Q, .tail _ b1⟩) bn)⟩) (S _ 7 _ rfl aW) (show b.bL.ls.length≤b.bL.c∧b.bL.ls.length≤9223372036854775807 from by omega) (rfl:s5 bP.abs b.ai.ls=s5 bP.abs b.ai.ls) (S _ 8 _ rfl aW) (show s0 (s5 bP.abs b.ai.ls)≤b.ai.c∧s0 (s5 bP.abs b.ai.ls)≤9223372036854775807 from by omega) (fun Y Q=>⟨S _ 10 _ rfl (az (Q6.2 ⟨Y,Q,b1⟩) aW),bq (φ:=fun _=>_) aH (i:=11) rfl (az (Q6.2 ⟨Y,Q,b1⟩) bn),(fun y1 k1=>⟨S _ 10 _ rfl (az (Q6.2 ⟨Y,Q, .tail _ b1⟩) (az (Q6.2 ⟨y1,k1,b1⟩) aW)),bq (φ:=fun _=>_) aH (i:=11) rfl (az (Q6.2 ⟨Y,Q, .tail _ b1⟩) (az (Q6.2 ⟨y1,k1,b1⟩) bn))⟩)⟩) e8 bF) ?_)
 rintro _ tX ⟨L,M,rfl,iP⟩
 have kM:=iO _ _ iP
 have kN:=kM.pf [0,2,3,4]
 exact⟨(L,M),rfl,trivial,kN⟩
 rintro ⟨L,M⟩ _
 refine⟨.agg #[vU b.bI,vI b.bf,vU a.aa.ax,vU b.bi, .slice L h.length M],fun _=>yk, ?_⟩
 rintro bL _
 intro kP kQ
 have gz:Own w D kP (blk bL [.int .u64 0,vI 0, .int .u64 0, .int .u64 0, .slice none 0 0] 60::row L h.length M (q4 (eI .i64) h) 3 1::_):=kQ.flat.pf []
 have o6:=gz.rowC (i:=1) rfl
 have kR:=gz.pf [2,3,4]
 have kS:=kR.pf [3]
 refine qe 17 rfl (Do.store (vs:= [vU b.bI,vI b.bf,vU a.aa.ax,vU b.bi, .slice L h.length M]) (o:=0) kS rfl rfl Tryz.sizeOf60 rfl rfl rfl rfl ?_)
 intro tY kT
 have gB:=kT.pf [1,2,3]
 refine⟨.inr ⟨_,gB⟩, ?_⟩
 refine qn (Iq (Ik ?_))
 have kU:=gB.pf [1,2,3,4,7,8,9,10,11,12,13,14,15,16]
 refine oV 14 [] (IE IQ) kU ?_
 intro tZ dN
 refine qv 0 rfl rfl (qp Z 0 1 rfl (qp Z 0 2 rfl (ql 3 rfl 0 P6 rfl rfl rfl (qp X 0 4 rfl (ql 5 rfl 1 D2 rfl rfl rfl ?_)))))
 refine GX.do 6 rfl e7 (IP Tryz.call95 rfl ?_ (fun _ _ k=>k))
 refine cb Tryz.func95 ?_
 refine sr (Az rfl (Ar rfl (Mz rfl (Kz (vP d 0) (Kz (vP d 0) (Kz (vP d 5) (Lz (.slice U a.aa.ak.ls.length V) dN 14 Tryz.isAgg30 (Mz rfl ?_))))))))
 obtain⟨⟨j,cu⟩,bT⟩:∃ q:Int × Bool,bQ a.aa.ak.ls b.bI=q:=⟨_,rfl⟩
 obtain⟨uf,iQ,o7,iR,dO⟩:=Iu dN
 refine cl Tryz.call132 (gU _ _ U a.aa.ak.ls.length V p a.aa.ak.ls b.bI j cu iQ G (dO _ 17 _ rfl aW) (fun Y Q=>⟨dO _ 18 _ rfl (az (Q6.2 ⟨Y,Q,b1⟩) aW),bq (φ:=fun _=>_) dN (i:=18) rfl (az (Q6.2 ⟨Y,Q,b1⟩) bn)⟩) rfl e6 bT) ?_
 rintro _ ug ⟨rfl,iT,dP,dQ⟩
 have gD:=iR _ _ iT
 replace dP:0≤j∧j≤((a.aa.ak.ls.length:Nat):Int):=dP
 replace dQ:Bool.toNat cu=0∨j < ((a.aa.ak.ls.length:Nat):Int):=dQ
 refine Kz (vI j) (Kz (.bool cu) (Az rfl (An rfl (rt (Fin.res (lH rfl rfl rfl) ?_)))))
 refine⟨.inr ⟨_,gD⟩, ?_⟩
 refine qv 7 rfl rfl (qk (vI j) 8 rfl (qk (.bool cu) 9 rfl (qa 10 rfl rfl (qa 11 rfl rfl (qn (Iq (Ik ?_)))))))
 have kV:=gD.pf [0,14]
 refine pM [19] (IE IQ) kV ?_
 intro uh kW
 refine qv 0 rfl rfl (qp Z 0 1 rfl (qp Z 0 2 rfl (ql 3 rfl 0 P6 rfl rfl rfl (qv 4 rfl rfl (qp Z 0 5 rfl (qp Z 0 6 rfl (ql 7 rfl 0 P6 rfl rfl rfl (qp d 0 8 rfl (qp d 0 9 rfl (qp d 5 10 rfl (ql 11 rfl 1 Tryz.isAgg30 rfl rfl rfl (qv 12 rfl rfl ?_))))))))))))
 have gF:=kW.pf [0,1,3]
 refine BC gF (qb 13 rfl 2 Tryz.isAgg60 Tryz.sizeOf60 rfl rfl rfl ?_)
 refine qd 14 rfl (JX (cs:= [vU b.bI,vI b.bf,vU a.aa.ax,vU b.bi, .slice L h.length M]) (t:=60) (sz:=5) (m:=1) gF rfl rfl (fun _=>by kernel_rfl) rfl ?_)
 intro gG ui dR
 replace dR:=IX (y:=qC gG 1 (q4 ay.cells ([(ay.mk b.bI b.bf a.aa.ax b.bi (G3 L M h))])) 60 5) rfl dR
 have gH:=dR.pf [1,2,3]
 refine⟨.inr ⟨_,gH⟩, ?_⟩
 have kX:=gH.pf [18,3,19,5]
 obtain⟨uj,iU,o8,iV,o9⟩:=Jf kX
 refine qd 15 rfl (IP Tryz.call130 rfl (vN _ _ U a.aa.ak.ls.length V p a.aa.ak.ls j (C6 j) gG (ay.mk b.bI b.bf a.aa.ax b.bi (G3 L M h)) (bH.mk b.bI b.bf a.aa.ax b.bi (E0 h)) iU e6 G rfl e6 e6 e6) ?_)
 rintro _ uk ⟨bM,bN,rfl,iW⟩
 have kY:=iV _ _ iW
 have pg:s0 (r3 (C6 j) p++((ay.mk b.bI b.bf a.aa.ax b.bi (G3 L M h))::r4 (C6 j) p))=s0 (r3 (C6 j) a.aa.ak.ls++((bH.mk b.bI b.bf a.aa.ax b.bi (E0 h))::r4 (C6 j) a.aa.ak.ls)):=by exact aA (qZ (z:=(bH.mk b.bI b.bf a.aa.ax b.bi (E0 h))) G rfl)
 have pq:s0 (r3 (C6 j) a.aa.ak.ls++((bH.mk b.bI b.bf a.aa.ax b.bi (E0 h))::r4 (C6 j) a.aa.ak.ls))=a.aa.ak.ls.length+1:=by simp only [o2,o0,s1,o1]; omega
 have gI:=kY.pf [2,3,4]
 refine⟨.inr ⟨_,gI⟩, ?_⟩
 refine qp d 0 16 rfl (qp d 0 17 rfl (qp d 5 18 rfl ?_))
 have kZ:=gI.pf [1]
 refine qe 19 rfl (Do.store (vs:= [.slice bM (s0 (r3 (C6 j) a.aa.ak.ls++((bH.mk b.bI b.bf a.aa.ax b.bi (E0 h))::r4 (C6 j) a.aa.ak.ls))) bN]) (o:=5) kZ rfl rfl Tryz.sizeOf30 rfl rfl rfl rfl ?_)
 intro ul lc
 refine⟨.inl e7, ?_⟩
 refine qn (Iq (Ik ?_))
 refine pM [15] (IE IQ) lc ?_
 intro um lg
 refine qv 0 rfl rfl (qp X 1 1 rfl ?_)
 have gJ:=lg.pf [0,1,5]
 refine BC gJ (ql 2 rfl 2 C2 rfl rfl rfl (qv 3 rfl rfl (qp Z 0 4 rfl (qp Z 0 5 rfl (ql 6 rfl 1 P6 rfl rfl rfl (qp d 0 7 rfl (qp d 0 8 rfl (qp d 1 9 rfl (ql 10 rfl 0 D2 rfl rfl rfl (qp X 2 11 rfl (ql 12 rfl 2 D2 rfl rfl rfl (qv 13 rfl rfl (qk (.agg #[vI b.bf,vU a.aa.ax,vU b.bi, .slice J n.length K]) 14 rfl ?_)))))))))))))
 refine GX.do 15 rfl e7 (IP Tryz.call131 rfl ?_ (fun _ _ k=>k))
 refine cb Tryz.func131 ?_
 refine sr ?_
 refine dn [vI b.bf,vU a.aa.ax,vU b.bi, .slice J n.length K] 56 gJ ?_
 intro lh uo ll
 refine nt (Ik ?_)
 refine oV 31 [] (IE IQ) ll ?_
 intro uq dS
 refine qv 0 rfl rfl (qp Z 0 1 rfl (qp Z 0 2 rfl (ql 3 rfl 2 P6 rfl rfl rfl (qp d 0 4 rfl (qp d 0 5 rfl (qp d 6 6 rfl (ql 7 rfl 1 H1 rfl rfl rfl (qp lh 0 8 rfl (ql 9 rfl 0 C2 rfl rfl rfl ?_)))))))))
 obtain⟨⟨g,bB⟩,bV⟩:∃ q:Int × Bool,ik a.aa.aK.ls b.bf=q:=⟨_,rfl⟩
 obtain⟨ut,iX,pu,iY,bW⟩:=Iu dS
 refine qd 10 rfl (IP Tryz.call152 rfl (mZ _ _ B a.aa.aK.ls.length P l a.aa.aK.ls b.bf g bB iX s (bW _ 19 _ rfl aW) (fun Y Q=>⟨bW _ 20 _ rfl (az (Q6.2 ⟨Y,Q,b1⟩) aW),bq (φ:=fun _=>_) dS (i:=20) rfl (az (Q6.2 ⟨Y,Q,b1⟩) bn),(fun y1 k1=>⟨bW _ 20 _ rfl (az (Q6.2 ⟨Y,Q, .tail _ b1⟩) (az (Q6.2 ⟨y1,k1,b1⟩) aW)),bq (φ:=fun _=>_) dS (i:=20) rfl (az (Q6.2 ⟨Y,Q, .tail _ b1⟩) (az (Q6.2 ⟨y1,k1,b1⟩) bn))⟩)⟩) rfl e6 bV) ?_)
 rintro _ uu ⟨rfl,iZ,dU,dV⟩
 have dW:=iY _ _ iZ
 replace dU:0≤g∧g≤((a.aa.aK.ls.length:Nat):Int):=dU
 replace dV:Bool.toNat bB=0∨g < ((a.aa.aK.ls.length:Nat):Int):=dV
 refine⟨.inr ⟨_,dW⟩, ?_⟩
 refine qv 11 rfl rfl (qk (vI g) 12 rfl (qk (.bool bB) 13 rfl (qa 14 rfl rfl (qa 15 rfl rfl (qn (Iq (Ik (sr (Mn rfl ?_)))))))))
 rcases Ls (bB) with bu | bu
 have h217t:Bool.toNat bB=1:=by rw [bu]; rfl
 refine jT bu (Ik ?_)
 have lq:=dW.pf [1,2]
 refine pM [11] (IE (IE IQ)) lq ?_
 intro uw gK
 refine qv 0 rfl rfl (qp Z 0 1 rfl (qp Z 0 2 rfl (ql 3 rfl 1 P6 rfl rfl rfl (qp d 0 4 rfl (qp d 0 5 rfl (qp d 6 6 rfl (ql 7 rfl 0 H1 rfl rfl rfl (qt (v:=vJ (C6 g)) 8 rfl (fun _ _=>Ir (e:=g) (IA rfl) e6) (BC gK (qb 9 rfl 2 Q7 P5 rfl rfl rfl ?_))))))))))
 have gL:=gK.pf [0,1,2,19]
 refine Ic gL ?_
 obtain⟨bv,T⟩:=iG (ls:=l) (i:=C6 g) e9
 have pz:=eY s T
 refine qt (v:= .pointer (some ⟨ab B,ao B+(C6 g) *4,none⟩)) 10 rfl (fun _ ⟨_,H9⟩=>Iz (lW) rfl rfl ((H9.rds (i:=3) rfl).addr (i:=C6 g) e6) e6) ?_
 have lu:=gL.pf [20]
 have lv:=J5 (f:=aS.own) (i:=C6 g) (row bv.ah.A bv.ah.ls.length bv.ah.c (q4 af.cells bv.ah.ls) 149 3) (sepL (q4 af.own bv.ah.ls)) rfl T lu
 have lw:=lv.px [] [0,1] []
 have lD:=lw.pf [15,16]
 have lF:=Jc (aA N).symm lD
 have lG:=Je (f:=aS.own) (y:=(aS.mk b.bf a.aa.ax b.bi (G3 J K aG))) T lF
 have lI:=lG.pf [4]
 refine qe 11 rfl (Do.storeRow (vs:= [vI b.bf,vU a.aa.ax,vU b.bi, .slice J n.length K]) (o:=(C6 g) *4+0) (q:=ao B+(C6 g) *4) lI rfl e6 rfl P5 rfl rfl (Lj rfl) (ja aS.len T (Lj rfl)) (jJ (x:=bv) (f:=0) (vs:= [vI b.bf,vU a.aa.ax,vU b.bi, .slice J n.length K]) (y:=(aS.mk b.bf a.aa.ax b.bi (G3 J K aG))) aS.len (show put (aS.cells bv) 0 ([vI b.bf,vU a.aa.ax,vU b.bi, .slice J n.length K]:List Value)=aS.cells (aS.mk b.bf a.aa.ax b.bi (G3 J K aG)) from congrArg (fun z9=>([vI b.bf,vU a.aa.ax,vU b.bi, .slice J z9 K]:List Value)) (aA N).symm) (Lj rfl) T) ?_)
 intro uy lJ
 have pE:s0 (I3 l (C6 g) (aS.mk b.bf a.aa.ax b.bi (G3 J K aG)))=s0 (I3 a.aa.aK.ls (C6 g) (fF.mk b.bf a.aa.ax b.bi (E0 n))):=aA (jl s (congrArg (fun z9=>fF.mk b.bf a.aa.ax b.bi (E0 z9)) N))
 have pF:s0 (I3 a.aa.aK.ls (C6 g) (fF.mk b.bf a.aa.ax b.bi (E0 n)))=a.aa.aK.ls.length:=G4
 refine⟨.inl e7, ?_⟩
 refine qn (Iq (rt (tR (Fin.res (res0 rfl) ?_))))
 refine⟨.inl e7, ?_⟩
 refine qn (Iq (Ik ?_))
 have dX:=lJ.px [] [4] []
 refine Il (Mz rfl (Kz (vP X 1) (Lz (vI b.bf) dX 4 C2 (Kz (vP X 2) (Lz (vU b.bi) dX 4 D2 (Mz rfl ?_))))))
 have bX:a.aa.aK.ls.length=s0 (I3 a.aa.aK.ls (C6 g) (fF.mk b.bf a.aa.ax b.bi (E0 n))):=by first | omega | (simp only [G4]; done) | (simp only [G4,o2,s1,E7,o0,o1,H0]; omega)
 have lK:=Jc bX dX
 have lL:=lK.pf [2]
 have lM:=Jp 6 bX lL
 have lN:=lM.pf [1,2]
 have gM:=lN.pf [3,14,15,2,18,19,20,21,22,23,24,25,26,27]
 obtain⟨⟨cz,E⟩,dY⟩:∃ q:bU × aD,dL p0 b.bf b.bi 1 n (aD.mk (bZ.mk a.aa.au a.aa.ax a.aa.bG a.aa.aF (E0 a.aa.ag.ls) (E0 (r3 (C6 j) a.aa.ak.ls++((bH.mk b.bI b.bf a.aa.ax b.bi (E0 h))::r4 (C6 j) a.aa.ak.ls))) (E0 (I3 a.aa.aK.ls (C6 g) (fF.mk b.bf a.aa.ax b.bi (E0 n))))) a.bT (E0 (r3 (C6 O) a.aC.ls++r4 ((C6 O)+1) a.aC.ls)) a.bM a.bD a.bA a.bC a.bB a.dO a.dG a.dH a.dD a.dE)=q:=⟨_,rfl⟩
 obtain⟨uz,jb,pG,jc,dZ⟩:=Jj gM
 refine cl Tryz.call106 (jM _ _ Z p0 bG bI bA b.bf b.bi 1 J n.length K aG n d (aD.mk (bZ.mk a.aa.au a.aa.ax a.aa.bG a.aa.aF (E0 a.aa.ag.ls) (E0 (r3 (C6 j) a.aa.ak.ls++((bH.mk b.bI b.bf a.aa.ax b.bi (E0 h))::r4 (C6 j) a.aa.ak.ls))) (E0 (I3 a.aa.aK.ls (C6 g) (fF.mk b.bf a.aa.ax b.bi (E0 n))))) a.bT (E0 (r3 (C6 O) a.aC.ls++r4 ((C6 O)+1) a.aC.ls)) a.bM a.bD a.bA a.bC a.bB a.dO a.dG a.dH a.dD a.dE) aa ag bM bN B P dJ dK aO aP ah aR aU ai aV aX aj aY aZ ak bf bg au cz E jb bC N (dZ _ 1 _ rfl (az (Q6.2 ⟨_,(wY (aS.mk b.bf a.aa.ax b.bi (G3 J K aG)) T),b1⟩) (fun w9 Q a9 b9=>sZ (aA N) (aW w9 Q a9 b9)))) (fun Y Q=>⟨dZ _ 1 _ rfl (az (Q6.2 ⟨_,(wY (aS.mk b.bf a.aa.ax b.bi (G3 J K aG)) T), .tail _ b1⟩) (az (Q6.2 ⟨Y,Q,b1⟩) aW)),bq (φ:=fun _=>_) gM (i:=15) rfl (az (Q6.2 ⟨_,(wY (aS.mk b.bf a.aa.ax b.bi (G3 J K aG)) T), .tail _ b1⟩) (az (Q6.2 ⟨Y,Q,b1⟩) bn))⟩) rfl e6 g6 av ax aB aC aF e8 g2 g2 i1 dY) ?_
 rintro _ uA ⟨lQ,lS,lT,lU,lV,lX,lY,lZ,l5,l6,l7,l8,ma,mf,mg,mh,mi,mo,rfl,jd,d9,ek,eu,eB,eD,eF,eG⟩
 have aI:=jc _ _ jd
 have pQ:=aA d9
 have pR:=aA ek
 have pU:=aA eu
 have pV:=aA eB
 have pW:=aA eD
 have pX:=aA eF
 have pY:=aI.rowC (i:=1) rfl
 have p8:=aI.rowC (i:=4) rfl
 have p9:=aI.rowC (i:=6) rfl
 have qc:=aI.rowC (i:=8) rfl
 have qf:=aI.rowC (i:=10) rfl
 have qg:=aI.rowC (i:=12) rfl
 replace eG:cz.bF.ls.length=p0.bF.ls.length+1:=eG
 refine nt (Il (Mz rfl (Kz (vP X 0) (Lz (vU b.bI) aI 16 D2 (Kz (vP bL 4) (Lz (.slice L h.length M) aI 17 Tryz.isAgg58 ?_))))))
 obtain⟨gN,eH⟩:∃ q,fV cz b.bI h true=q:=⟨_,rfl⟩
 obtain⟨uB,je,qh,jf,jg⟩:=Ja aI
 refine cl Tryz.call27 (lm _ _ Z cz lQ lS lT d b.bI L h.length M h true gN je d9 (jg _ 16 _ rfl (az (Q6.2 ⟨_,u5 _ b1,b1⟩) aW)) rfl e6 i0 eH) ?_
 rintro _ uC ⟨mq,mr,mD,rfl,jh,eO⟩
 have gP:=jf _ _ jh
 have qi:=aA eO
 have qj:=gP.rowC (i:=1) rfl
 refine WL.nil (IL (res0 rfl) ?_)
 have mE:=gP.pk [0,1,2,3,18,19,14,15,26,27,4,5,6,7,8,9,10,11,12,13]
 obtain⟨rfl,rfl⟩:=fD (hr.symm.trans (show _=(gN,aD.mk (bZ.mk E.aa.au E.aa.ax E.aa.bG E.aa.aF (E0 a.aa.ag.ls) (E0 (r3 (C6 j) a.aa.ak.ls++((bH.mk b.bI b.bf a.aa.ax b.bi (E0 h))::r4 (C6 j) a.aa.ak.ls))) (E0 (I3 a.aa.aK.ls (C6 g) (fF.mk b.bf a.aa.ax b.bi (E0 n))))) E.bT (E0 (r3 (C6 O) a.aC.ls++r4 ((C6 O)+1) a.aC.ls)) E.bM E.bD E.bA E.bC E.bB E.dO E.dG E.dH E.dD E.dE) from et (ae (aT bY)) (et (ae bJ) (et (ip dH) (et (ae bF) (et (ae bT) (et (ae bV) (et (ip bu) (et (ae dY) (ae eH))))))))))
 exact⟨mq,mr,mD,bM,bN,(r3 (C6 j) p++((ay.mk b.bI b.bf a.aa.ax b.bi (G3 L M h))::r4 (C6 j) p)),B,P,(I3 l (C6 g) (aS.mk b.bf a.aa.ax b.bi (G3 J K aG))),dJ,dK,(r3 (C6 O) r++r4 ((C6 O)+1) r),lU,lV,lX,lY,lZ,l5,l6,l7,l8,ma,mf,mg,mh,mi,mo,(by(first | rw [← bD] | skip); (first | rw [← bE] | skip); (first | rw [← bX] | skip); first | done | rfl),mE,eO,(qZ (z:=(bH.mk b.bI b.bf a.aa.ax b.bi (E0 h))) G rfl),(jl s (congrArg (fun z9=>fF.mk b.bf a.aa.ax b.bi (E0 z9)) N)),(pK I),ek,eu,eB,eD,eF⟩
 have h217t:Bool.toNat bB=0:=by rw [bu]; rfl
 refine jF bu (sk ?_)
 have mF:=dW.pf [1,2]
 refine pM [19] IQ mF ?_
 intro uD gQ
 refine qv 0 rfl rfl (qp Z 0 1 rfl (qp Z 0 2 rfl (ql 3 rfl 1 P6 rfl rfl rfl (qv 4 rfl rfl (qp Z 0 5 rfl (qp Z 0 6 rfl (ql 7 rfl 1 P6 rfl rfl rfl (qp d 0 8 rfl (qp d 0 9 rfl (qp d 6 10 rfl (ql 11 rfl 0 H1 rfl rfl rfl (qv 12 rfl rfl (BC gQ (qb 13 rfl 2 Q7 P5 rfl rfl rfl ?_))))))))))))))
 refine qd 14 rfl (JX (cs:= [vI b.bf,vU a.aa.ax,vU b.bi, .slice J n.length K]) (t:=56) (sz:=4) (m:=1) gQ rfl rfl (fun _=>by kernel_rfl) rfl ?_)
 intro eP uE eQ
 replace eQ:=IX (y:=qC eP 1 (q4 aS.cells ([(aS.mk b.bf a.aa.ax b.bi (G3 J K aG))])) 56 4) (congrArg (fun z9=>qC eP 1 [vI b.bf,vU a.aa.ax,vU b.bi, .slice J z9 K] 56 4) (aA N).symm) eQ
 have gT:=eQ.pf [1,2,3]
 refine⟨.inr ⟨_,gT⟩, ?_⟩
 have mG:=gT.pf [14]
 have mH:=Jc (aA N).symm mG
 have mI:=mH.pf [20,4,21,0,15]
 obtain⟨uF,ji,qm,jk,qo⟩:=KA mI
 refine qd 15 rfl (IP Tryz.call155 rfl (yD _ _ B a.aa.aK.ls.length P l a.aa.aK.ls g (C6 g) eP (aS.mk b.bf a.aa.ax b.bi (G3 J K aG)) (fF.mk b.bf a.aa.ax b.bi (E0 n)) ji e6 s (Q8.inj (congrArg (fun z9=> [fF.mk b.bf a.aa.ax b.bi (E0 z9)]) N)).1 e6 e6 e6) ?_)
 rintro _ uG ⟨eT,eU,rfl,jm⟩
 have mJ:=jk _ _ jm
 have qw:s0 (r3 (C6 g) l++((aS.mk b.bf a.aa.ax b.bi (G3 J K aG))::r4 (C6 g) l))=s0 (r3 (C6 g) a.aa.aK.ls++((fF.mk b.bf a.aa.ax b.bi (E0 n))::r4 (C6 g) a.aa.aK.ls)):=by exact aA (qZ (z:=(fF.mk b.bf a.aa.ax b.bi (E0 n))) s (Q8.inj (congrArg (fun z9=> [fF.mk b.bf a.aa.ax b.bi (E0 z9)]) N)).1)
 have qx:s0 (r3 (C6 g) a.aa.aK.ls++((fF.mk b.bf a.aa.ax b.bi (E0 n))::r4 (C6 g) a.aa.aK.ls))=a.aa.aK.ls.length+1:=by simp only [o2,o0,s1,o1]; omega
 have gV:=mJ.pf [2,3,4]
 refine⟨.inr ⟨_,gV⟩, ?_⟩
 refine qp d 0 16 rfl (qp d 0 17 rfl (qp d 6 18 rfl ?_))
 refine qe 19 rfl (Do.store (vs:= [.slice eT (s0 (r3 (C6 g) a.aa.aK.ls++((fF.mk b.bf a.aa.ax b.bi (E0 n))::r4 (C6 g) a.aa.aK.ls))) eU]) (o:=6) gV rfl rfl Tryz.sizeOf31 rfl rfl rfl rfl ?_)
 intro uH mK
 refine⟨.inl e7, ?_⟩
 refine qn (IL (res0 rfl) ?_)
 refine⟨.inl e7, ?_⟩
 refine qn (Iq (Ik ?_))
 have eX:=mK.px [] [2] []
 refine Il (Mz rfl (Kz (vP X 1) (Lz (vI b.bf) eX 4 C2 (Kz (vP X 2) (Lz (vU b.bi) eX 4 D2 (Mz rfl ?_))))))
 have gW:=eX.pf [1,14,15,0,18,19,20,21,22,23,24,25,26,27]
 obtain⟨⟨cB,F⟩,eZ⟩:∃ q:bU × aD,dL p0 b.bf b.bi 1 n (aD.mk (bZ.mk a.aa.au a.aa.ax a.aa.bG a.aa.aF (E0 a.aa.ag.ls) (E0 (r3 (C6 j) a.aa.ak.ls++((bH.mk b.bI b.bf a.aa.ax b.bi (E0 h))::r4 (C6 j) a.aa.ak.ls))) (E0 (r3 (C6 g) a.aa.aK.ls++((fF.mk b.bf a.aa.ax b.bi (E0 n))::r4 (C6 g) a.aa.aK.ls)))) a.bT (E0 (r3 (C6 O) a.aC.ls++r4 ((C6 O)+1) a.aC.ls)) a.bM a.bD a.bA a.bC a.bB a.dO a.dG a.dH a.dD a.dE)=q:=⟨_,rfl⟩
 obtain⟨uI,jo,qy,jq,fe⟩:=Jj gW
 refine cl Tryz.call106 (jM _ _ Z p0 bG bI bA b.bf b.bi 1 J n.length K aG n d (aD.mk (bZ.mk a.aa.au a.aa.ax a.aa.bG a.aa.aF (E0 a.aa.ag.ls) (E0 (r3 (C6 j) a.aa.ak.ls++((bH.mk b.bI b.bf a.aa.ax b.bi (E0 h))::r4 (C6 j) a.aa.ak.ls))) (E0 (r3 (C6 g) a.aa.aK.ls++((fF.mk b.bf a.aa.ax b.bi (E0 n))::r4 (C6 g) a.aa.aK.ls)))) a.bT (E0 (r3 (C6 O) a.aC.ls++r4 ((C6 O)+1) a.aC.ls)) a.bM a.bD a.bA a.bC a.bB a.dO a.dG a.dH a.dD a.dE) aa ag bM bN eT eU dJ dK aO aP ah aR aU ai aV aX aj aY aZ ak bf bg au cB F jo bC N (fe _ 1 _ rfl (az (Q6.2 ⟨_,u5 _ b1,b1⟩) (fun w9 Q a9 b9=>sZ (aA N) (aW w9 Q a9 b9)))) (fun Y Q=>⟨fe _ 1 _ rfl (az (Q6.2 ⟨_,u5 _ b1, .tail _ b1⟩) (az (Q6.2 ⟨Y,Q,b1⟩) aW)),bq (φ:=fun _=>_) gW (i:=15) rfl (az (Q6.2 ⟨_,u5 _ b1, .tail _ b1⟩) (az (Q6.2 ⟨Y,Q,b1⟩) bn))⟩) rfl e6 g6 av ax aB aC aF e8 g2 g2 i1 eZ) ?_
 rintro _ uJ ⟨mM,mO,mP,mQ,mR,mU,mW,mY,ng,ni,nk,nu,ny,nz,nA,nC,nD,nE,rfl,jr,fo,fq,fu,fA,fB,fC,fE⟩
 have aJ:=jq _ _ jr
 have qz:=aA fo
 have qA:=aA fq
 have qB:=aA fu
 have qD:=aA fA
 have qE:=aA fB
 have qG:=aA fC
 have qH:=aJ.rowC (i:=1) rfl
 have qI:=aJ.rowC (i:=4) rfl
 have qJ:=aJ.rowC (i:=6) rfl
 have qK:=aJ.rowC (i:=8) rfl
 have qL:=aJ.rowC (i:=10) rfl
 have qM:=aJ.rowC (i:=12) rfl
 replace fE:cB.bF.ls.length=p0.bF.ls.length+1:=fE
 refine nt (Il (Mz rfl (Kz (vP X 0) (Lz (vU b.bI) aJ 16 D2 (Kz (vP bL 4) (Lz (.slice L h.length M) aJ 17 Tryz.isAgg58 ?_))))))
 obtain⟨gX,fG⟩:∃ q,fV cB b.bI h true=q:=⟨_,rfl⟩
 obtain⟨uK,jv,qO,jw,jy⟩:=Ja aJ
 refine cl Tryz.call27 (lm _ _ Z cB mM mO mP d b.bI L h.length M h true gX jv fo (jy _ 16 _ rfl (az (Q6.2 ⟨_,u5 _ b1,b1⟩) aW)) rfl e6 i0 fG) ?_
 rintro _ uL ⟨nG,nH,nI,rfl,jA,fH⟩
 have gY:=jw _ _ jA
 have qP:=aA fH
 have qQ:=gY.rowC (i:=1) rfl
 refine WL.nil (IL (res0 rfl) ?_)
 have nJ:=gY.pk [0,1,2,3,18,19,14,15,26,27,4,5,6,7,8,9,10,11,12,13]
 obtain⟨rfl,rfl⟩:=fD (hr.symm.trans (show _=(gX,aD.mk (bZ.mk F.aa.au F.aa.ax F.aa.bG F.aa.aF (E0 a.aa.ag.ls) (E0 (r3 (C6 j) a.aa.ak.ls++((bH.mk b.bI b.bf a.aa.ax b.bi (E0 h))::r4 (C6 j) a.aa.ak.ls))) (E0 (r3 (C6 g) a.aa.aK.ls++((fF.mk b.bf a.aa.ax b.bi (E0 n))::r4 (C6 g) a.aa.aK.ls)))) F.bT (E0 (r3 (C6 O) a.aC.ls++r4 ((C6 O)+1) a.aC.ls)) F.bM F.bD F.bA F.bC F.bB F.dO F.dG F.dH F.dD F.dE) from et (ae (aT bY)) (et (ae bJ) (et (ip dH) (et (ae bF) (et (ae bT) (et (ae bV) (et (fP bu) (et (ae eZ) (ae fG))))))))))
 exact⟨nG,nH,nI,bM,bN,(r3 (C6 j) p++((ay.mk b.bI b.bf a.aa.ax b.bi (G3 L M h))::r4 (C6 j) p)),eT,eU,(r3 (C6 g) l++((aS.mk b.bf a.aa.ax b.bi (G3 J K aG))::r4 (C6 g) l)),dJ,dK,(r3 (C6 O) r++r4 ((C6 O)+1) r),mQ,mR,mU,mW,mY,ng,ni,nk,nu,ny,nz,nA,nC,nD,nE,(by(first | rw [← bD] | skip); (first | rw [← bE] | skip); first | done | rfl),nJ,fH,(qZ (z:=(bH.mk b.bI b.bf a.aa.ax b.bi (E0 h))) G rfl),(qZ (z:=(fF.mk b.bf a.aa.ax b.bi (E0 n))) s (Q8.inj (congrArg (fun z9=> [fF.mk b.bf a.aa.ax b.bi (E0 z9)]) N)).1),(pK I),fq,fu,fA,fB,fC⟩
 refine jT (dT dH) (sr ?_)
 have nK:=iL.pf [2,3,4,5,6,7,8]
 have bR:=qX (f:=bK.own) u nK
 have qR:b.cB.ls.length≤b.cB.c∧b.cB.ls.length≤9223372036854775807:=bq bR (i:=0) rfl (φ:=fun _=>_) (az (Q6.2 ⟨b,D1 u,b1⟩) bn)
 have qU:b.aO.ls.length≤b.aO.c∧b.aO.ls.length≤9223372036854775807:=bq bR (i:=0) rfl (φ:=fun _=>_) (az (Q6.2 ⟨b,D1 u, .tail _ b1⟩) bn)
 have qW:b.bL.ls.length≤b.bL.c∧b.bL.ls.length≤9223372036854775807:=bq bR (i:=0) rfl (φ:=fun _=>_) (az (Q6.2 ⟨b,D1 u, .tail _ b2⟩) bn)
 have qY:b.ai.ls.length≤b.ai.c∧b.ai.ls.length≤9223372036854775807:=bq bR (i:=0) rfl (φ:=fun _=>_) (az (Q6.2 ⟨b,D1 u, .tail _ b3⟩) bn)
 refine Mz rfl (Mz rfl ?_)
 have nL:=bR.px [4,5,6,7,12] [] [1,2,3,8,9,10,11]
 obtain⟨⟨gZ,C⟩,fI⟩:∃ q:bU × aD,iy p0 O a=q:=⟨_,rfl⟩
 obtain⟨uM,jB,rf,jC,rq⟩:=JH nL
 refine cl Tryz.call63 (oQ _ _ Z p0 bG bI bA O d a aa ag U V B P W aM r aO aP ah aR aU ai aV aX aj aY aZ ak bf bg au gZ C jB bC I av ax aB aC aF e8 (by first | assumption | exact Mk.act f5 | exact qN g5 (q8 (x:=bK.abs b) R f5) | exact qN g5 (wJ (x:=bK.abs b) R _)) e8 fI) ?_
 rintro _ uN ⟨nM,nN,nO,nP,nR,nS,nT,nU,nV,nW,nX,nY,nZ,og,oh,ol,om,oo,oq,ou,ow,rfl,jD,fJ,fK,fM,fO,fQ,fT,fU⟩
 have aK:=jC _ _ jD
 have ru:=aA fJ
 have ry:=aA fK
 have rz:=aA fM
 have rA:=aA fO
 have rC:=aA fQ
 have rD:=aA fT
 have rE:=aA fU
 have rF:=aK.rowC (i:=1) rfl
 have rG:=aK.rowC (i:=4) rfl
 have rH:=aK.rowC (i:=6) rfl
 have rJ:=aK.rowC (i:=8) rfl
 have rM:=aK.rowC (i:=10) rfl
 have rO:=aK.rowC (i:=12) rfl
 have rP:=aK.rowC (i:=14) rfl
 refine nt (rt (tR (Fin.res (res0 rfl) ?_)))
 have oz:=aK.px [0,1,2,3,19,20,21,22] [16,17,18] []
 obtain⟨rfl,rfl⟩:=fD (hr.symm.trans (show _=(gZ,aD.mk (bZ.mk C.aa.au C.aa.ax C.aa.bG C.aa.aF (E0 a.aa.ag.ls) (E0 a.aa.ak.ls) (E0 a.aa.aK.ls)) C.bT (E0 C.aC.ls) C.bM C.bD C.bA C.bC C.bB C.dO C.dG C.dH C.dD C.dE) from et (ae (aT bY)) (et (ae bJ) (et (iN dH) (ae fI)))))
 exact⟨nM,nN,nO,U,V,p,B,P,l,nP,nR,nS,nT,nU,nV,nW,nX,nY,nZ,og,oh,ol,om,oo,oq,ou,ow,rfl,oz,fJ,G,s,fK,fM,fO,fQ,fT,fU⟩
end Go.Proofs.YtbkagebjhbphaaaGreat
