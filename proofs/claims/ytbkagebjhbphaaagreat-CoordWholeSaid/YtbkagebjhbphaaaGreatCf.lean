/-
 coord: asked, acknowledged, given up.
-/
import Derived.Test.YtbkagebjhbphaaaGreatCc
namespace Go.Proofs.YtbkagebjhbphaaaGreat
open Int renaming toNat→C6
open IntKind renaming i64→C3
open List renaming drop→r4,flatMap→q4,getD→B8,length→s0,length_append→o2,length_cons→s1,length_drop→o1,length_map→s3,length_nil→E7,length_replicate→H0,length_set→G4,length_take→o0,map→s5,mem_flatMap→Q6,mem_of_getElem?→D1,set→I3,take→r3
open Ll renaming mk→E0
open Sv renaming mk→G3
open _root_.Go.Proofs.Tryz renaming call104→Q1,call27→Q5,isAgg107→Q2,isAgg24→P6,isAgg28→D2,isAgg3→C2,isAgg30→D0,isAgg79→Q4,prog→v5,sizeOf107→Q3
open WL renaming nil→C4
open Wp renaming exit→C5,loop→C1
set_option maxRecDepth 100000
open Go.RowKit
set_option linter.unusedVariables false
set_option linter.unusedSectionVars false
set_option linter.unusedSimpArgs false
def lS (a:Nat):Bool:=
 false
theorem qU (w D a c) (H:Own w D w []) (hr:lS a=c):
    Calls v5 136 #[vU a] w (dA fun v w'=>v= .bool c∧Own w D w' []):=by
 refine cb Tryz.func136 ?_
 refine sr (Ar rfl (Mz rfl (Mz rfl (fw (.bool false) (IM (e:= !(decide (((a:Nat):Int)=((a:Nat):Int)))) yk i7) (An rfl (rt (rs ?_)))))))
 have b:=H.pk []
 obtain rfl:_=false:=hr.symm.trans rfl
 exact⟨rfl,b⟩
def gZ (c:Nat) (d:Nat):Int:=
 bnd (lS c) fun b=>bnd (lS d) fun a=>if b=true then if a=true then 0 else(-1) else if a=true then 1 else if((c:Nat):Int) < ((d:Nat):Int) then(-1) else if((c:Nat):Int) > ((d:Nat):Int) then 1 else 0
theorem mf (w D i j C) (H:Own w D w []) (hr:gZ i j=C):
    Calls v5 104 #[vU i,vU j] w (dA fun v w'=>v=vI C∧Own w D w' []):=by
 refine cb Tryz.func104 ?_
 refine sr (Ar rfl (Mz rfl ?_))
 obtain⟨l,a⟩:∃ q,lS i=q:=⟨_,rfl⟩
 obtain⟨J,m,E,n,F⟩:=Iu H
 refine cl Tryz.call136 (qU _ _ i l m a) ?_
 rintro _ K ⟨rfl,o⟩
 have t:=n _ _ o
 refine Ar rfl (Mz rfl ?_)
 obtain⟨k,b⟩:∃ q,lS j=q:=⟨_,rfl⟩
 obtain⟨L,p,G,r,I⟩:=Iu t
 refine cl Tryz.call136 (qU _ _ j k p b) ?_
 rintro _ M ⟨rfl,s⟩
 have e:=r _ _ s
 refine An rfl (Ik (sr (Mn rfl ?_)))
 rcases Ls (l) with c | c
 refine jT c (Ik (sr (Mn rfl ?_)))
 rcases Ls (k) with f | f
 refine jT f (sr (An rfl (rt (tR (tR (rs ?_))))))
 have u:=e.pk []
 obtain rfl:_=0:=hr.symm.trans (et (ae a) (et (ae b) (et (ip c) (ip f))))
 exact⟨rfl,u⟩
 refine jF f (sk (sr (An rfl (rt (tR (rs ?_))))))
 have x:=e.pk []
 obtain rfl:_=(-1):=hr.symm.trans (et (ae a) (et (ae b) (et (ip c) (fP f))))
 exact⟨rfl,x⟩
 refine jF c (sk (Ik (sr (Mn rfl ?_))))
 rcases Ls (k) with d | d
 refine jT d (sr (An rfl (rt (tR (rs ?_)))))
 have y:=e.pk []
 obtain rfl:_=1:=hr.symm.trans (et (ae a) (et (ae b) (et (fP c) (ip d))))
 exact⟨rfl,y⟩
 refine jF d (sk (Ik (sr (Mz rfl (Mz rfl (Kz (.bool (decide (((i:Nat):Int) < ((j:Nat):Int)))) (nt ?_)))))))
 by_cases g:((i:Nat):Int) < ((j:Nat):Int)
 refine jT (dT g) (sr (An rfl (rt (tR (rs ?_)))))
 have z:=e.pk []
 obtain rfl:_=(-1):=hr.symm.trans (et (ae a) (et (ae b) (et (fP c) (et (fP d) (ip g)))))
 exact⟨rfl,z⟩
 refine jF (dF g) (sk (Ik (sr (Mz rfl (Mz rfl (Kz (.bool (decide (((i:Nat):Int) > ((j:Nat):Int)))) (nt ?_)))))))
 by_cases h:((i:Nat):Int) > ((j:Nat):Int)
 refine jT (dT h) (sr (An rfl (rt (tR (rs ?_)))))
 have A:=e.pk []
 obtain rfl:_=1:=hr.symm.trans (et (ae a) (et (ae b) (et (fP c) (et (fP d) (et (iN g) (ip h))))))
 exact⟨rfl,A⟩
 refine jF (dF h) (sk (sr (An rfl (rt (rs ?_)))))
 have B:=e.pk []
 obtain rfl:_=0:=hr.symm.trans (et (ae a) (et (ae b) (et (fP c) (et (fP d) (et (iN g) (iN h))))))
 exact⟨rfl,B⟩
def di (l0:List bH) (f:Nat):Nat→Nat→Nat→Nat
  | 0,a,b=>default
  | c+1,a,b=>if((a:Nat):Int) < ((b:Nat):Int) then bnd (B8 l0 ((a+b) / 2) default) fun d=>bnd (gZ d.aX f) fun e=>if e < 0 then di l0 f c (((a+b) / 2)+1) b else di l0 f c a ((a+b) / 2) else a
def bQ (l0:List bH) (c:Nat):Int × Bool:=
 bnd (di l0 c ((l0.length - 0)+1) 0 l0.length) fun sLrL=>if((sLrL:Nat):Int) < ((l0.length:Nat):Int) then bnd (B8 l0 sLrL default) fun a=>bnd (gZ a.aX c) fun b=>(((sLrL:Nat):Int),decide (b=0)) else(((sLrL:Nat):Int),false)
theorem gU (w D y Z Y J l0 n K r1) (H:Own w D w []) (G:s5 ay.abs J=l0) (h:Ro w D fun w'=>aY w' 5 y Z (q4 ay.cells J)) (L:∀ x ∈ J,Ro w D (fun w'=>aY w' 1 x.au.A x.au.ls.length (q4 (eI .i64) x.au.ls))∧(x.au.ls.length≤x.au.c∧x.au.ls.length≤9223372036854775807)) (af:Z=l0.length) (aM:l0.length *56≤211106232532992) (hr:bQ l0 n=(K,r1)):
    Calls v5 132 #[.slice y Z Y,vU n, .func (.func 133) #[] #[]] w (dA fun v w'=>v= .tuple #[vI K, .bool r1]∧Own w D w' []∧(0≤K∧K≤((l0.length:Nat):Int))∧(Bool.toNat r1=0∨K < ((l0.length:Nat):Int))):=by
 subst af
 have aB:=aA G
 refine cb Tryz.func132 ?_
 refine sr (Az rfl (Ar rfl (Mz rfl (Kz (vJ l0.length) (Ar rfl (Mz rfl (Az rfl (An rfl (Ik (bo ?_))))))))))
 have ag:=H.pk []
 obtain⟨ah,g⟩:=rJ fun (a:Nat) (b:Nat) (o:Nat) w'=>Own w D w' []∧a≤b∧b≤l0.length∧b - a < o∧di l0 n ((l0.length - 0)+1) 0 l0.length=di l0 n o a b
 refine C1 (fun i:Nat × Nat × Nat=> [(9,vJ i.1),(10,vJ i.2.1),(8,vJ l0.length),(7, .bool false),(6,vI 0),(0, .slice y l0.length Y),(1,vU n),(2, .func (.func 133) #[] #[])]) ah (fun i=>i.2.2) (0,l0.length,(l0.length - 0)+1) ⟨rfl,rfl,rfl,rfl,rfl,rfl,rfl,rfl,trivial⟩ (g.2 ⟨ag,e6,e6,e6,rfl⟩) ?_
 rintro ⟨a,b,o⟩ aN M
 obtain⟨f,aC,aD,aF,p⟩:=g.1 M
 obtain⟨j,N⟩:∃ q,o=q+1:=⟨o - 1,e6⟩
 subst N
 refine Ik (sr (Mz rfl (Mz rfl (Kz (.bool (decide (((a:Nat):Int) < ((b:Nat):Int)))) (nt ?_)))))
 by_cases r:((a:Nat):Int) < ((b:Nat):Int)
 refine jT (dT r) (sk (bo (sr (Mz rfl (Mz rfl (fw (vJ (a+b)) (Ir (e:=C3.wrap (((a:Nat):Int)+((b:Nat):Int))) yk f0) (fw (vU (a+b)) (Ir (e:=IntKind.u64.wrap ((a+b:Nat):Int)) yk (IntWalk.u64_in _ e6)) (fw (vU ((a+b) / 2)) (Ir (e:=Int.fdiv ((a+b:Nat):Int) 2) yk (ny _ 1 _ f2)) (fw (vJ ((a+b) / 2)) (Ir (e:=C3.wrap (((a+b) / 2:Nat):Int)) yk (Lm _ e6)) (Ar rfl (Mz rfl (Mz rfl (Mz rfl ?_)))))))))))))
 obtain⟨l,s⟩:=dh (ls:=J) (i:=(a+b) / 2) ay.len f2 (f.ro h) e9
 have C:=eY G s
 have aG:=(L _ (D1 s)).2
 refine fw (.pointer (some ⟨ab y,ao y+((a+b) / 2) *5,none⟩)) (Iz (kM) rfl rfl ((f.ro h).addr (i:=(a+b) / 2) e6) e6) (fw (.agg (ay.cells l).toArray) (IB rfl (IJ (cs:=(ay.cells l)) Tryz.isAgg60 Tryz.sizeOf60 ((f.ro h).elem ay.len s f2))) (Mz rfl ?_))
 refine WL.do rfl (IY Tryz.call133 rfl rfl ?_ (fun _ _ k=>k))
 refine cb Tryz.func133 ?_
 refine sr ?_
 refine dn (ay.cells l) 60 f ?_
 intro ai aO O
 refine Ar rfl (Kz (vP ai 0) (Lz (vU l.aX) O 0 D2 (Mz rfl ?_)))
 obtain⟨I,t⟩:∃ q,gZ l.aX n=q:=⟨_,rfl⟩
 obtain⟨aP,P,aH,Q,aI⟩:=Iu O
 refine cl Q1 (mf _ _ l.aX n I P t) ?_
 rintro _ aQ ⟨rfl,R⟩
 have S:=Q _ _ R
 refine An rfl (rt (rs (Kz (.bool (decide (I < 0))) (nt ?_))))
 by_cases z:I < 0
 refine jT (dT z) (Il (Mz rfl (fw (vI ((((a+b) / 2)+1:Nat):Int)) (Ir (e:=C3.wrap ((((a+b) / 2:Nat):Int)+1)) yk f0) (Az rfl (C4 (bN ?_))))))
 have aj:=S.pk []
 exact II (((a+b) / 2)+1,b,j) ⟨rfl,rfl,rfl,rfl,rfl,rfl,rfl,rfl,trivial⟩ (g.2 ⟨aj,e6,e6,e6,et (p) (et (ip r) (et (ae (aT C)) (et (ae t) (ip z))))⟩) (by show j < j+1; omega)
 refine jF (dF z) (Il (Mz rfl (Az rfl (C4 (bN ?_)))))
 have ak:=S.pk []
 exact II (a,(a+b) / 2,j) ⟨rfl,rfl,rfl,rfl,rfl,rfl,rfl,rfl,trivial⟩ (g.2 ⟨ak,e6,e6,e6,et (p) (et (ip r) (et (ae (aT C)) (et (ae t) (iN z))))⟩) (by show j < j+1; omega)
 refine jF (dF r) (C5 (IC ?_))
 have E:di l0 n ((l0.length - 0)+1) 0 l0.length=a:=et (p) (iN r)
 refine IC (IK (Iq (sr (Mz rfl (Mz rfl (Mz rfl (Kz (.bool (decide (((a:Nat):Int) < ((l0.length:Nat):Int)))) (Mz rfl ?_))))))))
 by_cases d:((a:Nat):Int) < ((l0.length:Nat):Int)
 refine gw (.func (.func 133) #[] #[]) (dT d) (IA rfl) (gw (.slice y l0.length Y) (dT d) (IA rfl) (gw (vJ a) (dT d) (IA rfl) ?_))
 obtain⟨m,u⟩:=dh (ls:=J) (i:=a) ay.len f2 (f.ro h) e9
 have T:=eY G u
 have aJ:=(L _ (D1 u)).2
 refine gw (.pointer (some ⟨ab y,ao y+a *5,none⟩)) (dT d) (Iz (kM) rfl rfl ((f.ro h).addr (i:=a) e6) e6) (gw (.agg (ay.cells m).toArray) (dT d) (IB rfl (IJ (cs:=(ay.cells m)) Tryz.isAgg60 Tryz.sizeOf60 ((f.ro h).elem ay.len u f2))) (gw (vU n) (dT d) (IA rfl) ?_))
 refine Ju rfl rfl (dT d) rfl (IY Tryz.call133 rfl rfl ?_ (fun _ _ k=>k))
 refine cb Tryz.func133 ?_
 refine sr ?_
 refine dn (ay.cells m) 60 f ?_
 intro au aR U
 refine Ar rfl (Kz (vP au 0) (Lz (vU m.aX) U 0 D2 (Mz rfl ?_)))
 obtain⟨B,F⟩:∃ q,gZ m.aX n=q:=⟨_,rfl⟩
 obtain⟨aS,V,aK,W,aL⟩:=Iu U
 refine cl Q1 (mf _ _ m.aX n B V F) ?_
 rintro _ aU ⟨rfl,X⟩
 have av:=W _ _ X
 refine An rfl (rt (rs (Gz (.bool (decide (B=0))) (dT d) (fw (.bool (decide (B=0))) (Iw rfl (dT d) rfl) (Az rfl (An rfl (rt (Fin.res (lH rfl rfl rfl) ?_))))))))
 have ax:=av.pk []
 obtain⟨rfl,rfl⟩:=fD (hr.symm.trans (show _=(((a:Nat):Int),decide (B=0)) from et (ae E) (et (ip d) (et (ae (aT T)) (ae F)))))
 exact⟨rfl,ax,e6,i8⟩
 refine Sz (dF d) (Sz (dF d) (Sz (dF d) (Sz (dF d) (Sz (dF d) (Sz (dF d) (Sz (dF d) (Sz (dF d) (fw (.bool false) (Io rfl (dF d) rfl) (Az rfl (An rfl (rt (Fin.res (lH rfl rfl rfl) ?_))))))))))))
 have az:=f.pk []
 obtain⟨rfl,rfl⟩:=fD (hr.symm.trans (show _=(((a:Nat):Int),false) from et (ae E) (iN d)))
 exact⟨rfl,az,e6,i8⟩
def eF (l0:List ed) (f:Nat):Nat→Nat→Nat→Nat
  | 0,a,b=>default
  | c+1,a,b=>if((a:Nat):Int) < ((b:Nat):Int) then bnd (B8 l0 ((a+b) / 2) default) fun d=>bnd (gZ d.bI f) fun e=>if e < 0 then eF l0 f c (((a+b) / 2)+1) b else eF l0 f c a ((a+b) / 2) else a
def dN (l0:List ed) (c:Nat):Int × Bool:=
 bnd (eF l0 c ((l0.length - 0)+1) 0 l0.length) fun sLrL=>if((sLrL:Nat):Int) < ((l0.length:Nat):Int) then bnd (B8 l0 sLrL default) fun a=>bnd (gZ a.bI c) fun b=>(((sLrL:Nat):Int),decide (b=0)) else(((sLrL:Nat):Int),false)
theorem jN (w D B n0 c0 M l0 s N r1) (H:Own w D w []) (J:s5 bK.abs M=l0) (p:Ro w D fun w'=>aY w' 9 B n0 (q4 bK.cells M)) (n:∀ x ∈ M,Ro w D (fun w'=>aY w' 6 x.cB.A x.cB.ls.length (q4 aN.cells x.cB.ls))∧(x.cB.ls.length≤x.cB.c∧x.cB.ls.length≤9223372036854775807)∧Ro w D (fun w'=>aY w' 3 x.aO.A x.aO.ls.length (q4 bO.cells x.aO.ls))∧(x.aO.ls.length≤x.aO.c∧x.aO.ls.length≤9223372036854775807)∧(∀ h ∈ x.aO.ls,Ro w D (fun w'=>aY w' 6 h.aB.A h.aB.ls.length (q4 aN.cells h.aB.ls))∧(h.aB.ls.length≤h.aB.c∧h.aB.ls.length≤9223372036854775807)∧Ro w D (fun w'=>aY w' 1 h.aI.A h.aI.ls.length (q4 (eI .i64) h.aI.ls))∧(h.aI.ls.length≤h.aI.c∧h.aI.ls.length≤9223372036854775807))∧Ro w D (fun w'=>aY w' 1 x.bL.A x.bL.ls.length (q4 eL x.bL.ls))∧(x.bL.ls.length≤x.bL.c∧x.bL.ls.length≤9223372036854775807)∧Ro w D (fun w'=>aY w' 1 x.ai.A x.ai.ls.length (q4 (I9 (β:=af)) x.ai.ls))∧(x.ai.ls.length≤x.ai.c∧x.ai.ls.length≤9223372036854775807)∧(∀ h ∈ x.ai.ls,Ro w D (fun w'=>aY w' 3 h.A h.ls.length (q4 af.cells h.ls))∧(h.ls.length≤h.c∧h.ls.length≤9223372036854775807)∧(∀ L ∈ h.ls,Ro w D (fun w'=>aY w' 2 L.aj.A L.aj.ls.length (q4 aH.cells L.aj.ls))∧(L.aj.ls.length≤L.aj.c∧L.aj.ls.length≤9223372036854775807)))) (ai:n0=l0.length) (bi:l0.length *136≤211106232532992) (hr:dN l0 s=(N,r1)):
    Calls v5 102 #[.slice B n0 c0,vU s, .func (.func 103) #[] #[]] w (dA fun v w'=>v= .tuple #[vI N, .bool r1]∧Own w D w' []∧(0≤N∧N≤((l0.length:Nat):Int))∧(Bool.toNat r1=0∨N < ((l0.length:Nat):Int))):=by
 subst ai
 have aD:=aA J
 refine cb Tryz.func102 ?_
 refine sr (Az rfl (Ar rfl (Mz rfl (Kz (vJ l0.length) (Ar rfl (Mz rfl (Az rfl (An rfl (Ik (bo ?_))))))))))
 have aj:=H.pk []
 obtain⟨ak,o⟩:=rJ fun (a:Nat) (b:Nat) (t:Nat) w'=>Own w D w' []∧a≤b∧b≤l0.length∧b - a < t∧eF l0 s ((l0.length - 0)+1) 0 l0.length=eF l0 s t a b
 refine C1 (fun i:Nat × Nat × Nat=> [(9,vJ i.1),(10,vJ i.2.1),(8,vJ l0.length),(7, .bool false),(6,vI 0),(0, .slice B l0.length c0),(1,vU s),(2, .func (.func 103) #[] #[])]) ak (fun i=>i.2.2) (0,l0.length,(l0.length - 0)+1) ⟨rfl,rfl,rfl,rfl,rfl,rfl,rfl,rfl,trivial⟩ (o.2 ⟨aj,e6,e6,e6,rfl⟩) ?_
 rintro ⟨a,b,t⟩ bn O
 obtain⟨m,aF,aG,aI,u⟩:=o.1 O
 obtain⟨r,P⟩:∃ q,t=q+1:=⟨t - 1,e6⟩
 subst P
 refine Ik (sr (Mz rfl (Mz rfl (Kz (.bool (decide (((a:Nat):Int) < ((b:Nat):Int)))) (nt ?_)))))
 by_cases y:((a:Nat):Int) < ((b:Nat):Int)
 refine jT (dT y) (sk (bo (sr (Mz rfl (Mz rfl (fw (vJ (a+b)) (Ir (e:=C3.wrap (((a:Nat):Int)+((b:Nat):Int))) yk f0) (fw (vU (a+b)) (Ir (e:=IntKind.u64.wrap ((a+b:Nat):Int)) yk (IntWalk.u64_in _ e6)) (fw (vU ((a+b) / 2)) (Ir (e:=Int.fdiv ((a+b:Nat):Int) 2) yk (ny _ 1 _ f2)) (fw (vJ ((a+b) / 2)) (Ir (e:=C3.wrap (((a+b) / 2:Nat):Int)) yk (Lm _ e6)) (Ar rfl (Mz rfl (Mz rfl (Mz rfl ?_)))))))))))))
 obtain⟨f,j⟩:=dh (ls:=M) (i:=(a+b) / 2) bK.len f2 (m.ro p) e9
 have F:=eY J j
 have aJ:=(n _ (D1 j)).2.1
 have aK:=(n _ (D1 j)).2.2.2.1
 have aL:s0 (s5 bO.abs f.aO.ls)=f.aO.ls.length:=s3 ..
 have aM:=(n _ (D1 j)).2.2.2.2.2.2.1
 have aO:=(n _ (D1 j)).2.2.2.2.2.2.2.2.1
 have aP:s0 (s5 bP.abs f.ai.ls)=f.ai.ls.length:=s3 ..
 refine fw (.pointer (some ⟨ab B,ao B+((a+b) / 2) *9,none⟩)) (Iz (qF) rfl rfl ((m.ro p).addr (i:=(a+b) / 2) e6) e6) (fw (.agg (bK.cells f).toArray) (IB rfl (IJ (cs:=(bK.cells f)) Q2 Q3 ((m.ro p).elem bK.len j f2))) (Mz rfl ?_))
 refine WL.do rfl (IY Tryz.call103 rfl rfl ?_ (fun _ _ k=>k))
 refine cb Tryz.func103 ?_
 refine sr ?_
 refine dn (bK.cells f) 107 m ?_
 intro au bq Q
 refine Ar rfl (Kz (vP au 0) (Lz (vU f.bI) Q 0 D2 (Mz rfl ?_)))
 obtain⟨K,z⟩:∃ q,gZ f.bI s=q:=⟨_,rfl⟩
 obtain⟨bu,R,aQ,S,aR⟩:=Iu Q
 refine cl Q1 (mf _ _ f.bI s K R z) ?_
 rintro _ bv ⟨rfl,T⟩
 have U:=S _ _ T
 refine An rfl (rt (rs (Kz (.bool (decide (K < 0))) (nt ?_))))
 by_cases C:K < 0
 refine jT (dT C) (Il (Mz rfl (fw (vI ((((a+b) / 2)+1:Nat):Int)) (Ir (e:=C3.wrap ((((a+b) / 2:Nat):Int)+1)) yk f0) (Az rfl (C4 (bN ?_))))))
 have av:=U.pk []
 exact II (((a+b) / 2)+1,b,r) ⟨rfl,rfl,rfl,rfl,rfl,rfl,rfl,rfl,trivial⟩ (o.2 ⟨av,e6,e6,e6,et (u) (et (ip y) (et (ae (aT F)) (et (ae z) (ip C))))⟩) (by show r < r+1; omega)
 refine jF (dF C) (Il (Mz rfl (Az rfl (C4 (bN ?_)))))
 have ax:=U.pk []
 exact II (a,(a+b) / 2,r) ⟨rfl,rfl,rfl,rfl,rfl,rfl,rfl,rfl,trivial⟩ (o.2 ⟨ax,e6,e6,e6,et (u) (et (ip y) (et (ae (aT F)) (et (ae z) (iN C))))⟩) (by show r < r+1; omega)
 refine jF (dF y) (C5 (IC ?_))
 have G:eF l0 s ((l0.length - 0)+1) 0 l0.length=a:=et (u) (iN y)
 refine IC (IK (Iq (sr (Mz rfl (Mz rfl (Mz rfl (Kz (.bool (decide (((a:Nat):Int) < ((l0.length:Nat):Int)))) (Mz rfl ?_))))))))
 by_cases d:((a:Nat):Int) < ((l0.length:Nat):Int)
 refine gw (.func (.func 103) #[] #[]) (dT d) (IA rfl) (gw (.slice B l0.length c0) (dT d) (IA rfl) (gw (vJ a) (dT d) (IA rfl) ?_))
 obtain⟨g,l⟩:=dh (ls:=M) (i:=a) bK.len f2 (m.ro p) e9
 have V:=eY J l
 have aS:=(n _ (D1 l)).2.1
 have aU:=(n _ (D1 l)).2.2.2.1
 have aV:s0 (s5 bO.abs g.aO.ls)=g.aO.ls.length:=s3 ..
 have aW:=(n _ (D1 l)).2.2.2.2.2.2.1
 have aX:=(n _ (D1 l)).2.2.2.2.2.2.2.2.1
 have aZ:s0 (s5 bP.abs g.ai.ls)=g.ai.ls.length:=s3 ..
 refine gw (.pointer (some ⟨ab B,ao B+a *9,none⟩)) (dT d) (Iz (qF) rfl rfl ((m.ro p).addr (i:=a) e6) e6) (gw (.agg (bK.cells g).toArray) (dT d) (IB rfl (IJ (cs:=(bK.cells g)) Q2 Q3 ((m.ro p).elem bK.len l f2))) (gw (vU s) (dT d) (IA rfl) ?_))
 refine Ju rfl rfl (dT d) rfl (IY Tryz.call103 rfl rfl ?_ (fun _ _ k=>k))
 refine cb Tryz.func103 ?_
 refine sr ?_
 refine dn (bK.cells g) 107 m ?_
 intro ay bz W
 refine Ar rfl (Kz (vP ay 0) (Lz (vU g.bI) W 0 D2 (Mz rfl ?_)))
 obtain⟨E,I⟩:∃ q,gZ g.bI s=q:=⟨_,rfl⟩
 obtain⟨bA,X,bf,Y,bg⟩:=Iu W
 refine cl Q1 (mf _ _ g.bI s E X I) ?_
 rintro _ bB ⟨rfl,Z⟩
 have az:=Y _ _ Z
 refine An rfl (rt (rs (Gz (.bool (decide (E=0))) (dT d) (fw (.bool (decide (E=0))) (Iw rfl (dT d) rfl) (Az rfl (An rfl (rt (Fin.res (lH rfl rfl rfl) ?_))))))))
 have aB:=az.pk []
 obtain⟨rfl,rfl⟩:=fD (hr.symm.trans (show _=(((a:Nat):Int),decide (E=0)) from et (ae G) (et (ip d) (et (ae (aT V)) (ae I)))))
 exact⟨rfl,aB,e6,i8⟩
 refine Sz (dF d) (Sz (dF d) (Sz (dF d) (Sz (dF d) (Sz (dF d) (Sz (dF d) (Sz (dF d) (Sz (dF d) (fw (.bool false) (Io rfl (dF d) rfl) (Az rfl (An rfl (rt (Fin.res (lH rfl rfl rfl) ?_))))))))))))
 have aC:=m.pk []
 obtain⟨rfl,rfl⟩:=fD (hr.symm.trans (show _=(((a:Nat):Int),false) from et (ae G) (iN d)))
 exact⟨rfl,aC,e6,i8⟩
def mP (g:bU) (c:bW) (b:aD):bU:=
 bnd (bQ b.aa.ak.ls c.aX) fun a=>bnd (dN b.aC.ls c.aX) fun d=>if a.2=true then bnd (fV g c.aX ([c.aI]) a.2) fun e=>e else if d.2=true then g else bnd (fV g c.aX ([c.aI]) a.2) fun f=>f
set_option maxHeartbeats 4000000 in
theorem wM (w D g0) (p0:bU) (C E t) (d:bW) (ak aQ au av aR ax az aB aS aC e) (b:aD) (M N g h o O P j l p Q R S T U V W X Y Z) (r0:bU) (H:Own w D w [blk g0 [.pointer (some ⟨e,0,none⟩), .slice C p0.bF.ls.length E] 98,row C p0.bF.ls.length E (q4 bz.cells t) 42 21,sepL (q4 bz.own t),mK e b M b.aa.ag.ls.length N g h O P j l Q R S T U V W X Y Z]) (u:s5 bz.abs t=p0.bF.ls) (bq:aQ=d.aB.ls.length) (dz:Ro w D fun w'=>aY w' 6 ak d.aB.ls.length (q4 aN.cells d.aB.ls)) (dB:d.aB.ls.length≤au∧d.aB.ls.length≤9223372036854775807) (bu:s5 af.abs az=d.ah.ls) (bv:aR=d.ah.ls.length) (dC:Ro w D fun w'=>aY w' 3 av d.ah.ls.length (q4 af.cells az)) (dD:d.ah.ls.length≤ax∧d.ah.ls.length≤9223372036854775807) (dE:∀ x ∈ az,Ro w D (fun w'=>aY w' 2 x.aj.A x.aj.ls.length (q4 aH.cells x.aj.ls))∧(x.aj.ls.length≤x.aj.c∧x.aj.ls.length≤9223372036854775807)) (bA:aS=d.ag.ls.length) (dF:Ro w D fun w'=>aY w' 2 aB d.ag.ls.length (q4 aM.cells d.ag.ls)) (dG:d.ag.ls.length≤aC∧d.ag.ls.length≤9223372036854775807) (F:s5 ay.abs o=b.aa.ak.ls) (aF:Ro w D fun w'=>aY w' 5 g b.aa.ak.ls.length (q4 ay.cells o)) (bF:b.aa.ak.ls.length≤h∧b.aa.ak.ls.length≤9223372036854775807) (G:∀ x ∈ o,Ro w D (fun w'=>aY w' 1 x.au.A x.au.ls.length (q4 (eI .i64) x.au.ls))∧(x.au.ls.length≤x.au.c∧x.au.ls.length≤9223372036854775807)) (I:s5 bK.abs p=b.aC.ls) (aG:Ro w D fun w'=>aY w' 9 j b.aC.ls.length (q4 bK.cells p)) (bG:b.aC.ls.length≤l∧b.aC.ls.length≤9223372036854775807) (a:∀ x ∈ p,Ro w D (fun w'=>aY w' 6 x.cB.A x.cB.ls.length (q4 aN.cells x.cB.ls))∧(x.cB.ls.length≤x.cB.c∧x.cB.ls.length≤9223372036854775807)∧Ro w D (fun w'=>aY w' 3 x.aO.A x.aO.ls.length (q4 bO.cells x.aO.ls))∧(x.aO.ls.length≤x.aO.c∧x.aO.ls.length≤9223372036854775807)∧(∀ f ∈ x.aO.ls,Ro w D (fun w'=>aY w' 6 f.aB.A f.aB.ls.length (q4 aN.cells f.aB.ls))∧(f.aB.ls.length≤f.aB.c∧f.aB.ls.length≤9223372036854775807)∧Ro w D (fun w'=>aY w' 1 f.aI.A f.aI.ls.length (q4 (eI .i64) f.aI.ls))∧(f.aI.ls.length≤f.aI.c∧f.aI.ls.length≤9223372036854775807))∧Ro w D (fun w'=>aY w' 1 x.bL.A x.bL.ls.length (q4 eL x.bL.ls))∧(x.bL.ls.length≤x.bL.c∧x.bL.ls.length≤9223372036854775807)∧Ro w D (fun w'=>aY w' 1 x.ai.A x.ai.ls.length (q4 (I9 (β:=af)) x.ai.ls))∧(x.ai.ls.length≤x.ai.c∧x.ai.ls.length≤9223372036854775807)∧(∀ f ∈ x.ai.ls,Ro w D (fun w'=>aY w' 3 f.A f.ls.length (q4 af.cells f.ls))∧(f.ls.length≤f.c∧f.ls.length≤9223372036854775807)∧(∀ y2 ∈ f.ls,Ro w D (fun w'=>aY w' 2 y2.aj.A y2.aj.ls.length (q4 aH.cells y2.aj.ls))∧(y2.aj.ls.length≤y2.aj.c∧y2.aj.ls.length≤9223372036854775807)))) (eB:b.aa.ag.ls.length≤1000∧b.aa.ak.ls.length≤1000∧b.aa.aK.ls.length≤1000∧b.aC.ls.length≤1000∧p0.bF.ls.length≤100000) (hr:mP p0 d b=r0):
    Calls v5 59 #[vP g0 0, .agg (iA d.av d.aI d.eO d.aP d.dK d.fA d.aU d.ax d.aX d.eQ d.bG d.aF d.eG d.cZ d.xN d.fe d.cu.aJ d.cu.aR ak aQ au av aR ax aB aS aC).toArray] w (dA fun v w'=> ∃ aI aJ K,v= .tuple #[]∧Own w D w' [blk g0 [vP e 0, .slice aI r0.bF.ls.length aJ] 98,row aI r0.bF.ls.length aJ (q4 bz.cells K) 42 21,sepL (q4 bz.own K),mK e b M b.aa.ag.ls.length N g h O P j l Q R S T U V W X Y Z]∧(s5 bz.abs K=r0.bF.ls)):=by
 subst bq bv bA
 have dw:=aA u
 have dx:=aA bu
 have bD:=aA F
 have bE:=aA I
 have dH:=H.rowC (i:=1) rfl
 refine cb Tryz.func59 ?_
 refine sr ?_
 refine dn (gK d ak au av ax aB aC) 42 H ?_
 intro ah eD dI
 refine nt (Ik ?_)
 refine Db [] (IE IQ) dI ?_
 intro eF bH
 refine qv 0 rfl rfl (qp g0 0 1 rfl (qp g0 0 2 rfl (ql 3 rfl 1 P6 rfl rfl rfl (qp ah 8 4 rfl (ql 5 rfl 0 D2 rfl rfl rfl ?_)))))
 refine GX.do 6 rfl e7 (IP Tryz.call95 rfl ?_ (fun _ _ k=>k))
 refine cb Tryz.func95 ?_
 refine sr (Az rfl (Ar rfl (Mz rfl (Kz (vP e 0) (Kz (vP e 0) (Kz (vP e 5) (Lz (.slice g b.aa.ak.ls.length h) bH 4 D0 (Mz rfl ?_))))))))
 obtain⟨⟨ai,r⟩,aa⟩:∃ q:Int × Bool,bQ b.aa.ak.ls d.aX=q:=⟨_,rfl⟩
 obtain⟨eG,bI,aT,bJ,dW⟩:=Iu bH
 refine cl Tryz.call132 (gU _ _ g b.aa.ak.ls.length h o b.aa.ak.ls d.aX ai r bI F (aT _ aF) (fun z B=>⟨aT _ (G z B).1,(G z B).2⟩) rfl e6 aa) ?_
 rintro _ eH ⟨rfl,bL,aU,aV⟩
 have bM:=bJ _ _ bL
 replace aU:0≤ai∧ai≤((b.aa.ak.ls.length:Nat):Int):=aU
 replace aV:Bool.toNat r=0∨ai < ((b.aa.ak.ls.length:Nat):Int):=aV
 refine Kz (vI ai) (Kz (.bool r) (Az rfl (An rfl (rt (Fin.res (lH rfl rfl rfl) ?_)))))
 refine⟨.inr ⟨_,bM⟩, ?_⟩
 refine qv 7 rfl rfl (qk (vI ai) 8 rfl (qk (.bool r) 9 rfl (qa 10 rfl rfl (qa 11 rfl rfl (qn (Iq (Ik ?_)))))))
 refine Db [] (IE IQ) bM ?_
 intro eO bN
 refine qv 0 rfl rfl (qp g0 0 1 rfl (qp g0 0 2 rfl (ql 3 rfl 1 P6 rfl rfl rfl (qp ah 8 4 rfl (ql 5 rfl 0 D2 rfl rfl rfl ?_)))))
 refine GX.do 6 rfl e7 (IP Tryz.call62 rfl ?_ (fun _ _ k=>k))
 refine cb Tryz.func62 ?_
 refine sr (Az rfl (Ar rfl (Mz rfl (Kz (vP e 0) (Kz (vP e 8) (Lz (.slice j b.aC.ls.length l) bN 4 Q4 (Mz rfl ?_)))))))
 obtain⟨⟨aj,s⟩,ag⟩:∃ q:Int × Bool,dN b.aC.ls d.aX=q:=⟨_,rfl⟩
 obtain⟨eP,bP,m,bR,dX⟩:=Iu bN
 refine cl Tryz.call102 (jN _ _ j b.aC.ls.length l p b.aC.ls d.aX aj s bP I (m _ aG) (fun z B=>⟨m _ (a z B).1,(a z B).2.1,m _ (a z B).2.2.1,(a z B).2.2.2.1,(fun f k1=>⟨m _ ((a z B).2.2.2.2.1 f k1).1,((a z B).2.2.2.2.1 f k1).2.1,m _ ((a z B).2.2.2.2.1 f k1).2.2.1,((a z B).2.2.2.2.1 f k1).2.2.2⟩),m _ (a z B).2.2.2.2.2.1,(a z B).2.2.2.2.2.2.1,m _ (a z B).2.2.2.2.2.2.2.1,(a z B).2.2.2.2.2.2.2.2.1,(fun f k1=>⟨m _ ((a z B).2.2.2.2.2.2.2.2.2 f k1).1,((a z B).2.2.2.2.2.2.2.2.2 f k1).2.1,(fun y2 k2=>⟨m _ (((a z B).2.2.2.2.2.2.2.2.2 f k1).2.2 y2 k2).1,(((a z B).2.2.2.2.2.2.2.2.2 f k1).2.2 y2 k2).2⟩)⟩)⟩) rfl e6 ag) ?_
 rintro _ eQ ⟨rfl,bS,aX,aZ⟩
 have J:=bR _ _ bS
 replace aX:0≤aj∧aj≤((b.aC.ls.length:Nat):Int):=aX
 replace aZ:Bool.toNat s=0∨aj < ((b.aC.ls.length:Nat):Int):=aZ
 refine Kz (vI aj) (Kz (.bool s) (Az rfl (An rfl (rt (Fin.res (lH rfl rfl rfl) ?_)))))
 refine⟨.inr ⟨_,J⟩, ?_⟩
 refine qv 7 rfl rfl (qk (vI aj) 8 rfl (qk (.bool s) 9 rfl (qa 10 rfl rfl (qa 11 rfl rfl (qn (Iq (sr (Mz rfl (Mz rfl ?_)))))))))
 rcases Ls (r) with n | n
 have h54t:Bool.toNat r=1:=by rw [n]; rfl
 refine Sz n (Sz n (fw (.bool true) (Iw rfl n rfl) (nt (jt (Il (Mz rfl (Kz (vP ah 8) (Lz (vU d.aX) J 0 D2 (Kz (vP ah 1) (Lz (vI d.aI) J 0 C2 ?_))))))))))
 refine jV [vI d.aI] 3 1 1 J ?_
 intro bT eT bB
 replace bB:=IX (y:=row bT 1 1 (q4 (eI .i64) ([d.aI])) 3 1) rfl bB
 refine Mz rfl ?_
 have dJ:=bB.pb [0,1,5]
 obtain⟨bV,bf⟩:∃ q,fV p0 d.aX ([d.aI]) r=q:=⟨_,rfl⟩
 obtain⟨eU,bX,dY,bY,bZ⟩:=Ja dJ
 refine cl Q5 (lm _ _ g0 p0 C E t e d.aX bT 1 1 ([d.aI]) r bV bX u (bZ _ 0 _ rfl aW) rfl i7 i0 bf) ?_
 rintro _ eX ⟨dK,dL,dM,rfl,cu,bg⟩
 have cz:=bY _ _ cu
 have dZ:=aA bg
 have d9:=cz.rowC (i:=1) rfl
 refine C4 (IL (res0 rfl) ?_)
 have dO:=cz.pk [0,1,2,5]
 obtain rfl:_=bV:=hr.symm.trans (et (ae aa) (et (ae ag) (et (ip n) (ae bf))))
 exact⟨dK,dL,dM,rfl,dO,bg⟩
 have h54t:Bool.toNat r=0:=by rw [n]; rfl
 refine I7 (v:= .bool s) rfl rfl n rfl (IA rfl) (Gz (.bool (!s)) n (fw (.bool (!s)) (Io rfl n rfl) (nt ?_)))
 rcases Ls (s) with L | L
 have h76t:Bool.toNat s=1:=by rw [L]; rfl
 refine jF (cn L) (IU (IL (res0 rfl) ?_))
 have dP:=J.px [] [0] []
 obtain rfl:_=p0:=hr.symm.trans (et (ae aa) (et (ae ag) (et (fP n) (ip L))))
 exact⟨C,E,t,rfl,dP,u⟩
 have h76t:Bool.toNat s=0:=by rw [L]; rfl
 refine jT (cn L) (Il (Mz rfl (Kz (vP ah 8) (Lz (vU d.aX) J 0 D2 (Kz (vP ah 1) (Lz (vI d.aI) J 0 C2 ?_))))))
 refine jV [vI d.aI] 3 1 1 J ?_
 intro cB eY bC
 replace bC:=IX (y:=row cB 1 1 (q4 (eI .i64) ([d.aI])) 3 1) rfl bC
 refine Mz rfl ?_
 have dQ:=bC.pb [0,1,5]
 obtain⟨cK,bi⟩:∃ q,fV p0 d.aX ([d.aI]) r=q:=⟨_,rfl⟩
 obtain⟨eZ,cO,ed,cZ,df⟩:=Ja dQ
 refine cl Q5 (lm _ _ g0 p0 C E t e d.aX cB 1 1 ([d.aI]) r cK cO u (df _ 0 _ rfl aW) rfl i7 i0 bi) ?_
 rintro _ fe ⟨dR,dS,dU,rfl,dh,bn⟩
 have di:=cZ _ _ dh
 have ek:=aA bn
 have eu:=di.rowC (i:=1) rfl
 refine C4 (IL (res0 rfl) ?_)
 have dV:=di.pk [0,1,2,5]
 obtain rfl:_=cK:=hr.symm.trans (et (ae aa) (et (ae ag) (et (fP n) (et (fP L) (ae bi)))))
 exact⟨dR,dS,dU,rfl,dV,bn⟩
def gM (a:bW):List Int→Nat→Unit ⊕ Int
  | [],b=>Sum.inl ()
  | c::d,b=>if c=a.aI then Sum.inr ((b:Nat):Int) else gM a d (b+1)
def mY (l0:List Int) (a:bW):Int:=
 lp (gM a l0 0) fun _=>(-1)
theorem rP (w D C R S l0 m) (a:bW) (d f g h n j l Q) (H:Own w D w [blk m (gK a d f g h j l) 42]) (z:Ro w D fun w'=>aY w' 1 C R (q4 (eI .i64) l0)) (T:R=l0.length) (aa:l0.length≤9223372036854775807) (F:Ro w D fun w'=>aY w' 6 d a.aB.ls.length (q4 aN.cells a.aB.ls)) (G:a.aB.ls.length≤f∧a.aB.ls.length≤9223372036854775807) (p:s5 af.abs n=a.ah.ls) (I:Ro w D fun w'=>aY w' 3 g a.ah.ls.length (q4 af.cells n)) (J:a.ah.ls.length≤h∧a.ah.ls.length≤9223372036854775807) (K:∀ x ∈ n,Ro w D (fun w'=>aY w' 2 x.aj.A x.aj.ls.length (q4 aH.cells x.aj.ls))∧(x.aj.ls.length≤x.aj.c∧x.aj.ls.length≤9223372036854775807)) (L:Ro w D fun w'=>aY w' 2 j a.ag.ls.length (q4 aM.cells a.ag.ls)) (M:a.ag.ls.length≤l∧a.ag.ls.length≤9223372036854775807) (hr:mY l0 a=Q):
    Calls v5 134 #[.slice C R S, .func (.func 97) #[] #[vP m 0]] w (dA fun v w'=>v=vI Q∧Own w D w' [blk m (gK a d f g h j l) 42]∧(-1≤Q∧Q < ((l0.length:Nat):Int))):=by
 subst T
 have E:=aA p
 refine cb Tryz.func134 ?_
 refine sr (An rfl (Ik (sr (Mz rfl (Kz (vJ l0.length) (Mn rfl (bo ?_)))))))
 have U:=H.pf []
 obtain⟨V,r⟩:=lF fun (b:Nat) w'=>Own w D w' [blk m (gK a d f g h j l) 42]∧b≤l0.length∧gM a l0 0=gM a (r4 b l0) b
 refine C1 (fun i:Nat=> [(4,vI 0),(8,vJ i),(7,vJ l0.length),(0, .slice C l0.length S),(1, .func (.func 97) #[] #[vP m 0])]) V (fun i=>l0.length - i) 0 ⟨rfl,rfl,rfl,rfl,rfl,trivial⟩ (r.2 ⟨U,e6,rfl⟩) ?_
 rintro b ae N
 obtain⟨o,Z,s⟩:=r.1 N
 refine sr (Kz (.bool (decide (((b:Nat):Int) < ((l0.length:Nat):Int)))) (nt (Ik ?_)))
 by_cases O:((b:Nat):Int) < ((l0.length:Nat):Int)
 obtain⟨B,u⟩:=dh (ls:=l0) (i:=b) iL f2 (o.ro z) e9
 have y:=drop_at u
 refine jT (dT O) (sk (Ik (bo (sr (Mz rfl (Ar rfl (Mz rfl (Mz rfl (Mz rfl (fw (.pointer (some ⟨ab C,ao C+b *1,none⟩)) (Iz (mq) rfl rfl ((o.ro z).addr (i:=b) e6) e6) (fw (vI B) (IB rfl (bJ.one C2 (((o.ro z).elem iL u f2).at_ (k:=0) rfl))) ?_)))))))))))
 refine WL.do rfl (IY Tryz.call97 rfl rfl ?_ (fun _ _ k=>k))
 refine cb Tryz.func97 ?_
 refine sr (Ar rfl (Mz rfl (Kz (vP m 1) (Lz (vI a.aI) o 0 C2 (Kz (.bool (decide (B=a.aI))) (An rfl (rt (rs (nt ?_)))))))))
 by_cases t:B=a.aI
 refine jT (dT t) (sr (Mz rfl (An rfl (rt (bR (tR (tR (bR (tR (rs ?_))))))))))
 have W:=o.pf []
 obtain rfl:_=((b:Nat):Int):=hr.symm.trans (gL (et (s) (et (congrArg (fun q=>gM a q b) y) (ip t))))
 exact⟨rfl,W,e6⟩
 refine jF (dF t) (IU (bN (Iq (Il (fw (vJ (b+1)) (Ir (e:=C3.wrap (((b:Nat):Int)+1)) yk f0) (Mz rfl (C4 ?_)))))))
 have X:=o.pf []
 exact II (b+1) ⟨rfl,rfl,rfl,rfl,rfl,trivial⟩ (r.2 ⟨X,e6,et (s) (et (congrArg (fun q=>gM a q b) y) (iN t))⟩) (by show l0.length - (b+1) < l0.length - b; omega)
 refine jF (dF O) (C5 (IC ?_))
 have P:gM a l0 0=Sum.inl ():=et (s) (et (congrArg (fun q=>gM a q b) (dZ (ls:=l0) (i:=b) e6)) rfl)
 refine IC (IK (Iq (sr (An rfl (rt (rs ?_))))))
 have Y:=o.pf []
 obtain rfl:_=(-1):=hr.symm.trans (mF P)
 exact⟨rfl,Y,e6⟩
def gJ (l0:List Int) (a:bW):Nat→Int→Int→List Int→Int × (List Int)
  | 0,b,c,d=>default
  | f+1,b,c,d=>if c < ((l0.length:Nat):Int) then bnd (B8 d (C6 c) default) fun e=>if e=a.aI then gJ l0 a f b (c+1) d else gJ l0 a f (b+1) (c+1) (I3 d (C6 b) e) else(b,d)
def ig (l0:List Int) (b:bW):(List Int):=
 bnd (mY l0 b) fun a=>if a=(-1) then l0 else bnd (gJ l0 b ((C6 (((l0.length:Nat):Int) - (a+1)))+1) a (a+1) l0) fun sLrbfL=>(r3 (C6 sLrbfL.1) sLrbfL.2)
theorem rf (w D u n0 G l0 p) (a:bW) (h d j f s l g X) (H:Own w D w [row u n0 G (q4 (eI .i64) l0) 3 1,blk p (gK a h d j f l g) 42]) (aC:n0=l0.length) (bB:l0.length *8≤211106232532992) (J:Ro w D fun w'=>aY w' 6 h a.aB.ls.length (q4 aN.cells a.aB.ls)) (Y:a.aB.ls.length≤d∧a.aB.ls.length≤9223372036854775807) (z:s5 af.abs s=a.ah.ls) (K:Ro w D fun w'=>aY w' 3 j a.ah.ls.length (q4 af.cells s)) (Z:a.ah.ls.length≤f∧a.ah.ls.length≤9223372036854775807) (B:∀ x ∈ s,Ro w D (fun w'=>aY w' 2 x.aj.A x.aj.ls.length (q4 aH.cells x.aj.ls))∧(x.aj.ls.length≤x.aj.c∧x.aj.ls.length≤9223372036854775807)) (L:Ro w D fun w'=>aY w' 2 l a.ag.ls.length (q4 aM.cells a.ag.ls)) (aa:a.ag.ls.length≤g∧a.ag.ls.length≤9223372036854775807) (bC:l0.length≤1000000) (hr:ig l0 a=X):
    Calls v5 96 #[.slice u n0 G, .func (.func 97) #[] #[vP p 0]] w (dA fun v w'=> ∃ B0 b0,v= .slice B0 X.length b0∧Own w D w' [row B0 X.length b0 (q4 (eI .i64) X) 3 1,blk p (gK a h d j f l g) 42]∧(X.length≤l0.length)):=by
 subst aC
 have W:=aA z
 have bD:=H.rowC (i:=0) rfl
 refine cb Tryz.func96 ?_
 refine sr (Ar rfl (Mz rfl (Mz rfl ?_)))
 have aD:=H.pb [0]
 obtain⟨n,M⟩:∃ q,mY l0 a=q:=⟨_,rfl⟩
 obtain⟨bE,ag,E,ah,ai⟩:=IZ aD
 refine cl Tryz.call134 (rP _ _ u l0.length G l0 p a h d j f s l g n ag (ai _ 0 _ rfl aW) rfl e6 (E _ J) (show a.aB.ls.length≤d∧a.aB.ls.length≤9223372036854775807 from by omega) z (E _ K) (show a.ah.ls.length≤f∧a.ah.ls.length≤9223372036854775807 from by omega) (fun x9 h9=>⟨E _ (B x9 h9).1,(B x9 h9).2⟩) (E _ L) (show a.ag.ls.length≤g∧a.ag.ls.length≤9223372036854775807 from by omega) M) ?_
 rintro _ bF ⟨rfl,aj,U⟩
 have ak:=ah _ _ aj
 replace U: -1≤n∧n < ((l0.length:Nat):Int):=U
 refine An rfl (Ik (sr (Mz rfl (Kz (.bool (decide (n=(-1)))) (nt ?_)))))
 by_cases S:n=(-1)
 refine jT (dT S) (sr (Mz rfl (An rfl (rt (tR (rs ?_))))))
 have aF:=ak.pb [0]
 obtain rfl:_=l0:=hr.symm.trans (et (ae M) (ip S))
 exact⟨u,G,rfl,aF,j8⟩
 refine jF (dF S) (sk (Ik (sr (Mz rfl (fw (vI (n+1)) (Ir (e:=C3.wrap (n+1)) yk g1) (An rfl (bo ?_)))))))
 have aG:=ak.pf []
 obtain⟨aI,F⟩:=tq fun (b:Int) (m:Int) r (N:Nat) w'=>Own w D w' [blk p (gK a h d j f l g) 42,row u l0.length G (q4 (eI .i64) r) 3 1]∧r.length=l0.length∧(0≤b∧b≤m∧m≤((l0.length:Nat):Int))∧C6 (((l0.length:Nat):Int) - m) < N∧gJ l0 a ((C6 (((l0.length:Nat):Int) - (n+1)))+1) n (n+1) l0=gJ l0 a N b m r
 refine C1 (fun i:Int × Int × (List Int) × Nat=> [(5,vI i.1),(6,vI i.2.1),(4, .slice none 0 0),(0, .slice u l0.length G),(1, .func (.func 97) #[] #[vP p 0])]) aI (fun i=>i.2.2.2) (n,n+1,l0,(C6 (((l0.length:Nat):Int) - (n+1)))+1) ⟨rfl,rfl,rfl,rfl,rfl,trivial⟩ (F.2 ⟨aG,by first | omega | (simp only [G4] <;> omega) | (simp only [H0]),e6,e6,rfl⟩) ?_
 rintro ⟨b,m,r,N⟩ bG au
 obtain⟨t,bi,bn,bq,O⟩:=F.1 au
 obtain⟨I,av⟩:∃ q,N=q+1:=⟨N - 1,e6⟩
 subst av
 refine Ik (sr (Mz rfl (Mz rfl (Kz (vJ l0.length) (Kz (.bool (decide (m < ((l0.length:Nat):Int)))) (nt ?_))))))
 by_cases P:m < ((l0.length:Nat):Int)
 refine jT (dT P) (sk (Ik (bo (sr (Mz rfl (fw (vJ (C6 m)) (Ir (e:=m) (IA rfl) e6) ?_))))))
 obtain⟨C,Q⟩:=dh (ls:=r) (i:=C6 m) iL f2 (t.rds (i:=1) rfl) e9
 refine fw (.pointer (some ⟨ab u,ao u+(C6 m) *1,none⟩)) (Iz (mq) rfl rfl ((t.rds (i:=1) rfl).addr (i:=C6 m) e6) e6) (fw (vI C) (IB rfl (bJ.one C2 (((t.rds (i:=1) rfl).elem iL Q f2).at_ (k:=0) rfl))) (Ar rfl (Mz rfl (Mz rfl ?_))))
 refine WL.do rfl (IY Tryz.call97 rfl rfl ?_ (fun _ _ k=>k))
 refine cb Tryz.func97 ?_
 refine sr (Ar rfl (Mz rfl (Kz (vP p 1) (Lz (vI a.aI) t 0 C2 (Kz (.bool (decide (C=a.aI))) (An rfl (rt (rs (fw (.bool (decide (¬ (C=a.aI)))) (IM (e:= !(decide (C=a.aI))) yk decide_not.symm) (nt ?_))))))))))
 by_cases T:C=a.aI
 refine jF (dF (Lr T)) (IU (bN (Iq (Il (Mz rfl (fw (vI (m+1)) (Ir (e:=C3.wrap (m+1)) yk g1) (Az rfl (C4 ?_))))))))
 have aJ:=t.pf []
 exact II (b,m+1,r,I) ⟨rfl,rfl,rfl,rfl,rfl,trivial⟩ (F.2 ⟨aJ,by first | omega | (simp only [G4] <;> omega) | (simp only [H0]),e6,e6,Eq.trans (O) (Eq.trans (if_pos P) (Eq.trans (ae (aT Q)) (if_pos T)))⟩) (by show I < I+1; omega)
 refine jT (dT T) (sr (Mz rfl (fw (vJ (C6 b)) (Ir (e:=b) (IA rfl) e6) (Mz rfl ?_))))
 obtain⟨bH,V⟩:=dh (ls:=r) (i:=C6 b) iL f2 (t.rds (i:=1) rfl) e9
 refine fw (.pointer (some ⟨ab u,ao u+(C6 b) *1,none⟩)) (Iz (mq) rfl rfl ((t.rds (i:=1) rfl).addr (i:=C6 b) e6) e6) ?_
 have aK:=t.pb [0]
 refine Jz (Do.storeRow (vs:= [vI C]) (o:=(C6 b) *1+0) (q:=ao u+(C6 b) *1) aK rfl e6 rfl Tryz.sizeOf3 rfl rfl (Lj rfl) (ja iL V (Lj rfl)) (jJ (y:=C) iL rfl (Lj rfl) V) ?_)
 intro bI aL
 refine nt (Il (Mz rfl (fw (vI (b+1)) (Ir (e:=C3.wrap (b+1)) yk g1) (Az rfl (C4 (bN (Iq (Il (Mz rfl (fw (vI (m+1)) (Ir (e:=C3.wrap (m+1)) yk g1) (Az rfl (C4 ?_))))))))))))
 have aO:=aL.pb [0]
 exact II (b+1,m+1,(I3 r (C6 b) C),I) ⟨rfl,rfl,rfl,rfl,rfl,trivial⟩ (F.2 ⟨aO,by first | omega | (simp only [G4] <;> omega) | (simp only [H0]),e6,e6,Eq.trans (O) (Eq.trans (if_pos P) (Eq.trans (ae (aT Q)) (if_neg T)))⟩) (by show I < I+1; omega)
 refine jF (dF P) (C5 (IC ?_))
 have ax:gJ l0 a ((C6 (((l0.length:Nat):Int) - (n+1)))+1) n (n+1) l0=(b,r):=et (O) (iN P)
 refine IC (IK (Iq (sr (Mz rfl (fw (vJ (C6 b)) (Ir (e:=b) (IA rfl) e6) (fw (.slice (jw u (C6 b) 1 G) (l0.length - (C6 b)) (G - (C6 b))) (I5 (mq) rfl rfl e6) ?_))))))
 have aP:=t.pb [0]
 obtain⟨bu,aQ,ay⟩:=aP.rowFull
 refine Jz (JV (z0:=(vI 0)) (lo:=C6 b) (nd:=(l0.length - (C6 b))) e7 rfl (mq) ay rfl (fun _=>kS ((ay.rds (i:=0) rfl).isSome e6) e6) e6 ?_)
 intro az bv bz aR
 refine ns (Mz rfl (fw (vJ (C6 b)) (Ir (e:=b) (IA rfl) e6) (fw (.slice u (C6 b) G) (Jk (mq) rfl rfl e6) (An rfl (rt (rs ?_))))))
 have aS:Own w D az [row u (C6 b) G (q4 (eI .i64) (r3 (C6 b) r)) 3 1,blk p (gK a h d j f l g) 42]:=aR.rowPart e6 (Eh iL e6)
 have bA:s0 (r3 (C6 b) r)=C6 b:=by rw [o0]; omega
 have R:C6 b=s0 (r3 (C6 b) r):=by first | omega | (simp only [G4]; done) | (simp only [G4,o2,s1,E7,o0,o1,H0]; omega)
 have aU:Own w D az [row u (s0 (r3 (C6 b) r)) G (q4 (eI .i64) (r3 (C6 b) r)) 3 1,blk p (gK a h d j f l g) 42]:=by rw [← R]; exact aS
 have aV:=aU.pf []
 obtain rfl:_=(r3 (C6 b) r):=hr.symm.trans (et (ae M) (et (iN S) (ae ax)))
 exact⟨u,G,(by first | rfl | (rw [← R]; done) | (rw [← R]; rfl)),aV,j8⟩
def lT (f:bU) (g:bW) (a:aD):bU × aD:=
 bnd (bQ a.aa.ak.ls g.aX) fun c=>if c.2=true then bnd (B8 a.aa.ak.ls (C6 c.1) default) fun b=>bnd (ig b.au.ls g) fun d=>bnd (B8 (I3 a.aa.ak.ls (C6 c.1) (bH.mk b.aX b.aP b.ax b.aU (E0 d))) (C6 c.1) default) fun e=>if((e.au.ls.length:Nat):Int)=0 then(f,aD.mk (bZ.mk a.aa.au a.aa.ax a.aa.bG a.aa.aF (E0 a.aa.ag.ls) (E0 (r3 (C6 c.1) (I3 a.aa.ak.ls (C6 c.1) (bH.mk b.aX b.aP b.ax b.aU (E0 d)))++r4 ((C6 c.1)+1) (I3 a.aa.ak.ls (C6 c.1) (bH.mk b.aX b.aP b.ax b.aU (E0 d))))) (E0 a.aa.aK.ls)) a.bT (E0 a.aC.ls) a.bM a.bD a.bA a.bC a.bB a.dO a.dG a.dH a.dD a.dE) else(f,aD.mk (bZ.mk a.aa.au a.aa.ax a.aa.bG a.aa.aF (E0 a.aa.ag.ls) (E0 (I3 a.aa.ak.ls (C6 c.1) (bH.mk b.aX b.aP b.ax b.aU (E0 d)))) (E0 a.aa.aK.ls)) a.bT (E0 a.aC.ls) a.bM a.bD a.bA a.bC a.bB a.dO a.dG a.dH a.dD a.dE) else(f,a)
set_option maxHeartbeats 4000000 in
theorem wN (w D g0) (p0:bU) (u z t) (p:bW) (au bf Y av bg Z ax aB bi aa l) (a:aD) (C E g n h F G I J K L M N O P Q R S T) (r0:bU) (B:aD) (H:Own w D w [blk g0 [.pointer (some ⟨l,0,none⟩), .slice u p0.bF.ls.length z] 98,row u p0.bF.ls.length z (q4 bz.cells t) 42 21,sepL (q4 bz.own t),mK l a C a.aa.ag.ls.length E g n F G I J K L M N O P Q R S T,row g a.aa.ak.ls.length n (q4 ay.cells h) 60 5,sepL (q4 ay.own h)]) (W:s5 bz.abs t=p0.bF.ls) (bD:bf=p.aB.ls.length) (bE:Ro w D fun w'=>aY w' 6 au p.aB.ls.length (q4 aN.cells p.aB.ls)) (dH:p.aB.ls.length≤Y∧p.aB.ls.length≤9223372036854775807) (aK:s5 af.abs ax=p.ah.ls) (bF:bg=p.ah.ls.length) (bG:Ro w D fun w'=>aY w' 3 av p.ah.ls.length (q4 af.cells ax)) (dI:p.ah.ls.length≤Z∧p.ah.ls.length≤9223372036854775807) (aL:∀ x ∈ ax,Ro w D (fun w'=>aY w' 2 x.aj.A x.aj.ls.length (q4 aH.cells x.aj.ls))∧(x.aj.ls.length≤x.aj.c∧x.aj.ls.length≤9223372036854775807)) (bI:bi=p.ag.ls.length) (bK:Ro w D fun w'=>aY w' 2 aB p.ag.ls.length (q4 aM.cells p.ag.ls)) (dJ:p.ag.ls.length≤aa∧p.ag.ls.length≤9223372036854775807) (m:s5 ay.abs h=a.aa.ak.ls) (fe:a.aa.ag.ls.length≤1000∧a.aa.ak.ls.length≤1000∧a.aa.aK.ls.length≤1000∧a.aC.ls.length≤1000∧p0.bF.ls.length≤100000) (fo:Dk a.aa.ak.ls) (hr:lT p0 p a=(r0,B)):
    Calls v5 58 #[vP g0 0, .agg (iA p.av p.aI p.eO p.aP p.dK p.fA p.aU p.ax p.aX p.eQ p.bG p.aF p.eG p.cZ p.xN p.fe p.cu.aJ p.cu.aR au bf Y av bg Z aB bi aa).toArray] w (dA fun v w'=> ∃ aO aP ai aQ aR aj,v= .tuple #[]∧Own w D w' [blk g0 [vP l 0, .slice aO r0.bF.ls.length aP] 98,row aO r0.bF.ls.length aP (q4 bz.cells ai) 42 21,sepL (q4 bz.own ai),blk l [vI B.aa.au,vU B.aa.ax,vU B.aa.bG,vU B.aa.aF, .slice C a.aa.ag.ls.length E, .slice aQ B.aa.ak.ls.length aR, .slice F a.aa.aK.ls.length G,vU B.bT, .slice I a.aC.ls.length J, .bool B.bM.dB,vU B.bM.bi,vI B.bM.dP, .slice K a.bM.ai.ls.length L, .bool B.bD.dB,vU B.bD.bi,vI B.bD.dP, .slice M a.bD.ai.ls.length N, .bool B.bA.dB,vU B.bA.bi,vI B.bA.dP, .slice O a.bA.ai.ls.length P, .bool B.bC.dB,vU B.bC.bi,vI B.bC.dP, .slice Q a.bC.ai.ls.length R, .bool B.bB.dB,vU B.bB.bi,vI B.bB.dP, .slice S a.bB.ai.ls.length T,vU B.dO,vU B.dG,vU B.dH,vU B.dD,vU B.dE, .pointer none] 86,row aQ B.aa.ak.ls.length aR (q4 ay.cells aj) 60 5,sepL (q4 ay.own aj)]∧(s5 bz.abs ai=r0.bF.ls)∧(s5 ay.abs aj=B.aa.ak.ls)):=by
 subst bD bF bI
 have dE:=aA W
 have dG:=aA aK
 have bN:=aA m
 have dK:=H.rowC (i:=1) rfl
 have bO:=H.rowC (i:=4) rfl
 refine cb Tryz.func58 ?_
 refine sr ?_
 refine dn (gK p au Y av Z aB aa) 42 H ?_
 intro bL fq dL
 refine nt (Ik ?_)
 refine Db [] (IE IQ) dL ?_
 intro fu bM
 refine qv 0 rfl rfl (qp g0 0 1 rfl (qp g0 0 2 rfl (ql 3 rfl 1 P6 rfl rfl rfl (qp bL 8 4 rfl (ql 5 rfl 0 D2 rfl rfl rfl ?_)))))
 refine GX.do 6 rfl e7 (IP Tryz.call95 rfl ?_ (fun _ _ k=>k))
 refine cb Tryz.func95 ?_
 refine sr (Az rfl (Ar rfl (Mz rfl (Kz (vP l 0) (Kz (vP l 0) (Kz (vP l 5) (Lz (.slice g a.aa.ak.ls.length n) bM 4 D0 (Mz rfl ?_))))))))
 obtain⟨⟨d,ag⟩,aC⟩:∃ q:Int × Bool,bQ a.aa.ak.ls p.aX=q:=⟨_,rfl⟩
 obtain⟨fA,bP,ek,bR,bu⟩:=Iu bM
 refine cl Tryz.call132 (gU _ _ g a.aa.ak.ls.length n h a.aa.ak.ls p.aX d ag bP m (bu _ 5 _ rfl aW) (fun x9 h9=>⟨bu _ 6 _ rfl (az (Q6.2 ⟨x9,h9,b1⟩) aW),bq (φ:=fun _=>_) bM (i:=6) rfl (az (Q6.2 ⟨x9,h9,b1⟩) bn)⟩) rfl e6 aC) ?_
 rintro _ dM ⟨rfl,bV,bv,bA⟩
 have X:=bR _ _ bV
 replace bv:0≤d∧d≤((a.aa.ak.ls.length:Nat):Int):=bv
 replace bA:Bool.toNat ag=0∨d < ((a.aa.ak.ls.length:Nat):Int):=bA
 refine Kz (vI d) (Kz (.bool ag) (Az rfl (An rfl (rt (Fin.res (lH rfl rfl rfl) ?_)))))
 refine⟨.inr ⟨_,X⟩, ?_⟩
 refine qv 7 rfl rfl (qk (vI d) 8 rfl (qk (.bool ag) 9 rfl (qa 10 rfl rfl (qa 11 rfl rfl (qn (Iq (Ik (sr (Mz rfl (Kz (.bool (!ag)) (nt ?_)))))))))))
 rcases Ls (ag) with ah | ah
 have h39t:Bool.toNat ag=1:=by rw [ah]; rfl
 refine jF (cn ah) (sk (sr (Mz rfl (Kz (vP g0 0) (Kz (vP g0 0) (Lz (vP l 0) X 1 P6 (Kz (vP l 0) (Kz (vP l 0) (Kz (vP l 5) (Lz (.slice g a.aa.ak.ls.length n) X 4 D0 (fw (vJ (C6 d)) (Ir (e:=d) (IA rfl) e6) ?_)))))))))))
 obtain⟨b,U⟩:=dh (ls:=h) (i:=C6 d) ay.len f2 (X.rds (i:=5) rfl) e9
 have aS:=eY m U
 have eu:b.au.ls.length≤b.au.c∧b.au.ls.length≤9223372036854775807:=bq X (i:=6) rfl (φ:=fun _=>_) (az (Q6.2 ⟨b,D1 U,b1⟩) bn)
 have eB:b.au.ls.length≤1000:=GI f5 aS
 refine fw (.pointer (some ⟨ab g,ao g+(C6 d) *5,none⟩)) (Iz (kM) rfl rfl ((X.rds (i:=5) rfl).addr (i:=C6 d) e6) e6) (Ar rfl (Mz rfl (Mz rfl (Kz (.pointer (some ⟨ab g,ao g+(C6 d) *5,none⟩)) (Kz (.pointer (some ⟨ab g,ao g+(C6 d) *5+4,none⟩)) (fw (.slice b.au.A b.au.ls.length b.au.c) (IB rfl (bJ.one Tryz.isAgg58 (((X.rds (i:=5) rfl).elem ay.len U f2).at_ (k:=4) rfl))) (Kz (.func (.func 97) #[] #[vP bL 0]) ?_)))))))
 have dN:=X.pf [6]
 have bX:Own w D dM (row b.au.A b.au.ls.length b.au.c (q4 (eI .i64) b.au.ls) 3 1::sepL (q4 ay.own (r3 (C6 d) h)++q4 ay.own (r4 (C6 d+1) h))::_):=Jm (f:=ay.own) (i:=C6 d) U dN
 have eD:=bX.rowC (i:=0) rfl
 have dO:=bX.pf [0,2]
 obtain⟨j,aU⟩:∃ q,ig b.au.ls p=q:=⟨_,rfl⟩
 obtain⟨fB,bY,aF,cu,eF⟩:=IV dO
 refine cl Tryz.call96 (rf _ _ b.au.A b.au.ls.length b.au.c b.au.ls bL p au Y av Z ax aB aa j bY rfl e6 (aF _ bE) (show p.aB.ls.length≤Y∧p.aB.ls.length≤9223372036854775807 from by omega) aK (aF _ bG) (show p.ah.ls.length≤Z∧p.ah.ls.length≤9223372036854775807 from by omega) (fun x9 h9=>⟨aF _ (aL x9 h9).1,(aL x9 h9).2⟩) (aF _ bK) (show p.ag.ls.length≤aa∧p.ag.ls.length≤9223372036854775807 from by omega) e6 aU) ?_
 rintro _ dP ⟨r,s,rfl,cz,bB⟩
 have cB:=cu _ _ cz
 have eG:=cB.rowC (i:=0) rfl
 replace bB:j.length≤b.au.ls.length:=bB
 refine Kz (.pointer (some ⟨ab g,ao g+(C6 d) *5,none⟩)) (Kz (.pointer (some ⟨ab g,ao g+(C6 d) *5+4,none⟩)) ?_)
 have dQ:=cB.pf [0,2]
 have dR:Own w D dP (sepL (q4 ay.own (I3 h (C6 d) (ay.mk b.aX b.aP b.ax b.aU (G3 r s j))))::_):=Je (f:=ay.own) (y:=(ay.mk b.aX b.aP b.ax b.aU (G3 r s j))) U dQ
 have dS:=dR.pf [6]
 refine Jz (Do.storeRow (vs:= [.slice r j.length s]) (o:=(C6 d) *5+4) (q:=ao g+(C6 d) *5+4) dS rfl e6 rfl Tryz.sizeOf58 rfl rfl (Lj rfl) (ja ay.len U (Lj rfl)) (jJ (y:=(ay.mk b.aX b.aP b.ax b.aU (G3 r s j))) ay.len rfl (Lj rfl) U) ?_)
 intro cK dU
 have eH:s0 (I3 h (C6 d) (ay.mk b.aX b.aP b.ax b.aU (G3 r s j)))=s0 (I3 a.aa.ak.ls (C6 d) (bH.mk b.aX b.aP b.ax b.aU (E0 j))):=aA (jl m rfl)
 have eO:s0 (I3 a.aa.ak.ls (C6 d) (bH.mk b.aX b.aP b.ax b.aU (E0 j)))=a.aa.ak.ls.length:=G4
 refine nt (Ik ?_)
 have aV:=dU.px [] [2] []
 refine Il (Mz rfl (Kz (.pointer (some ⟨ab g,ao g+(C6 d) *5,none⟩)) (Kz (.pointer (some ⟨ab g,ao g+(C6 d) *5+4,none⟩)) ?_)))
 obtain⟨V,aG⟩:=dh (ls:=(I3 h (C6 d) (ay.mk b.aX b.aP b.ax b.aU (G3 r s j)))) (i:=C6 d) ay.len f2 (aV.rds (i:=0) rfl) e9
 have bC:=eY (jl m rfl) aG
 have eP:V.au.ls.length≤V.au.c∧V.au.ls.length≤9223372036854775807:=bq aV (i:=1) rfl (φ:=fun _=>_) (az (Q6.2 ⟨V,D1 aG,b1⟩) bn)
 refine fw (.slice V.au.A V.au.ls.length V.au.c) (IB rfl (bJ.one Tryz.isAgg58 (((aV.rds (i:=0) rfl).elem ay.len aG f2).at_ (k:=4) rfl))) (Kz (vJ V.au.ls.length) (Kz (.bool (decide (((V.au.ls.length:Nat):Int)=0))) (nt ?_)))
 by_cases aZ:((V.au.ls.length:Nat):Int)=0
 refine jT (dT aZ) ?_
 have aX:a.aa.ak.ls.length=s0 (I3 a.aa.ak.ls (C6 d) (bH.mk b.aX b.aP b.ax b.aU (E0 j))):=by first | omega | (simp only [G4]; done) | (simp only [G4,o2,s1,E7,o0,o1,H0]; omega)
 have dV:Own w D cK [row g (s0 (I3 a.aa.ak.ls (C6 d) (bH.mk b.aX b.aP b.ax b.aU (E0 j)))) n (q4 ay.cells (I3 h (C6 d) (ay.mk b.aX b.aP b.ax b.aU (G3 r s j)))) 60 5,sepL (q4 ay.own (I3 h (C6 d) (ay.mk b.aX b.aP b.ax b.aU (G3 r s j)))),blk g0 [vP l 0, .slice u p0.bF.ls.length z] 98,row u p0.bF.ls.length z (q4 bz.cells t) 42 21,sepL (q4 bz.own t),blk l [vI a.aa.au,vU a.aa.ax,vU a.aa.bG,vU a.aa.aF, .slice C a.aa.ag.ls.length E, .slice g (s0 (I3 a.aa.ak.ls (C6 d) (bH.mk b.aX b.aP b.ax b.aU (E0 j)))) n, .slice F a.aa.aK.ls.length G,vU a.bT, .slice I a.aC.ls.length J, .bool a.bM.dB,vU a.bM.bi,vI a.bM.dP, .slice K a.bM.ai.ls.length L, .bool a.bD.dB,vU a.bD.bi,vI a.bD.dP, .slice M a.bD.ai.ls.length N, .bool a.bA.dB,vU a.bA.bi,vI a.bA.dP, .slice O a.bA.ai.ls.length P, .bool a.bC.dB,vU a.bC.bi,vI a.bC.dP, .slice Q a.bC.ai.ls.length R, .bool a.bB.dB,vU a.bB.bi,vI a.bB.dP, .slice S a.bB.ai.ls.length T,vU a.dO,vU a.dG,vU a.dH,vU a.dD,vU a.dE, .pointer none] 86]:=by rw [← aX]; exact aV
 have dW:=dV.pf [2,5]
 refine pM [19] IQ dW ?_
 intro fC dX
 refine qv 0 rfl rfl (qp g0 0 1 rfl (qp g0 0 2 rfl (ql 3 rfl 0 P6 rfl rfl rfl (qv 4 rfl rfl (qp g0 0 5 rfl (qp g0 0 6 rfl (ql 7 rfl 0 P6 rfl rfl rfl (qp l 0 8 rfl (qp l 0 9 rfl (qp l 5 10 rfl (ql 11 rfl 1 D0 rfl rfl rfl (qv 12 rfl rfl (qv 13 rfl rfl (qt (v:=vI (d+1)) 14 rfl (fun _ _=>Ir (e:=C3.wrap (d+1)) yk g1) ?_))))))))))))))
 have dY:=dX.pf [2,3]
 obtain⟨fE,cO,eQ,cZ,eT⟩:=IV dY
 refine qd 15 rfl (IP Tryz.call98 rfl (vL _ _ g (s0 (I3 a.aa.ak.ls (C6 d) (bH.mk b.aX b.aP b.ax b.aU (E0 j)))) n (I3 h (C6 d) (ay.mk b.aX b.aP b.ax b.aU (G3 r s j))) (I3 a.aa.ak.ls (C6 d) (bH.mk b.aX b.aP b.ax b.aU (E0 j))) d (d+1) (C6 d) V cO e6 (jl m rfl) e6 e6 e6 aG) ?_)
 rintro _ fF ⟨df,di,rfl,dm⟩
 have dw:=cZ _ _ dm
 have eU:s0 (r3 (C6 d) (I3 h (C6 d) (ay.mk b.aX b.aP b.ax b.aU (G3 r s j)))++r4 ((C6 d)+1) (I3 h (C6 d) (ay.mk b.aX b.aP b.ax b.aU (G3 r s j))))=s0 (r3 (C6 d) (I3 a.aa.ak.ls (C6 d) (bH.mk b.aX b.aP b.ax b.aU (E0 j)))++r4 ((C6 d)+1) (I3 a.aa.ak.ls (C6 d) (bH.mk b.aX b.aP b.ax b.aU (E0 j)))):=by exact aA (pK (jl m rfl))
 have eX:s0 (r3 (C6 d) (I3 a.aa.ak.ls (C6 d) (bH.mk b.aX b.aP b.ax b.aU (E0 j)))++r4 ((C6 d)+1) (I3 a.aa.ak.ls (C6 d) (bH.mk b.aX b.aP b.ax b.aU (E0 j))))+1=s0 (I3 a.aa.ak.ls (C6 d) (bH.mk b.aX b.aP b.ax b.aU (E0 j))):=by simp only [o2,o0,o1]; omega
 have eZ:=dw.rowC (i:=2) rfl
 have dx:=dw.pf [3,4]
 refine⟨.inr ⟨_,dx⟩, ?_⟩
 refine qp l 0 16 rfl (qp l 0 17 rfl (qp l 5 18 rfl ?_))
 have dZ:=dx.pf [1]
 refine qe 19 rfl (Do.store (vs:= [.slice df (s0 (r3 (C6 d) (I3 a.aa.ak.ls (C6 d) (bH.mk b.aX b.aP b.ax b.aU (E0 j)))++r4 ((C6 d)+1) (I3 a.aa.ak.ls (C6 d) (bH.mk b.aX b.aP b.ax b.aU (E0 j))))) di]) (o:=5) dZ rfl rfl Tryz.sizeOf30 rfl rfl rfl rfl ?_)
 intro fG d9
 refine⟨.inl e7, ?_⟩
 refine qn (IL (res0 rfl) ?_)
 have ed:=d9.px [] [4] [0,2,3]
 obtain⟨rfl,rfl⟩:=fD (hr.symm.trans (show _=(p0,aD.mk (bZ.mk a.aa.au a.aa.ax a.aa.bG a.aa.aF (E0 a.aa.ag.ls) (E0 (r3 (C6 d) (I3 a.aa.ak.ls (C6 d) (bH.mk b.aX b.aP b.ax b.aU (E0 j)))++r4 ((C6 d)+1) (I3 a.aa.ak.ls (C6 d) (bH.mk b.aX b.aP b.ax b.aU (E0 j))))) (E0 a.aa.aK.ls)) a.bT (E0 a.aC.ls) a.bM a.bD a.bA a.bC a.bB a.dO a.dG a.dH a.dD a.dE) from et (ae aC) (et (ip ah) (et (ae (aT aS)) (et (ae aU) (et (ae (aT bC)) (ip aZ)))))))
 exact⟨u,z,t,df,di,(r3 (C6 d) (I3 h (C6 d) (ay.mk b.aX b.aP b.ax b.aU (G3 r s j)))++r4 ((C6 d)+1) (I3 h (C6 d) (ay.mk b.aX b.aP b.ax b.aU (G3 r s j)))),(by first | rfl | (rw [← aX]; done) | (rw [← aX]; rfl)),ed,W,(pK (jl m rfl))⟩
 refine jF (dF aZ) (IU (IL (res0 rfl) ?_))
 have ak:a.aa.ak.ls.length=s0 (I3 a.aa.ak.ls (C6 d) (bH.mk b.aX b.aP b.ax b.aU (E0 j))):=by first | omega | (simp only [G4]; done) | (simp only [G4,o2,s1,E7,o0,o1,H0]; omega)
 have dz:Own w D cK [row g (s0 (I3 a.aa.ak.ls (C6 d) (bH.mk b.aX b.aP b.ax b.aU (E0 j)))) n (q4 ay.cells (I3 h (C6 d) (ay.mk b.aX b.aP b.ax b.aU (G3 r s j)))) 60 5,sepL (q4 ay.own (I3 h (C6 d) (ay.mk b.aX b.aP b.ax b.aU (G3 r s j)))),blk g0 [vP l 0, .slice u p0.bF.ls.length z] 98,row u p0.bF.ls.length z (q4 bz.cells t) 42 21,sepL (q4 bz.own t),blk l [vI a.aa.au,vU a.aa.ax,vU a.aa.bG,vU a.aa.aF, .slice C a.aa.ag.ls.length E, .slice g (s0 (I3 a.aa.ak.ls (C6 d) (bH.mk b.aX b.aP b.ax b.aU (E0 j)))) n, .slice F a.aa.aK.ls.length G,vU a.bT, .slice I a.aC.ls.length J, .bool a.bM.dB,vU a.bM.bi,vI a.bM.dP, .slice K a.bM.ai.ls.length L, .bool a.bD.dB,vU a.bD.bi,vI a.bD.dP, .slice M a.bD.ai.ls.length N, .bool a.bA.dB,vU a.bA.bi,vI a.bA.dP, .slice O a.bA.ai.ls.length P, .bool a.bC.dB,vU a.bC.bi,vI a.bC.dP, .slice Q a.bC.ai.ls.length R, .bool a.bB.dB,vU a.bB.bi,vI a.bB.dP, .slice S a.bB.ai.ls.length T,vU a.dO,vU a.dG,vU a.dH,vU a.dD,vU a.dE, .pointer none] 86]:=by rw [← ak]; exact aV
 have dB:=dz.pb [0,1]
 obtain⟨rfl,rfl⟩:=fD (hr.symm.trans (show _=(p0,aD.mk (bZ.mk a.aa.au a.aa.ax a.aa.bG a.aa.aF (E0 a.aa.ag.ls) (E0 (I3 a.aa.ak.ls (C6 d) (bH.mk b.aX b.aP b.ax b.aU (E0 j)))) (E0 a.aa.aK.ls)) a.bT (E0 a.aC.ls) a.bM a.bD a.bA a.bC a.bB a.dO a.dG a.dH a.dD a.dE) from et (ae aC) (et (ip ah) (et (ae (aT aS)) (et (ae aU) (et (ae (aT bC)) (iN aZ)))))))
 exact⟨u,z,t,g,n,(I3 h (C6 d) (ay.mk b.aX b.aP b.ax b.aU (G3 r s j))),(by first | rfl | (rw [← ak]; done) | (rw [← ak]; rfl)),dB,W,(jl m rfl)⟩
 have h39t:Bool.toNat ag=0:=by rw [ah]; rfl
 refine jT (cn ah) (rt (tR (Fin.res (res0 rfl) ?_)))
 have dC:=X.px [] [0] []
 obtain⟨rfl,rfl⟩:=fD (hr.symm.trans (show _=(p0,a) from et (ae aC) (fP ah)))
 exact⟨u,z,t,g,n,h,rfl,dC,W,m⟩
def gB:List fu→List Int→(List Int)
  | [],a=>a
  | b::c,a=>gB c (a++ [b.bE])
def kr (a:ed):(List Int):=
 bnd (gB a.aO.ls ([])) fun sLrL=>sLrL
theorem qV (w D L) (a:ed) (j l f g u n o p r B W) (H:Own w D w [blk L (Cs a j l f g n o p r) 107]) (Z:Ro w D fun w'=>aY w' 6 j a.cB.ls.length (q4 aN.cells a.cB.ls)) (aa:a.cB.ls.length≤l∧a.cB.ls.length≤9223372036854775807) (C:s5 bO.abs u=a.aO.ls) (t:Ro w D fun w'=>aY w' 3 f a.aO.ls.length (q4 bO.cells u)) (ag:a.aO.ls.length≤g∧a.aO.ls.length≤9223372036854775807) (E:∀ x ∈ u,Ro w D (fun w'=>aY w' 6 x.aB.A x.aB.ls.length (q4 aN.cells x.aB.ls))∧(x.aB.ls.length≤x.aB.c∧x.aB.ls.length≤9223372036854775807)∧Ro w D (fun w'=>aY w' 1 x.aI.A x.aI.ls.length (q4 (eI .i64) x.aI.ls))∧(x.aI.ls.length≤x.aI.c∧x.aI.ls.length≤9223372036854775807)) (ah:Ro w D fun w'=>aY w' 1 n a.bL.ls.length (q4 eL a.bL.ls)) (ai:a.bL.ls.length≤o∧a.bL.ls.length≤9223372036854775807) (M:s5 bP.abs B=a.ai.ls) (aj:Ro w D fun w'=>aY w' 1 p a.ai.ls.length (q4 (I9 (β:=af)) B)) (ak:a.ai.ls.length≤r∧a.ai.ls.length≤9223372036854775807) (au:∀ x ∈ B,Ro w D (fun w'=>aY w' 3 x.A x.ls.length (q4 af.cells x.ls))∧(x.ls.length≤x.c∧x.ls.length≤9223372036854775807)∧(∀ O ∈ x.ls,Ro w D (fun w'=>aY w' 2 O.aj.A O.aj.ls.length (q4 aH.cells O.aj.ls))∧(O.aj.ls.length≤O.aj.c∧O.aj.ls.length≤9223372036854775807))) (aT:a.aO.ls.length≤1000) (hr:kr a=W):
    Calls v5 107 #[vP L 0] w (dA fun v w'=> ∃ B0 b0,v= .slice B0 W.length b0∧Own w D w' [row B0 W.length b0 (q4 (eI .i64) W) 3 1,blk L (Cs a j l f g n o p r) 107]):=by
 have X:=aA C
 have Y:=aA M
 refine cb Tryz.func107 ?_
 refine sr (Ar rfl (An rfl (Ik (sr (Mz rfl (Kz (vP L 0) (Kz (vP L 5) (Lz (.slice f a.aO.ls.length g) H 0 Tryz.isAgg103 (Kz (vJ a.aO.ls.length) (Mn rfl (bo ?_)))))))))))
 have av:Own w D w [row none 0 0 (q4 (eI .i64) ([])) 3 1,blk L (Cs a j l f g n o p r) 107]:=H.free (eP 3 1)
 have ax:=av.pb [0]
 obtain⟨ay,F⟩:=tq fun I (J:Nat) d (b:Nat) w'=>Own w D w' [blk L (Cs a j l f g n o p r) 107,row I d.length J (q4 (eI .i64) d) 3 1]∧b≤a.aO.ls.length∧d.length=b∧d.length≤b∧gB a.aO.ls ([])=gB (r4 b a.aO.ls) d
 refine C1 (fun i:(Option Addr) × Nat × (List Int) × Nat=> [(3, .slice i.1 i.2.2.1.length i.2.1),(11,vJ i.2.2.2),(10,vJ a.aO.ls.length),(9, .slice f a.aO.ls.length g),(2, .slice none 0 0)]) ay (fun i=>a.aO.ls.length - i.2.2.2) (none,0, [],0) ⟨rfl,rfl,rfl,rfl,rfl,trivial⟩ (F.2 ⟨ax,(show 0≤a.aO.ls.length∧0=0∧0≤0∧gB a.aO.ls ([])=gB (r4 0 a.aO.ls) ([]) from ⟨e6,e6,e6,rfl⟩)⟩) ?_
 rintro ⟨I,J,d,b⟩ aU P
 obtain⟨G,aM,aO,aP,K⟩:=F.1 P
 refine sr (Kz (.bool (decide (((b:Nat):Int) < ((a.aO.ls.length:Nat):Int)))) (nt (Ik ?_)))
 by_cases Q:((b:Nat):Int) < ((a.aO.ls.length:Nat):Int)
 obtain⟨h,z⟩:=dh (ls:=u) (i:=b) bO.len f2 (G.ro t) e9
 have R:=eY C z
 have aQ:=(E _ (D1 z)).2.1
 have aR:=(E _ (D1 z)).2.2.2
 have S:=drop_at R
 refine jT (dT Q) (sk (Ik (bo (sr (fw (.pointer (some ⟨ab f,ao f+b *3,none⟩)) (Iz (uR) rfl rfl ((G.ro t).addr (i:=b) e6) e6) (fw (.agg (bO.cells h).toArray) (IB rfl (IJ (cs:=(bO.cells h)) Tryz.isAgg172 Tryz.sizeOf172 ((G.ro t).elem bO.len z f2))) ?_))))))
 refine dn [vI 0, .slice none 0 0, .slice none 0 0] 172 G ?_
 intro az aV aB
 refine df (bO.cells h) 0 aB Tryz.sizeOf172 ?_
 intro aW T
 refine nt (Il (Mz rfl (Kz (vP az 0) (Lz (vI h.bE) T 0 C2 ?_))))
 refine jV [vI h.bE] 3 1 1 T ?_
 intro aC aX N
 replace N:=IX (y:=row aC 1 1 (q4 (eI .i64) ([h.bE])) 3 1) rfl N
 have U:=N.pf [3]
 refine WL.do rfl (IW (k:=d.length) (m:=1) (mq) U rfl rfl (gN Tryz.underlying58 (U.rds (i:=1) rfl) (dX qB ([h.bE]))) rfl e6 (s:=s0 (d++ [h.bE])) f7 (List.flatMap_append).symm ?_)
 intro aD aF aZ aG
 have aS:s0 (d++ [h.bE])=d.length+1:=by simp only [o2,s1,E7]
 refine Az rfl (C4 (bN (Iq (Il (fw (vJ (b+1)) (Ir (e:=C3.wrap (((b:Nat):Int)+1)) yk f0) (Mz rfl (C4 ?_)))))))
 have aI:=aG.pk [3,0]
 exact II (aD,aF,(d++ [h.bE]),b+1) ⟨rfl,rfl,rfl,rfl,rfl,trivial⟩ (F.2 ⟨aI,e6,e6,e6,et (K) (et (congrArg (fun q=>gB q d) S) rfl)⟩) (by show a.aO.ls.length - (b+1) < a.aO.ls.length - b; omega)
 refine jF (dF Q) (C5 (IC ?_))
 have V:gB a.aO.ls ([])=d:=et (K) (et (congrArg (fun q=>gB q d) (dZ (ls:=a.aO.ls) (i:=b) e6)) rfl)
 refine IC (IK (Iq (sr (Mz rfl (An rfl (rt (rs ?_)))))))
 have aJ:=G.pb [0]
 obtain rfl:_=d:=hr.symm.trans (ae V)
 exact⟨I,J,rfl,aJ⟩
theorem AJ:∀ (l:List fu) (o:List Int),s0 (gB l o)=o.length+l.length
  | [],o=>rfl
  | x::q,o=>by
    simp only [gB]
    rw [AJ q]
    simp only [o2,s1,E7]; omega
theorem yg {x:ed} {r:List Int} (h:kr x=r):r.length=x.aO.ls.length:=by
 rw [← h]; exact(AJ x.aO.ls []).trans (Nat.zero_add _)
def iy (g:bU) (f:Int) (a:aD):bU × aD:=
 bnd (B8 a.aC.ls (C6 f) default) fun c=>bnd (dL g c.bf c.bi 2 ([]) (aD.mk a.aa a.bT (E0 (r3 (C6 f) a.aC.ls++r4 ((C6 f)+1) a.aC.ls)) a.bM a.bD a.bA a.bC a.bB a.dO a.dG a.dH a.dD a.dE)) fun b=>bnd (kr (ed.mk c.bI c.bf c.bi c.fE (E0 c.cB.ls) (E0 c.aO.ls) (E0 c.bL.ls) (E0 c.ai.ls) c.iI)) fun d=>bnd (fV b.1 c.bI d false) fun e=>(e,aD.mk (bZ.mk b.2.aa.au b.2.aa.ax b.2.aa.bG b.2.aa.aF (E0 a.aa.ag.ls) (E0 a.aa.ak.ls) (E0 a.aa.aK.ls)) b.2.bT (E0 (r3 (C6 f) a.aC.ls++r4 ((C6 f)+1) a.aC.ls)) b.2.bM b.2.bD b.2.bA b.2.bC b.2.bB b.2.dO b.2.dG b.2.dH b.2.dD b.2.dE)
set_option maxHeartbeats 4000000 in
theorem oQ (w D g0) (p0:bU) (aF aG aB m g) (a:aD) (z B C E F G k p d I J r K L s M N t O P u Q R x) (r0:bU) (f:aD) (H:Own w D w [blk g0 [.pointer (some ⟨g,0,none⟩), .slice aF p0.bF.ls.length aG] 98,row aF p0.bF.ls.length aG (q4 bz.cells aB) 42 21,sepL (q4 bz.own aB),mK g a z a.aa.ag.ls.length B C E F G k p I J K L M N O P Q R,row k a.aC.ls.length p (q4 bK.cells d) 107 9,sepL (q4 bK.own d),row I a.bM.ai.ls.length J (q4 af.cells r) 149 3,sepL (q4 af.own r),row K a.bD.ai.ls.length L (q4 af.cells s) 149 3,sepL (q4 af.own s),row M a.bA.ai.ls.length N (q4 af.cells t) 149 3,sepL (q4 af.own t),row O a.bC.ai.ls.length P (q4 af.cells u) 149 3,sepL (q4 af.own u),row Q a.bB.ai.ls.length R (q4 af.cells x) 149 3,sepL (q4 af.own x)]) (aH:s5 bz.abs aB=p0.bF.ls) (h:s5 bK.abs d=a.aC.ls) (S:s5 af.abs r=a.bM.ai.ls) (T:s5 af.abs s=a.bD.ai.ls) (U:s5 af.abs t=a.bA.ai.ls) (V:s5 af.abs u=a.bC.ai.ls) (W:s5 af.abs x=a.bB.ai.ls) (iU:a.aa.ag.ls.length≤1000∧a.aa.ak.ls.length≤1000∧a.aa.aK.ls.length≤1000∧a.aC.ls.length≤1000∧p0.bF.ls.length≤100000) (iV:Ak a.aC.ls) (iW:0≤m∧m < ((a.aC.ls.length:Nat):Int)) (hr:iy p0 m a=(r0,f)):
    Calls v5 63 #[vP g0 0,vI m] w (dA fun v w'=> ∃ aI aJ Z aK aL aa aM aN ag aO aP ah aQ aR ai aS aU aj aV aX ak,v= .tuple #[]∧Own w D w' [blk g0 [vP g 0, .slice aI r0.bF.ls.length aJ] 98,row aI r0.bF.ls.length aJ (q4 bz.cells Z) 42 21,sepL (q4 bz.own Z),blk g [vI f.aa.au,vU f.aa.ax,vU f.aa.bG,vU f.aa.aF, .slice z a.aa.ag.ls.length B, .slice C a.aa.ak.ls.length E, .slice F a.aa.aK.ls.length G,vU f.bT, .slice aK f.aC.ls.length aL, .bool f.bM.dB,vU f.bM.bi,vI f.bM.dP, .slice aM f.bM.ai.ls.length aN, .bool f.bD.dB,vU f.bD.bi,vI f.bD.dP, .slice aO f.bD.ai.ls.length aP, .bool f.bA.dB,vU f.bA.bi,vI f.bA.dP, .slice aQ f.bA.ai.ls.length aR, .bool f.bC.dB,vU f.bC.bi,vI f.bC.dP, .slice aS f.bC.ai.ls.length aU, .bool f.bB.dB,vU f.bB.bi,vI f.bB.dP, .slice aV f.bB.ai.ls.length aX,vU f.dO,vU f.dG,vU f.dH,vU f.dD,vU f.dE, .pointer none] 86,row aK f.aC.ls.length aL (q4 bK.cells aa) 107 9,sepL (q4 bK.own aa),row aM f.bM.ai.ls.length aN (q4 af.cells ag) 149 3,sepL (q4 af.own ag),row aO f.bD.ai.ls.length aP (q4 af.cells ah) 149 3,sepL (q4 af.own ah),row aQ f.bA.ai.ls.length aR (q4 af.cells ai) 149 3,sepL (q4 af.own ai),row aS f.bC.ai.ls.length aU (q4 af.cells aj) 149 3,sepL (q4 af.own aj),row aV f.bB.ai.ls.length aX (q4 af.cells ak) 149 3,sepL (q4 af.own ak)]∧(s5 bz.abs Z=r0.bF.ls)∧(s5 bK.abs aa=f.aC.ls)∧(s5 af.abs ag=f.bM.ai.ls)∧(s5 af.abs ah=f.bD.ai.ls)∧(s5 af.abs ai=f.bA.ai.ls)∧(s5 af.abs aj=f.bC.ai.ls)∧(s5 af.abs ak=f.bB.ai.ls)):=by
 have fe:=aA aH
 have di:=aA h
 have dm:=aA S
 have dw:=aA T
 have dx:=aA U
 have dz:=aA V
 have dB:=aA W
 have fo:=H.rowC (i:=1) rfl
 have dC:=H.rowC (i:=4) rfl
 have dD:=H.rowC (i:=6) rfl
 have dE:=H.rowC (i:=8) rfl
 have dF:=H.rowC (i:=10) rfl
 have dG:=H.rowC (i:=12) rfl
 have dH:=H.rowC (i:=14) rfl
 refine cb Tryz.func63 ?_
 refine sr (Mz rfl (Kz (vP g0 0) (Kz (vP g0 0) (Lz (vP g 0) H 0 P6 (Kz (vP g 0) (Kz (vP g 8) (Lz (.slice k a.aC.ls.length p) H 3 Q4 (fw (vJ (C6 m)) (Ir (e:=m) (IA rfl) e6) ?_))))))))
 obtain⟨b,y⟩:=dh (ls:=d) (i:=C6 m) bK.len f2 (H.rds (i:=4) rfl) e9
 have bJ:=eY h y
 have gY:b.cB.ls.length≤b.cB.c∧b.cB.ls.length≤9223372036854775807:=bq H (i:=5) rfl (φ:=fun _=>_) (az (Q6.2 ⟨b,D1 y,b1⟩) bn)
 have gZ:b.aO.ls.length≤b.aO.c∧b.aO.ls.length≤9223372036854775807:=bq H (i:=5) rfl (φ:=fun _=>_) (az (Q6.2 ⟨b,D1 y, .tail _ b1⟩) bn)
 have ib:b.bL.ls.length≤b.bL.c∧b.bL.ls.length≤9223372036854775807:=bq H (i:=5) rfl (φ:=fun _=>_) (az (Q6.2 ⟨b,D1 y, .tail _ b2⟩) bn)
 have ic:b.ai.ls.length≤b.ai.c∧b.ai.ls.length≤9223372036854775807:=bq H (i:=5) rfl (φ:=fun _=>_) (az (Q6.2 ⟨b,D1 y, .tail _ b3⟩) bn)
 have X:Tok (bK.abs b):=Cv g5 bJ
 have ig:1≤b.bf∧b.bf≤4:=X.D7
 have ik:b.bL.ls.length=b.aO.ls.length:=by have q9:=X.yes; simp only [bK.abs,s3] at q9; exact q9
 have il:b.ai.ls.length=b.aO.ls.length:=by have q9:=X.res; simp only [bK.abs,s3] at q9; exact q9
 have iq:b.aO.ls.length≤5:=by have q9:=X.len; simp only [bK.abs,s3] at q9; exact q9
 have iw:b.cB.ls.length≤24:=X.ops.1
 refine fw (.pointer (some ⟨ab k,ao k+(C6 m) *9,none⟩)) (Iz (qF) rfl rfl ((H.rds (i:=4) rfl).addr (i:=C6 m) e6) e6) (fw (.agg (bK.cells b).toArray) (IB rfl (IJ (cs:=(bK.cells b)) Q2 Q3 ((H.rds (i:=4) rfl).elem bK.len y f2))) ?_)
 refine dn (rZ 0 0 0 0 none 0 0 none 0 0 none 0 0 none 0 0 0) 107 H ?_
 intro bF iX fq
 refine df (bK.cells b) 0 fq Q3 ?_
 intro iY fu
 refine nt (Ik ?_)
 have fA:=fu.pf [1,4]
 refine pM [17] (IE IQ) fA ?_
 intro iZ fB
 refine qv 0 rfl rfl (qp g0 0 1 rfl (qp g0 0 2 rfl (ql 3 rfl 0 P6 rfl rfl rfl (qv 4 rfl rfl (qp g0 0 5 rfl (qp g0 0 6 rfl (ql 7 rfl 0 P6 rfl rfl rfl (qp g 0 8 rfl (qp g 8 9 rfl (ql 10 rfl 1 Q4 rfl rfl rfl (qv 11 rfl rfl (qv 12 rfl rfl (qt (v:=vI (m+1)) 13 rfl (fun _ _=>Ir (e:=C3.wrap (m+1)) yk g1) ?_)))))))))))))
 have fC:=fB.pf [5,6]
 obtain⟨ja,dI,iA,dJ,iB⟩:=IV fC
 refine qd 14 rfl (IP Tryz.call105 rfl (vw _ _ k a.aC.ls.length p d a.aC.ls m (m+1) (C6 m) b dI e6 h e6 e6 e6 y) ?_)
 rintro _ jb ⟨bV,bW,rfl,dK⟩
 have aZ:=dJ _ _ dK
 have iC:s0 (r3 (C6 m) d++r4 ((C6 m)+1) d)=s0 (r3 (C6 m) a.aC.ls++r4 ((C6 m)+1) a.aC.ls):=by exact aA (pK h)
 have iD:s0 (r3 (C6 m) a.aC.ls++r4 ((C6 m)+1) a.aC.ls)+1=a.aC.ls.length:=by simp only [o2,o0,o1]; omega
 have iE:b.aO.ls.length=s0 (s5 bO.abs b.aO.ls):=by exact(s3 _).symm
 have iF:b.ai.ls.length=s0 (s5 bP.abs b.ai.ls):=by exact(s3 _).symm
 have iG:=aZ.rowC (i:=2) rfl
 have iH:=aZ.rowC (i:=3) rfl
 have iI:=aZ.rowC (i:=4) rfl
 have iJ:=aZ.rowC (i:=5) rfl
 have dM:=aZ.pf [8,9]
 refine⟨.inr ⟨_,dM⟩, ?_⟩
 refine qp g 0 15 rfl (qp g 8 16 rfl ?_)
 have fE:=dM.pf [1]
 refine qe 17 rfl (Do.store (vs:= [.slice bV (s0 (r3 (C6 m) a.aC.ls++r4 ((C6 m)+1) a.aC.ls)) bW]) (o:=8) fE rfl rfl Tryz.sizeOf79 rfl rfl rfl rfl ?_)
 intro jc bX
 refine⟨.inl e7, ?_⟩
 refine qn (Iq (sr (Mz rfl (Kz (vP bF 1) (Lz (vI b.bf) bX 10 C2 (Kz (vP bF 2) (Lz (vU b.bi) bX 10 D2 ?_)))))))
 have fF:=bX.px [1,11,12] [] [2,3,4,5,6,7,8,9,10]
 obtain⟨⟨bG,l⟩,bL⟩:∃ q:bU × aD,dL p0 b.bf b.bi 2 ([]) (aD.mk a.aa a.bT (E0 (r3 (C6 m) a.aC.ls++r4 ((C6 m)+1) a.aC.ls)) a.bM a.bD a.bA a.bC a.bB a.dO a.dG a.dH a.dD a.dE)=q:=⟨_,rfl⟩
 obtain⟨jd,dN,iK,dO,iL⟩:=Jj fF
 refine cl Tryz.call106 (jM _ _ g0 p0 aF aG aB b.bf b.bi 2 none 0 0 [] ([]) g (aD.mk a.aa a.bT (E0 (r3 (C6 m) a.aC.ls++r4 ((C6 m)+1) a.aC.ls)) a.bM a.bD a.bA a.bC a.bB a.dO a.dG a.dH a.dD a.dE) z B C E F G bV bW I J r K L s M N t O P u Q R x bG l dN aH rfl (fun _ _=>aY.nil _ _ _) (fun _ h9=>absurd h9 List.not_mem_nil) rfl i7 g6 S T U V W e8 g2 g2 i1 bL) ?_
 rintro _ je ⟨fG,fH,fI,fJ,fK,fM,fO,fP,dP,fQ,fT,dQ,fU,fZ,dR,gm,gp,dS,rfl,dU,bM,bg,bi,bu,bv,bA,bB⟩
 have au:=dO _ _ dU
 have gq:=aA bM
 have gu:=aA bg
 have gy:=aA bi
 have gz:=aA bu
 have gB:=aA bv
 have gD:=aA bA
 have gF:=au.rowC (i:=1) rfl
 have gG:=au.rowC (i:=4) rfl
 have gH:=au.rowC (i:=6) rfl
 have gI:=au.rowC (i:=8) rfl
 have gJ:=au.rowC (i:=10) rfl
 have gK:=au.rowC (i:=12) rfl
 replace bB:bG.bF.ls.length=p0.bF.ls.length+1:=bB
 refine nt ?_
 have av:b.aO.ls.length=s0 (s5 bO.abs b.aO.ls):=by first | omega | (simp only [G4]; done) | (simp only [G4,o2,s1,E7,o0,o1,H0]; omega)
 have dV:=au.pf [17]
 have dW:=Jc av dV
 have dX:=dW.pf [22]
 have dY:=Jp 5 av dX
 have dZ:=dY.pb [1,19,20,21,22,0]
 have ax:b.ai.ls.length=s0 (s5 bP.abs b.ai.ls):=by first | omega | (simp only [G4]; done) | (simp only [G4,o2,s1,E7,o0,o1,H0]; omega)
 have d9:=dZ.pf [19]
 have ek:=Jc ax d9
 have eu:=ek.pf [22]
 have eB:=Jp 7 ax eu
 have eD:=eB.pb [1,21,22,0]
 have eF:=eD.pf [0,3]
 refine pM [4] IQ eF ?_
 intro iM eG
 refine qv 0 rfl rfl (qp bF 0 1 rfl ?_)
 have bN:=eG.pf [0,1,22]
 refine BC bN (ql 2 rfl 2 D2 rfl rfl rfl ?_)
 have n:=bN.pf [2]
 have gL:=n.rowC (i:=17) rfl
 have gM:=n.rowC (i:=18) rfl
 have gN:=n.rowC (i:=19) rfl
 have gP:=n.rowC (i:=20) rfl
 obtain⟨Y,ay⟩:∃ q,kr (ed.mk b.bI b.bf b.bi b.fE (E0 b.cB.ls) (E0 (s5 bO.abs b.aO.ls)) (E0 b.bL.ls) (E0 (s5 bP.abs b.ai.ls)) b.iI)=q:=⟨_,rfl⟩
 obtain⟨iN,bY,gQ,cu,j⟩:=IZ n
 refine qd 3 rfl (IP Tryz.call107 rfl (qV _ _ bF (ed.mk b.bI b.bf b.bi b.fE (E0 b.cB.ls) (E0 (s5 bO.abs b.aO.ls)) (E0 b.bL.ls) (E0 (s5 bP.abs b.ai.ls)) b.iI) b.cB.A b.cB.c b.aO.A b.aO.c b.aO.ls b.bL.A b.bL.c b.ai.A b.ai.c b.ai.ls Y bY (j _ 16 _ rfl aW) (show b.cB.ls.length≤b.cB.c∧b.cB.ls.length≤9223372036854775807 from by omega) (rfl:s5 bO.abs b.aO.ls=s5 bO.abs b.aO.ls) (j _ 17 _ rfl aW) (show s0 (s5 bO.abs b.aO.ls)≤b.aO.c∧s0 (s5 bO.abs b.aO.ls)≤9223372036854775807 from by omega) (fun x9 h9=>⟨j _ 20 _ rfl (az (Q6.2 ⟨x9,h9,b1⟩) aW),bq (φ:=fun _=>_) n (i:=21) rfl (az (Q6.2 ⟨x9,h9,b1⟩) bn),j _ 20 _ rfl (az (Q6.2 ⟨x9,h9, .tail _ b1⟩) aW),bq (φ:=fun _=>_) n (i:=21) rfl (az (Q6.2 ⟨x9,h9, .tail _ b1⟩) bn)⟩) (j _ 18 _ rfl aW) (show b.bL.ls.length≤b.bL.c∧b.bL.ls.length≤9223372036854775807 from by omega) (rfl:s5 bP.abs b.ai.ls=s5 bP.abs b.ai.ls) (j _ 19 _ rfl aW) (show s0 (s5 bP.abs b.ai.ls)≤b.ai.c∧s0 (s5 bP.abs b.ai.ls)≤9223372036854775807 from by omega) (fun x9 h9=>⟨j _ 21 _ rfl (az (Q6.2 ⟨x9,h9,b1⟩) aW),bq (φ:=fun _=>_) n (i:=22) rfl (az (Q6.2 ⟨x9,h9,b1⟩) bn),(fun y1 k1=>⟨j _ 21 _ rfl (az (Q6.2 ⟨x9,h9, .tail _ b1⟩) (az (Q6.2 ⟨y1,k1,b1⟩) aW)),bq (φ:=fun _=>_) n (i:=22) rfl (az (Q6.2 ⟨x9,h9, .tail _ b1⟩) (az (Q6.2 ⟨y1,k1,b1⟩) bn))⟩)⟩) e8 ay) ?_)
 rintro _ iQ ⟨eH,eO,rfl,cz⟩
 have bQ:=cu _ _ cz
 have gT:=bQ.rowC (i:=0) rfl
 have gU:Y.length≤5:=by have q9:=yg ay; simp only [s3] at q9; omega
 have bR:=bQ.pf [2,3,1]
 refine⟨.inr ⟨_,bR⟩, ?_⟩
 have eP:=bR.pf [0,4,5]
 obtain⟨bS,bC⟩:∃ q,fV bG b.bI Y false=q:=⟨_,rfl⟩
 obtain⟨iR,cB,gV,cK,cO⟩:=Ja eP
 refine qd 4 rfl (IP Q5 rfl (lm _ _ g0 bG fG fH fI g b.bI eH Y.length eO Y false bS cB bM (cO _ 2 _ rfl aW) rfl e6 i0 bC) ?_)
 rintro _ iT ⟨eQ,eT,eU,rfl,cZ,bD⟩
 have bT:=cK _ _ cZ
 have gW:=aA bD
 have gX:=bT.rowC (i:=1) rfl
 refine⟨.inl e7, ?_⟩
 refine qn (IL (res0 rfl) ?_)
 have eX:=bT.px [0,1,2,3,16,17] [4,5,18,19,20,21,22,23] []
 obtain⟨rfl,rfl⟩:=fD (hr.symm.trans (show _=(bS,aD.mk (bZ.mk l.aa.au l.aa.ax l.aa.bG l.aa.aF (E0 a.aa.ag.ls) (E0 a.aa.ak.ls) (E0 a.aa.aK.ls)) l.bT (E0 (r3 (C6 m) a.aC.ls++r4 ((C6 m)+1) a.aC.ls)) l.bM l.bD l.bA l.bC l.bB l.dO l.dG l.dH l.dD l.dE) from et (ae (aT bJ)) (et (ae bL) (et (ae ay) (ae bC)))))
 exact⟨eQ,eT,eU,bV,bW,(r3 (C6 m) d++r4 ((C6 m)+1) d),fJ,fK,fM,fO,fP,dP,fQ,fT,dQ,fU,fZ,dR,gm,gp,dS,(by(first | rw [← av] | skip); (first | rw [← ax] | skip); first | done | rfl),eX,bD,(pK h),bg,bi,bu,bv,bA⟩
end Go.Proofs.YtbkagebjhbphaaaGreat
