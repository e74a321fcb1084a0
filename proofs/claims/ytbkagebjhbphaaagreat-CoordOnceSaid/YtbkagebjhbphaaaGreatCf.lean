/-
 coord: asked, acknowledged, given up.
-/
import Derived.Test.YtbkagebjhbphaaaGreatCc
namespace Go.Proofs.YtbkagebjhbphaaaGreat
open Int renaming toNat→D0
open IntKind renaming i64→C5
open List renaming drop→r3,flatMap→q3,getD→C0,length→r8,length_append→o1,length_cons→s0,length_drop→o0,length_map→s3,length_nil→F2,length_replicate→H2,length_set→H1,length_take→m9,map→s5,mem_flatMap→Q3,mem_of_getElem?→D3,set→u2,take→q7
open Ll renaming mk→E2
open Sv renaming mk→H0
open _root_.Go.Proofs.Tryz renaming call104→P8,call27→Q2,isAgg107→P9,isAgg24→P3,isAgg28→D4,isAgg3→C4,isAgg30→D2,isAgg79→Q1,prog→v8,sizeOf107→Q0
open WL renaming nil→C6
open Wp renaming exit→C7,loop→C3
set_option maxRecDepth 100000
open Go.RowKit
set_option linter.unusedVariables false
set_option linter.unusedSectionVars false
set_option linter.unusedSimpArgs false
def lu (a:Nat):Bool:=
 false
theorem rC (w D a c) (H:Own w D w []) (hr:lu a=c):
    Calls v8 136 #[vU a] w (d9 fun v w'=>v= .bool c∧Own w D w' []):=by
 refine cb Tryz.func136 ?_
 refine sr (Ar rfl (Mz rfl (Mz rfl (fw (.bool false) (IG (e:= !(decide (((a:Nat):Int)=((a:Nat):Int)))) yk i8) (An rfl (rt (rs ?_)))))))
 have b:=H.pk []
 obtain rfl:_=false:=hr.symm.trans rfl
 exact⟨rfl,b⟩
def gP (c:Nat) (d:Nat):Int:=
 bnd (lu c) fun b=>bnd (lu d) fun a=>if b=true then if a=true then 0 else(-1) else if a=true then 1 else if((c:Nat):Int) < ((d:Nat):Int) then(-1) else if((c:Nat):Int) > ((d:Nat):Int) then 1 else 0
theorem mF (w D i j C) (H:Own w D w []) (hr:gP i j=C):
    Calls v8 104 #[vU i,vU j] w (d9 fun v w'=>v=vI C∧Own w D w' []):=by
 refine cb Tryz.func104 ?_
 refine sr (Ar rfl (Mz rfl ?_))
 obtain⟨l,a⟩:∃ q,lu i=q:=⟨_,rfl⟩
 obtain⟨J,m,E,n,F⟩:=Ii H
 refine cl Tryz.call136 (rC _ _ i l m a) ?_
 rintro _ K ⟨rfl,o⟩
 have t:=n _ _ o
 refine Ar rfl (Mz rfl ?_)
 obtain⟨k,b⟩:∃ q,lu j=q:=⟨_,rfl⟩
 obtain⟨L,p,G,r,I⟩:=Ii t
 refine cl Tryz.call136 (rC _ _ j k p b) ?_
 rintro _ M ⟨rfl,s⟩
 have e:=r _ _ s
 refine An rfl (Ic (sr (Mn rfl ?_)))
 rcases Li (l) with c | c
 refine jT c (Ic (sr (Mn rfl ?_)))
 rcases Li (k) with f | f
 refine jT f (sr (An rfl (rt (tR (tR (rs ?_))))))
 have u:=e.pk []
 obtain rfl:_=0:=hr.symm.trans (et (ah a) (et (ah b) (et (ip c) (ip f))))
 exact⟨rfl,u⟩
 refine jF f (sk (sr (An rfl (rt (tR (rs ?_))))))
 have x:=e.pk []
 obtain rfl:_=(-1):=hr.symm.trans (et (ah a) (et (ah b) (et (ip c) (gm f))))
 exact⟨rfl,x⟩
 refine jF c (sk (Ic (sr (Mn rfl ?_))))
 rcases Li (k) with d | d
 refine jT d (sr (An rfl (rt (tR (rs ?_)))))
 have y:=e.pk []
 obtain rfl:_=1:=hr.symm.trans (et (ah a) (et (ah b) (et (gm c) (ip d))))
 exact⟨rfl,y⟩
 refine jF d (sk (Ic (sr (Mz rfl (Mz rfl (Kz (.bool (decide (((i:Nat):Int) < ((j:Nat):Int)))) (nt ?_)))))))
 by_cases g:((i:Nat):Int) < ((j:Nat):Int)
 refine jT (dT g) (sr (An rfl (rt (tR (rs ?_)))))
 have z:=e.pk []
 obtain rfl:_=(-1):=hr.symm.trans (et (ah a) (et (ah b) (et (gm c) (et (gm d) (ip g)))))
 exact⟨rfl,z⟩
 refine jF (dF g) (sk (Ic (sr (Mz rfl (Mz rfl (Kz (.bool (decide (((i:Nat):Int) > ((j:Nat):Int)))) (nt ?_)))))))
 by_cases h:((i:Nat):Int) > ((j:Nat):Int)
 refine jT (dT h) (sr (An rfl (rt (tR (rs ?_)))))
 have A:=e.pk []
 obtain rfl:_=1:=hr.symm.trans (et (ah a) (et (ah b) (et (gm c) (et (gm d) (et (iN g) (ip h))))))
 exact⟨rfl,A⟩
 refine jF (dF h) (sk (sr (An rfl (rt (rs ?_)))))
 have B:=e.pk []
 obtain rfl:_=0:=hr.symm.trans (et (ah a) (et (ah b) (et (gm c) (et (gm d) (et (iN g) (iN h))))))
 exact⟨rfl,B⟩
def dB (l0:List bH) (f:Nat):Nat→Nat→Nat→Nat
  | 0,a,b=>default
  | c+1,a,b=>if((a:Nat):Int) < ((b:Nat):Int) then bnd (C0 l0 ((a+b) / 2) default) fun d=>bnd (gP d.aN f) fun e=>if e < 0 then dB l0 f c (((a+b) / 2)+1) b else dB l0 f c a ((a+b) / 2) else a
def bM (l0:List bH) (c:Nat):Int × Bool:=
 bnd (dB l0 c ((l0.length - 0)+1) 0 l0.length) fun sLrL=>if((sLrL:Nat):Int) < ((l0.length:Nat):Int) then bnd (C0 l0 sLrL default) fun a=>bnd (gP a.aN c) fun b=>(((sLrL:Nat):Int),decide (b=0)) else(((sLrL:Nat):Int),false)
theorem iJ (w D y Y X d0 l0 n J Z) (H:Own w D w []) (G:s5 aC.abs d0=l0) (h:Ro w D fun w'=>bE w' 5 y Y (q3 aC.cells d0)) (K:∀ x ∈ d0,Ro w D (fun w'=>bE w' 1 x.au.A x.au.ls.length (q3 (eI .i64) x.au.ls))∧(x.au.ls.length≤x.au.c∧x.au.ls.length≤9223372036854775807)) (aa:Y=l0.length) (aL:l0.length *56≤211106232532992) (hr:bM l0 n=(J,Z)):
    Calls v8 132 #[.slice y Y X,vU n, .func (.func 133) #[] #[]] w (d9 fun v w'=>v= .tuple #[vI J, .bool Z]∧Own w D w' []∧(0≤J∧J≤((l0.length:Nat):Int))∧(Bool.toNat Z=0∨J < ((l0.length:Nat):Int))):=by
 subst aa
 have ay:=aB G
 refine cb Tryz.func132 ?_
 refine sr (Az rfl (Ar rfl (Mz rfl (Kz (vJ l0.length) (Ar rfl (Mz rfl (Az rfl (An rfl (Ic (bo ?_))))))))))
 have ae:=H.pk []
 obtain⟨af,g⟩:=rz fun (a:Nat) (b:Nat) (o:Nat) w'=>Own w D w' []∧a≤b∧b≤l0.length∧b - a < o∧dB l0 n ((l0.length - 0)+1) 0 l0.length=dB l0 n o a b
 refine C3 (fun i:Nat × Nat × Nat=> [(9,vJ i.1),(10,vJ i.2.1),(8,vJ l0.length),(7, .bool false),(6,vI 0),(0, .slice y l0.length X),(1,vU n),(2, .func (.func 133) #[] #[])]) af (fun i=>i.2.2) (0,l0.length,(l0.length - 0)+1) ⟨rfl,rfl,rfl,rfl,rfl,rfl,rfl,rfl,trivial⟩ (g.2 ⟨ae,e6,e6,e6,rfl⟩) ?_
 rintro ⟨a,b,o⟩ aM L
 obtain⟨f,az,aA,aD,p⟩:=g.1 L
 obtain⟨j,M⟩:∃ q,o=q+1:=⟨o - 1,e6⟩
 subst M
 refine Ic (sr (Mz rfl (Mz rfl (Kz (.bool (decide (((a:Nat):Int) < ((b:Nat):Int)))) (nt ?_)))))
 by_cases r:((a:Nat):Int) < ((b:Nat):Int)
 refine jT (dT r) (sk (bo (sr (Mz rfl (Mz rfl (fw (vJ (a+b)) (Ie (e:=C5.wrap (((a:Nat):Int)+((b:Nat):Int))) yk f0) (fw (vU (a+b)) (Ie (e:=IntKind.u64.wrap ((a+b:Nat):Int)) yk (IntWalk.u64_in _ e6)) (fw (vU ((a+b) / 2)) (Ie (e:=Int.fdiv ((a+b:Nat):Int) 2) yk (nV _ 1 _ f4)) (fw (vJ ((a+b) / 2)) (Ie (e:=C5.wrap (((a+b) / 2:Nat):Int)) yk (Lf _ e6)) (Ar rfl (Mz rfl (Mz rfl (Mz rfl ?_)))))))))))))
 obtain⟨l,s⟩:=dN (ls:=d0) (i:=(a+b) / 2) aC.len f4 (f.ro h) e9
 have C:=fF G s
 have aF:=(K _ (D3 s)).2
 refine fw (.pointer (some ⟨ab y,ao y+((a+b) / 2) *5,none⟩)) (Ij (kW) rfl rfl ((f.ro h).addr (i:=(a+b) / 2) e6) e6) (fw (.agg (aC.cells l).toArray) (Io rfl (Iy (cs:=(aC.cells l)) Tryz.isAgg60 Tryz.sizeOf60 ((f.ro h).elem aC.len s f4))) (Mz rfl ?_))
 refine WL.do rfl (IK Tryz.call133 rfl rfl ?_ (fun _ _ k=>k))
 refine cb Tryz.func133 ?_
 refine sr ?_
 refine dV (aC.cells l) 60 f ?_
 intro ag aN N
 refine Ar rfl (Kz (vP ag 0) (Lz (vU l.aN) N 0 D4 (Mz rfl ?_)))
 obtain⟨I,t⟩:∃ q,gP l.aN n=q:=⟨_,rfl⟩
 obtain⟨aO,O,aG,P,aH⟩:=Ii N
 refine cl P8 (mF _ _ l.aN n I O t) ?_
 rintro _ aP ⟨rfl,Q⟩
 have R:=P _ _ Q
 refine An rfl (rt (rs (Kz (.bool (decide (I < 0))) (nt ?_))))
 by_cases z:I < 0
 refine jT (dT z) (Ib (Mz rfl (fw (vI ((((a+b) / 2)+1:Nat):Int)) (Ie (e:=C5.wrap ((((a+b) / 2:Nat):Int)+1)) yk f0) (Az rfl (C6 (bN ?_))))))
 have ai:=R.pk []
 exact Ir (((a+b) / 2)+1,b,j) ⟨rfl,rfl,rfl,rfl,rfl,rfl,rfl,rfl,trivial⟩ (g.2 ⟨ai,e6,e6,e6,et (p) (et (ip r) (et (ah (bJ C)) (et (ah t) (ip z))))⟩) (by show j < j+1; omega)
 refine jF (dF z) (Ib (Mz rfl (Az rfl (C6 (bN ?_)))))
 have aj:=R.pk []
 exact Ir (a,(a+b) / 2,j) ⟨rfl,rfl,rfl,rfl,rfl,rfl,rfl,rfl,trivial⟩ (g.2 ⟨aj,e6,e6,e6,et (p) (et (ip r) (et (ah (bJ C)) (et (ah t) (iN z))))⟩) (by show j < j+1; omega)
 refine jF (dF r) (C7 (Il ?_))
 have E:dB l0 n ((l0.length - 0)+1) 0 l0.length=a:=et (p) (iN r)
 refine Il (IB (Ig (sr (Mz rfl (Mz rfl (Mz rfl (Kz (.bool (decide (((a:Nat):Int) < ((l0.length:Nat):Int)))) (Mz rfl ?_))))))))
 by_cases d:((a:Nat):Int) < ((l0.length:Nat):Int)
 refine gw (.func (.func 133) #[] #[]) (dT d) (Iq rfl) (gw (.slice y l0.length X) (dT d) (Iq rfl) (gw (vJ a) (dT d) (Iq rfl) ?_))
 obtain⟨m,u⟩:=dN (ls:=d0) (i:=a) aC.len f4 (f.ro h) e9
 have S:=fF G u
 have aI:=(K _ (D3 u)).2
 refine gw (.pointer (some ⟨ab y,ao y+a *5,none⟩)) (dT d) (Ij (kW) rfl rfl ((f.ro h).addr (i:=a) e6) e6) (gw (.agg (aC.cells m).toArray) (dT d) (Io rfl (Iy (cs:=(aC.cells m)) Tryz.isAgg60 Tryz.sizeOf60 ((f.ro h).elem aC.len u f4))) (gw (vU n) (dT d) (Iq rfl) ?_))
 refine Jm rfl rfl (dT d) rfl (IK Tryz.call133 rfl rfl ?_ (fun _ _ k=>k))
 refine cb Tryz.func133 ?_
 refine sr ?_
 refine dV (aC.cells m) 60 f ?_
 intro ak aQ T
 refine Ar rfl (Kz (vP ak 0) (Lz (vU m.aN) T 0 D4 (Mz rfl ?_)))
 obtain⟨B,F⟩:∃ q,gP m.aN n=q:=⟨_,rfl⟩
 obtain⟨aR,U,aJ,V,aK⟩:=Ii T
 refine cl P8 (mF _ _ m.aN n B U F) ?_
 rintro _ aS ⟨rfl,W⟩
 have au:=V _ _ W
 refine An rfl (rt (rs (Gz (.bool (decide (B=0))) (dT d) (fw (.bool (decide (B=0))) (Iw rfl (dT d) rfl) (Az rfl (An rfl (rt (Fin.res (lW rfl rfl rfl) ?_))))))))
 have av:=au.pk []
 obtain⟨rfl,rfl⟩:=ic (hr.symm.trans (show _=(((a:Nat):Int),decide (B=0)) from et (ah E) (et (ip d) (et (ah (bJ S)) (ah F)))))
 exact⟨rfl,av,e6,i7⟩
 refine Sz (dF d) (Sz (dF d) (Sz (dF d) (Sz (dF d) (Sz (dF d) (Sz (dF d) (Sz (dF d) (Sz (dF d) (fw (.bool false) (Ih rfl (dF d) rfl) (Az rfl (An rfl (rt (Fin.res (lW rfl rfl rfl) ?_))))))))))))
 have ax:=f.pk []
 obtain⟨rfl,rfl⟩:=ic (hr.symm.trans (show _=(((a:Nat):Int),false) from et (ah E) (iN d)))
 exact⟨rfl,ax,e6,i7⟩
def eP (l0:List dK) (f:Nat):Nat→Nat→Nat→Nat
  | 0,a,b=>default
  | c+1,a,b=>if((a:Nat):Int) < ((b:Nat):Int) then bnd (C0 l0 ((a+b) / 2) default) fun d=>bnd (gP d.aR f) fun e=>if e < 0 then eP l0 f c (((a+b) / 2)+1) b else eP l0 f c a ((a+b) / 2) else a
def bW (l0:List dK) (c:Nat):Int × Bool:=
 bnd (eP l0 c ((l0.length - 0)+1) 0 l0.length) fun sLrL=>if((sLrL:Nat):Int) < ((l0.length:Nat):Int) then bnd (C0 l0 sLrL default) fun a=>bnd (gP a.aR c) fun b=>(((sLrL:Nat):Int),decide (b=0)) else(((sLrL:Nat):Int),false)
theorem jb (w D B n0 Z d0 l0 s M r1) (H:Own w D w []) (J:s5 bB.abs d0=l0) (p:Ro w D fun w'=>bE w' 9 B n0 (q3 bB.cells d0)) (n:∀ x ∈ d0,Ro w D (fun w'=>bE w' 6 x.bV.A x.bV.ls.length (q3 bi.cells x.bV.ls))∧(x.bV.ls.length≤x.bV.c∧x.bV.ls.length≤9223372036854775807)∧Ro w D (fun w'=>bE w' 3 x.aG.A x.aG.ls.length (q3 bG.cells x.aG.ls))∧(x.aG.ls.length≤x.aG.c∧x.aG.ls.length≤9223372036854775807)∧(∀ h ∈ x.aG.ls,Ro w D (fun w'=>bE w' 6 h.aH.A h.aH.ls.length (q3 bi.cells h.aH.ls))∧(h.aH.ls.length≤h.aH.c∧h.aH.ls.length≤9223372036854775807)∧Ro w D (fun w'=>bE w' 1 h.aJ.A h.aJ.ls.length (q3 (eI .i64) h.aJ.ls))∧(h.aJ.ls.length≤h.aJ.c∧h.aJ.ls.length≤9223372036854775807))∧Ro w D (fun w'=>bE w' 1 x.bD.A x.bD.ls.length (q3 eL x.bD.ls))∧(x.bD.ls.length≤x.bD.c∧x.bD.ls.length≤9223372036854775807)∧Ro w D (fun w'=>bE w' 1 x.af.A x.af.ls.length (q3 (IX (β:=ae)) x.af.ls))∧(x.af.ls.length≤x.af.c∧x.af.ls.length≤9223372036854775807)∧(∀ h ∈ x.af.ls,Ro w D (fun w'=>bE w' 3 h.A h.ls.length (q3 ae.cells h.ls))∧(h.ls.length≤h.c∧h.ls.length≤9223372036854775807)∧(∀ L ∈ h.ls,Ro w D (fun w'=>bE w' 2 L.ak.A L.ak.ls.length (q3 aI.cells L.ak.ls))∧(L.ak.ls.length≤L.ak.c∧L.ak.ls.length≤9223372036854775807)))) (ag:n0=l0.length) (aY:l0.length *136≤211106232532992) (hr:bW l0 s=(M,r1)):
    Calls v8 102 #[.slice B n0 Z,vU s, .func (.func 103) #[] #[]] w (d9 fun v w'=>v= .tuple #[vI M, .bool r1]∧Own w D w' []∧(0≤M∧M≤((l0.length:Nat):Int))∧(Bool.toNat r1=0∨M < ((l0.length:Nat):Int))):=by
 subst ag
 have aC:=aB J
 refine cb Tryz.func102 ?_
 refine sr (Az rfl (Ar rfl (Mz rfl (Kz (vJ l0.length) (Ar rfl (Mz rfl (Az rfl (An rfl (Ic (bo ?_))))))))))
 have ai:=H.pk []
 obtain⟨aj,o⟩:=rz fun (a:Nat) (b:Nat) (t:Nat) w'=>Own w D w' []∧a≤b∧b≤l0.length∧b - a < t∧eP l0 s ((l0.length - 0)+1) 0 l0.length=eP l0 s t a b
 refine C3 (fun i:Nat × Nat × Nat=> [(9,vJ i.1),(10,vJ i.2.1),(8,vJ l0.length),(7, .bool false),(6,vI 0),(0, .slice B l0.length Z),(1,vU s),(2, .func (.func 103) #[] #[])]) aj (fun i=>i.2.2) (0,l0.length,(l0.length - 0)+1) ⟨rfl,rfl,rfl,rfl,rfl,rfl,rfl,rfl,trivial⟩ (o.2 ⟨ai,e6,e6,e6,rfl⟩) ?_
 rintro ⟨a,b,t⟩ aZ N
 obtain⟨m,aD,aF,aG,u⟩:=o.1 N
 obtain⟨r,O⟩:∃ q,t=q+1:=⟨t - 1,e6⟩
 subst O
 refine Ic (sr (Mz rfl (Mz rfl (Kz (.bool (decide (((a:Nat):Int) < ((b:Nat):Int)))) (nt ?_)))))
 by_cases y:((a:Nat):Int) < ((b:Nat):Int)
 refine jT (dT y) (sk (bo (sr (Mz rfl (Mz rfl (fw (vJ (a+b)) (Ie (e:=C5.wrap (((a:Nat):Int)+((b:Nat):Int))) yk f0) (fw (vU (a+b)) (Ie (e:=IntKind.u64.wrap ((a+b:Nat):Int)) yk (IntWalk.u64_in _ e6)) (fw (vU ((a+b) / 2)) (Ie (e:=Int.fdiv ((a+b:Nat):Int) 2) yk (nV _ 1 _ f4)) (fw (vJ ((a+b) / 2)) (Ie (e:=C5.wrap (((a+b) / 2:Nat):Int)) yk (Lf _ e6)) (Ar rfl (Mz rfl (Mz rfl (Mz rfl ?_)))))))))))))
 obtain⟨f,j⟩:=dN (ls:=d0) (i:=(a+b) / 2) bB.len f4 (m.ro p) e9
 have F:=fF J j
 have aH:=(n _ (D3 j)).2.1
 have aJ:=(n _ (D3 j)).2.2.2.1
 have aK:r8 (s5 bG.abs f.aG.ls)=f.aG.ls.length:=s3 ..
 have aL:=(n _ (D3 j)).2.2.2.2.2.2.1
 have aM:=(n _ (D3 j)).2.2.2.2.2.2.2.2.1
 have aN:r8 (s5 bO.abs f.af.ls)=f.af.ls.length:=s3 ..
 refine fw (.pointer (some ⟨ab B,ao B+((a+b) / 2) *9,none⟩)) (Ij (qh) rfl rfl ((m.ro p).addr (i:=(a+b) / 2) e6) e6) (fw (.agg (bB.cells f).toArray) (Io rfl (Iy (cs:=(bB.cells f)) P9 Q0 ((m.ro p).elem bB.len j f4))) (Mz rfl ?_))
 refine WL.do rfl (IK Tryz.call103 rfl rfl ?_ (fun _ _ k=>k))
 refine cb Tryz.func103 ?_
 refine sr ?_
 refine dV (bB.cells f) 107 m ?_
 intro ak bf P
 refine Ar rfl (Kz (vP ak 0) (Lz (vU f.aR) P 0 D4 (Mz rfl ?_)))
 obtain⟨K,z⟩:∃ q,gP f.aR s=q:=⟨_,rfl⟩
 obtain⟨bg,Q,aO,R,aP⟩:=Ii P
 refine cl P8 (mF _ _ f.aR s K Q z) ?_
 rintro _ bn ⟨rfl,S⟩
 have T:=R _ _ S
 refine An rfl (rt (rs (Kz (.bool (decide (K < 0))) (nt ?_))))
 by_cases C:K < 0
 refine jT (dT C) (Ib (Mz rfl (fw (vI ((((a+b) / 2)+1:Nat):Int)) (Ie (e:=C5.wrap ((((a+b) / 2:Nat):Int)+1)) yk f0) (Az rfl (C6 (bN ?_))))))
 have au:=T.pk []
 exact Ir (((a+b) / 2)+1,b,r) ⟨rfl,rfl,rfl,rfl,rfl,rfl,rfl,rfl,trivial⟩ (o.2 ⟨au,e6,e6,e6,et (u) (et (ip y) (et (ah (bJ F)) (et (ah z) (ip C))))⟩) (by show r < r+1; omega)
 refine jF (dF C) (Ib (Mz rfl (Az rfl (C6 (bN ?_)))))
 have av:=T.pk []
 exact Ir (a,(a+b) / 2,r) ⟨rfl,rfl,rfl,rfl,rfl,rfl,rfl,rfl,trivial⟩ (o.2 ⟨av,e6,e6,e6,et (u) (et (ip y) (et (ah (bJ F)) (et (ah z) (iN C))))⟩) (by show r < r+1; omega)
 refine jF (dF y) (C7 (Il ?_))
 have G:eP l0 s ((l0.length - 0)+1) 0 l0.length=a:=et (u) (iN y)
 refine Il (IB (Ig (sr (Mz rfl (Mz rfl (Mz rfl (Kz (.bool (decide (((a:Nat):Int) < ((l0.length:Nat):Int)))) (Mz rfl ?_))))))))
 by_cases d:((a:Nat):Int) < ((l0.length:Nat):Int)
 refine gw (.func (.func 103) #[] #[]) (dT d) (Iq rfl) (gw (.slice B l0.length Z) (dT d) (Iq rfl) (gw (vJ a) (dT d) (Iq rfl) ?_))
 obtain⟨g,l⟩:=dN (ls:=d0) (i:=a) bB.len f4 (m.ro p) e9
 have U:=fF J l
 have aQ:=(n _ (D3 l)).2.1
 have aR:=(n _ (D3 l)).2.2.2.1
 have aS:r8 (s5 bG.abs g.aG.ls)=g.aG.ls.length:=s3 ..
 have aT:=(n _ (D3 l)).2.2.2.2.2.2.1
 have aU:=(n _ (D3 l)).2.2.2.2.2.2.2.2.1
 have aV:r8 (s5 bO.abs g.af.ls)=g.af.ls.length:=s3 ..
 refine gw (.pointer (some ⟨ab B,ao B+a *9,none⟩)) (dT d) (Ij (qh) rfl rfl ((m.ro p).addr (i:=a) e6) e6) (gw (.agg (bB.cells g).toArray) (dT d) (Io rfl (Iy (cs:=(bB.cells g)) P9 Q0 ((m.ro p).elem bB.len l f4))) (gw (vU s) (dT d) (Iq rfl) ?_))
 refine Jm rfl rfl (dT d) rfl (IK Tryz.call103 rfl rfl ?_ (fun _ _ k=>k))
 refine cb Tryz.func103 ?_
 refine sr ?_
 refine dV (bB.cells g) 107 m ?_
 intro ax bq V
 refine Ar rfl (Kz (vP ax 0) (Lz (vU g.aR) V 0 D4 (Mz rfl ?_)))
 obtain⟨E,I⟩:∃ q,gP g.aR s=q:=⟨_,rfl⟩
 obtain⟨bu,W,aW,X,aX⟩:=Ii V
 refine cl P8 (mF _ _ g.aR s E W I) ?_
 rintro _ bv ⟨rfl,Y⟩
 have ay:=X _ _ Y
 refine An rfl (rt (rs (Gz (.bool (decide (E=0))) (dT d) (fw (.bool (decide (E=0))) (Iw rfl (dT d) rfl) (Az rfl (An rfl (rt (Fin.res (lW rfl rfl rfl) ?_))))))))
 have az:=ay.pk []
 obtain⟨rfl,rfl⟩:=ic (hr.symm.trans (show _=(((a:Nat):Int),decide (E=0)) from et (ah G) (et (ip d) (et (ah (bJ U)) (ah I)))))
 exact⟨rfl,az,e6,i7⟩
 refine Sz (dF d) (Sz (dF d) (Sz (dF d) (Sz (dF d) (Sz (dF d) (Sz (dF d) (Sz (dF d) (Sz (dF d) (fw (.bool false) (Ih rfl (dF d) rfl) (Az rfl (An rfl (rt (Fin.res (lW rfl rfl rfl) ?_))))))))))))
 have aA:=m.pk []
 obtain⟨rfl,rfl⟩:=ic (hr.symm.trans (show _=(((a:Nat):Int),false) from et (ah G) (iN d)))
 exact⟨rfl,aA,e6,i7⟩
def lH (g:bI) (c:bL) (b:aA):bI:=
 bnd (bM b.aa.aj.ls c.aN) fun a=>bnd (bW b.ay.ls c.aN) fun d=>if a.2=true then bnd (dZ g c.aN ([c.aJ]) a.2) fun e=>e else if d.2=true then g else bnd (dZ g c.aN ([c.aJ]) a.2) fun f=>f
set_option maxHeartbeats 4000000 in
theorem xg (w D g0) (p0:bI) (C E t) (d:bL) (ak aP au av aQ ax ay az aR aD e) (b:aA) (M N g h o O P j l p Q R S T U V W X Y Z) (r0:bI) (H:Own w D w [blk g0 [.pointer (some ⟨e,0,none⟩), .slice C p0.aX.ls.length E] 98,row C p0.aX.ls.length E (q3 bf.cells t) 42 21,sepL (q3 bf.own t),mK e b M b.aa.ag.ls.length N g h O P j l Q R S T U V W X Y Z]) (u:s5 bf.abs t=p0.aX.ls) (bq:aP=d.aH.ls.length) (dz:Ro w D fun w'=>bE w' 6 ak d.aH.ls.length (q3 bi.cells d.aH.ls)) (dA:d.aH.ls.length≤au∧d.aH.ls.length≤9223372036854775807) (bu:s5 ae.abs ay=d.ai.ls) (bv:aQ=d.ai.ls.length) (dB:Ro w D fun w'=>bE w' 3 av d.ai.ls.length (q3 ae.cells ay)) (dC:d.ai.ls.length≤ax∧d.ai.ls.length≤9223372036854775807) (dD:∀ x ∈ ay,Ro w D (fun w'=>bE w' 2 x.ak.A x.ak.ls.length (q3 aI.cells x.ak.ls))∧(x.ak.ls.length≤x.ak.c∧x.ak.ls.length≤9223372036854775807)) (bz:aR=d.ag.ls.length) (dE:Ro w D fun w'=>bE w' 2 az d.ag.ls.length (q3 aY.cells d.ag.ls)) (dF:d.ag.ls.length≤aD∧d.ag.ls.length≤9223372036854775807) (F:s5 aC.abs o=b.aa.aj.ls) (aF:Ro w D fun w'=>bE w' 5 g b.aa.aj.ls.length (q3 aC.cells o)) (bH:b.aa.aj.ls.length≤h∧b.aa.aj.ls.length≤9223372036854775807) (G:∀ x ∈ o,Ro w D (fun w'=>bE w' 1 x.au.A x.au.ls.length (q3 (eI .i64) x.au.ls))∧(x.au.ls.length≤x.au.c∧x.au.ls.length≤9223372036854775807)) (I:s5 bB.abs p=b.ay.ls) (aG:Ro w D fun w'=>bE w' 9 j b.ay.ls.length (q3 bB.cells p)) (bJ:b.ay.ls.length≤l∧b.ay.ls.length≤9223372036854775807) (a:∀ x ∈ p,Ro w D (fun w'=>bE w' 6 x.bV.A x.bV.ls.length (q3 bi.cells x.bV.ls))∧(x.bV.ls.length≤x.bV.c∧x.bV.ls.length≤9223372036854775807)∧Ro w D (fun w'=>bE w' 3 x.aG.A x.aG.ls.length (q3 bG.cells x.aG.ls))∧(x.aG.ls.length≤x.aG.c∧x.aG.ls.length≤9223372036854775807)∧(∀ f ∈ x.aG.ls,Ro w D (fun w'=>bE w' 6 f.aH.A f.aH.ls.length (q3 bi.cells f.aH.ls))∧(f.aH.ls.length≤f.aH.c∧f.aH.ls.length≤9223372036854775807)∧Ro w D (fun w'=>bE w' 1 f.aJ.A f.aJ.ls.length (q3 (eI .i64) f.aJ.ls))∧(f.aJ.ls.length≤f.aJ.c∧f.aJ.ls.length≤9223372036854775807))∧Ro w D (fun w'=>bE w' 1 x.bD.A x.bD.ls.length (q3 eL x.bD.ls))∧(x.bD.ls.length≤x.bD.c∧x.bD.ls.length≤9223372036854775807)∧Ro w D (fun w'=>bE w' 1 x.af.A x.af.ls.length (q3 (IX (β:=ae)) x.af.ls))∧(x.af.ls.length≤x.af.c∧x.af.ls.length≤9223372036854775807)∧(∀ f ∈ x.af.ls,Ro w D (fun w'=>bE w' 3 f.A f.ls.length (q3 ae.cells f.ls))∧(f.ls.length≤f.c∧f.ls.length≤9223372036854775807)∧(∀ y2 ∈ f.ls,Ro w D (fun w'=>bE w' 2 y2.ak.A y2.ak.ls.length (q3 aI.cells y2.ak.ls))∧(y2.ak.ls.length≤y2.ak.c∧y2.ak.ls.length≤9223372036854775807)))) (eD:b.aa.ag.ls.length≤1000∧b.aa.aj.ls.length≤1000∧b.aa.aF.ls.length≤1000∧b.ay.ls.length≤1000∧p0.aX.ls.length≤100000) (hr:lH p0 d b=r0):
    Calls v8 59 #[vP g0 0, .agg (gU d.aD d.aJ d.fI d.aK d.dz d.eH d.aP d.av d.aN d.dY d.aV d.aL d.dL d.cu d.xN d.cz d.bU.bF d.bU.bT ak aP au av aQ ax az aR aD).toArray] w (d9 fun v w'=> ∃ aH aJ K,v= .tuple #[]∧Own w D w' [blk g0 [vP e 0, .slice aH r0.aX.ls.length aJ] 98,row aH r0.aX.ls.length aJ (q3 bf.cells K) 42 21,sepL (q3 bf.own K),mK e b M b.aa.ag.ls.length N g h O P j l Q R S T U V W X Y Z]∧(s5 bf.abs K=r0.aX.ls)):=by
 subst bq bv bz
 have dw:=aB u
 have dx:=aB bu
 have bD:=aB F
 have bF:=aB I
 have dG:=H.rowC (i:=1) rfl
 refine cb Tryz.func59 ?_
 refine sr ?_
 refine dV (iH d ak au av ax az aD) 42 H ?_
 intro ag eF dH
 refine nt (Ic ?_)
 refine vX [] (Iu IC) dH ?_
 intro eG bK
 refine qv 0 rfl rfl (qp g0 0 1 rfl (qp g0 0 2 rfl (ql 3 rfl 1 P3 rfl rfl rfl (qp ag 8 4 rfl (ql 5 rfl 0 D4 rfl rfl rfl ?_)))))
 refine GX.do 6 rfl e7 (Iz Tryz.call95 rfl ?_ (fun _ _ k=>k))
 refine cb Tryz.func95 ?_
 refine sr (Az rfl (Ar rfl (Mz rfl (Kz (vP e 0) (Kz (vP e 0) (Kz (vP e 5) (Lz (.slice g b.aa.aj.ls.length h) bK 4 D2 (Mz rfl ?_))))))))
 obtain⟨⟨ai,r⟩,aa⟩:∃ q:Int × Bool,bM b.aa.aj.ls d.aN=q:=⟨_,rfl⟩
 obtain⟨eH,bN,aS,bO,dU⟩:=Ii bK
 refine cl Tryz.call132 (iJ _ _ g b.aa.aj.ls.length h o b.aa.aj.ls d.aN ai r bN F (aS _ aF) (fun z B=>⟨aS _ (G z B).1,(G z B).2⟩) rfl e6 aa) ?_
 rintro _ eO ⟨rfl,bP,aT,aU⟩
 have bQ:=bO _ _ bP
 replace aT:0≤ai∧ai≤((b.aa.aj.ls.length:Nat):Int):=aT
 replace aU:Bool.toNat r=0∨ai < ((b.aa.aj.ls.length:Nat):Int):=aU
 refine Kz (vI ai) (Kz (.bool r) (Az rfl (An rfl (rt (Fin.res (lW rfl rfl rfl) ?_)))))
 refine⟨.inr ⟨_,bQ⟩, ?_⟩
 refine qv 7 rfl rfl (qk (vI ai) 8 rfl (qk (.bool r) 9 rfl (qa 10 rfl rfl (qa 11 rfl rfl (qn (Ig (Ic ?_)))))))
 refine vX [] (Iu IC) bQ ?_
 intro eP bR
 refine qv 0 rfl rfl (qp g0 0 1 rfl (qp g0 0 2 rfl (ql 3 rfl 1 P3 rfl rfl rfl (qp ag 8 4 rfl (ql 5 rfl 0 D4 rfl rfl rfl ?_)))))
 refine GX.do 6 rfl e7 (Iz Tryz.call62 rfl ?_ (fun _ _ k=>k))
 refine cb Tryz.func62 ?_
 refine sr (Az rfl (Ar rfl (Mz rfl (Kz (vP e 0) (Kz (vP e 8) (Lz (.slice j b.ay.ls.length l) bR 4 Q1 (Mz rfl ?_)))))))
 obtain⟨⟨aj,s⟩,af⟩:∃ q:Int × Bool,bW b.ay.ls d.aN=q:=⟨_,rfl⟩
 obtain⟨eQ,bS,m,bT,dW⟩:=Ii bR
 refine cl Tryz.call102 (jb _ _ j b.ay.ls.length l p b.ay.ls d.aN aj s bS I (m _ aG) (fun z B=>⟨m _ (a z B).1,(a z B).2.1,m _ (a z B).2.2.1,(a z B).2.2.2.1,(fun f k1=>⟨m _ ((a z B).2.2.2.2.1 f k1).1,((a z B).2.2.2.2.1 f k1).2.1,m _ ((a z B).2.2.2.2.1 f k1).2.2.1,((a z B).2.2.2.2.1 f k1).2.2.2⟩),m _ (a z B).2.2.2.2.2.1,(a z B).2.2.2.2.2.2.1,m _ (a z B).2.2.2.2.2.2.2.1,(a z B).2.2.2.2.2.2.2.2.1,(fun f k1=>⟨m _ ((a z B).2.2.2.2.2.2.2.2.2 f k1).1,((a z B).2.2.2.2.2.2.2.2.2 f k1).2.1,(fun y2 k2=>⟨m _ (((a z B).2.2.2.2.2.2.2.2.2 f k1).2.2 y2 k2).1,(((a z B).2.2.2.2.2.2.2.2.2 f k1).2.2 y2 k2).2⟩)⟩)⟩) rfl e6 af) ?_
 rintro _ eT ⟨rfl,bU,aV,aW⟩
 have J:=bT _ _ bU
 replace aV:0≤aj∧aj≤((b.ay.ls.length:Nat):Int):=aV
 replace aW:Bool.toNat s=0∨aj < ((b.ay.ls.length:Nat):Int):=aW
 refine Kz (vI aj) (Kz (.bool s) (Az rfl (An rfl (rt (Fin.res (lW rfl rfl rfl) ?_)))))
 refine⟨.inr ⟨_,J⟩, ?_⟩
 refine qv 7 rfl rfl (qk (vI aj) 8 rfl (qk (.bool s) 9 rfl (qa 10 rfl rfl (qa 11 rfl rfl (qn (Ig (sr (Mz rfl (Mz rfl ?_)))))))))
 rcases Li (r) with n | n
 have h54t:Bool.toNat r=1:=by rw [n]; rfl
 refine Sz n (Sz n (fw (.bool true) (Iw rfl n rfl) (nt (jt (Ib (Mz rfl (Kz (vP ag 8) (Lz (vU d.aN) J 0 D4 (Kz (vP ag 1) (Lz (vI d.aJ) J 0 C4 ?_))))))))))
 refine lg [vI d.aJ] 3 1 1 J ?_
 intro bV eU bA
 replace bA:=IL (y:=row bV 1 1 (q3 (eI .i64) ([d.aJ])) 3 1) rfl bA
 refine Mz rfl ?_
 have dI:=bA.pb [0,1,5]
 obtain⟨bX,aX⟩:∃ q,dZ p0 d.aN ([d.aJ]) r=q:=⟨_,rfl⟩
 obtain⟨eX,bY,dX,bZ,cu⟩:=IU dI
 refine cl Q2 (kV _ _ g0 p0 C E t e d.aN bV 1 1 ([d.aJ]) r bX bY u (cu _ 0 _ rfl aO) rfl i8 g7 aX) ?_
 rintro _ eY ⟨dJ,dK,dL,rfl,cz,aZ⟩
 have cB:=bZ _ _ cz
 have dY:=aB aZ
 have ed:=cB.rowC (i:=1) rfl
 refine C6 (IA (res0 rfl) ?_)
 have dM:=cB.pk [0,1,2,5]
 obtain rfl:_=bX:=hr.symm.trans (et (ah aa) (et (ah af) (et (ip n) (ah aX))))
 exact⟨dJ,dK,dL,rfl,dM,aZ⟩
 have h54t:Bool.toNat r=0:=by rw [n]; rfl
 refine I1 (v:= .bool s) rfl rfl n rfl (Iq rfl) (Gz (.bool (!s)) n (fw (.bool (!s)) (Ih rfl n rfl) (nt ?_)))
 rcases Li (s) with L | L
 have h76t:Bool.toNat s=1:=by rw [L]; rfl
 refine jF (cn L) (IE (IA (res0 rfl) ?_))
 have dN:=J.px [] [0] []
 obtain rfl:_=p0:=hr.symm.trans (et (ah aa) (et (ah af) (et (gm n) (ip L))))
 exact⟨C,E,t,rfl,dN,u⟩
 have h76t:Bool.toNat s=0:=by rw [L]; rfl
 refine jT (cn L) (Ib (Mz rfl (Kz (vP ag 8) (Lz (vU d.aN) J 0 D4 (Kz (vP ag 1) (Lz (vI d.aJ) J 0 C4 ?_))))))
 refine lg [vI d.aJ] 3 1 1 J ?_
 intro cK eZ bC
 replace bC:=IL (y:=row cK 1 1 (q3 (eI .i64) ([d.aJ])) 3 1) rfl bC
 refine Mz rfl ?_
 have dO:=bC.pb [0,1,5]
 obtain⟨cO,bg⟩:∃ q,dZ p0 d.aN ([d.aJ]) r=q:=⟨_,rfl⟩
 obtain⟨fe,cZ,ek,df,dh⟩:=IU dO
 refine cl Q2 (kV _ _ g0 p0 C E t e d.aN cK 1 1 ([d.aJ]) r cO cZ u (dh _ 0 _ rfl aO) rfl i8 g7 bg) ?_
 rintro _ fo ⟨dP,dQ,dR,rfl,di,bn⟩
 have dm:=df _ _ di
 have eu:=aB bn
 have eB:=dm.rowC (i:=1) rfl
 refine C6 (IA (res0 rfl) ?_)
 have dS:=dm.pk [0,1,2,5]
 obtain rfl:_=cO:=hr.symm.trans (et (ah aa) (et (ah af) (et (gm n) (et (gm L) (ah bg)))))
 exact⟨dP,dQ,dR,rfl,dS,bn⟩
def iI (a:bL):List Int→Nat→Unit ⊕ Int
  | [],b=>Sum.inl ()
  | c::d,b=>if c=a.aJ then Sum.inr ((b:Nat):Int) else iI a d (b+1)
def nL (l0:List Int) (a:bL):Int:=
 lp (iI a l0 0) fun _=>(-1)
theorem su (w D C R S l0 m) (a:bL) (d f g h n j l Q) (H:Own w D w [blk m (iH a d f g h j l) 42]) (z:Ro w D fun w'=>bE w' 1 C R (q3 (eI .i64) l0)) (T:R=l0.length) (aa:l0.length≤9223372036854775807) (F:Ro w D fun w'=>bE w' 6 d a.aH.ls.length (q3 bi.cells a.aH.ls)) (G:a.aH.ls.length≤f∧a.aH.ls.length≤9223372036854775807) (p:s5 ae.abs n=a.ai.ls) (I:Ro w D fun w'=>bE w' 3 g a.ai.ls.length (q3 ae.cells n)) (J:a.ai.ls.length≤h∧a.ai.ls.length≤9223372036854775807) (K:∀ x ∈ n,Ro w D (fun w'=>bE w' 2 x.ak.A x.ak.ls.length (q3 aI.cells x.ak.ls))∧(x.ak.ls.length≤x.ak.c∧x.ak.ls.length≤9223372036854775807)) (L:Ro w D fun w'=>bE w' 2 j a.ag.ls.length (q3 aY.cells a.ag.ls)) (M:a.ag.ls.length≤l∧a.ag.ls.length≤9223372036854775807) (hr:nL l0 a=Q):
    Calls v8 134 #[.slice C R S, .func (.func 97) #[] #[vP m 0]] w (d9 fun v w'=>v=vI Q∧Own w D w' [blk m (iH a d f g h j l) 42]∧(-1≤Q∧Q < ((l0.length:Nat):Int))):=by
 subst T
 have E:=aB p
 refine cb Tryz.func134 ?_
 refine sr (An rfl (Ic (sr (Mz rfl (Kz (vJ l0.length) (Mn rfl (bo ?_)))))))
 have U:=H.pf []
 obtain⟨V,r⟩:=nQ fun (b:Nat) w'=>Own w D w' [blk m (iH a d f g h j l) 42]∧b≤l0.length∧iI a l0 0=iI a (r3 b l0) b
 refine C3 (fun i:Nat=> [(4,vI 0),(8,vJ i),(7,vJ l0.length),(0, .slice C l0.length S),(1, .func (.func 97) #[] #[vP m 0])]) V (fun i=>l0.length - i) 0 ⟨rfl,rfl,rfl,rfl,rfl,trivial⟩ (r.2 ⟨U,e6,rfl⟩) ?_
 rintro b af N
 obtain⟨o,Z,s⟩:=r.1 N
 refine sr (Kz (.bool (decide (((b:Nat):Int) < ((l0.length:Nat):Int)))) (nt (Ic ?_)))
 by_cases O:((b:Nat):Int) < ((l0.length:Nat):Int)
 obtain⟨B,u⟩:=dN (ls:=l0) (i:=b) jd f4 (o.ro z) e9
 have y:=drop_at u
 refine jT (dT O) (sk (Ic (bo (sr (Mz rfl (Ar rfl (Mz rfl (Mz rfl (Mz rfl (fw (.pointer (some ⟨ab C,ao C+b *1,none⟩)) (Ij (om) rfl rfl ((o.ro z).addr (i:=b) e6) e6) (fw (vI B) (Io rfl (bZ.one C4 (((o.ro z).elem jd u f4).at_ (k:=0) rfl))) ?_)))))))))))
 refine WL.do rfl (IK Tryz.call97 rfl rfl ?_ (fun _ _ k=>k))
 refine cb Tryz.func97 ?_
 refine sr (Ar rfl (Mz rfl (Kz (vP m 1) (Lz (vI a.aJ) o 0 C4 (Kz (.bool (decide (B=a.aJ))) (An rfl (rt (rs (nt ?_)))))))))
 by_cases t:B=a.aJ
 refine jT (dT t) (sr (Mz rfl (An rfl (rt (bR (tR (tR (bR (tR (rs ?_))))))))))
 have W:=o.pf []
 obtain rfl:_=((b:Nat):Int):=hr.symm.trans (jm (et (s) (et (congrArg (fun q=>iI a q b) y) (ip t))))
 exact⟨rfl,W,e6⟩
 refine jF (dF t) (IE (bN (Ig (Ib (fw (vJ (b+1)) (Ie (e:=C5.wrap (((b:Nat):Int)+1)) yk f0) (Mz rfl (C6 ?_)))))))
 have X:=o.pf []
 exact Ir (b+1) ⟨rfl,rfl,rfl,rfl,rfl,trivial⟩ (r.2 ⟨X,e6,et (s) (et (congrArg (fun q=>iI a q b) y) (iN t))⟩) (by show l0.length - (b+1) < l0.length - b; omega)
 refine jF (dF O) (C7 (Il ?_))
 have P:iI a l0 0=Sum.inl ():=et (s) (et (congrArg (fun q=>iI a q b) (fB (ls:=l0) (i:=b) e6)) rfl)
 refine Il (IB (Ig (sr (An rfl (rt (rs ?_))))))
 have Y:=o.pf []
 obtain rfl:_=(-1):=hr.symm.trans (nT P)
 exact⟨rfl,Y,e6⟩
def iF (l0:List Int) (a:bL):Nat→Int→Int→List Int→Int × (List Int)
  | 0,b,c,d=>default
  | f+1,b,c,d=>if c < ((l0.length:Nat):Int) then bnd (C0 d (D0 c) default) fun e=>if e=a.aJ then iF l0 a f b (c+1) d else iF l0 a f (b+1) (c+1) (u2 d (D0 b) e) else(b,d)
def iP (l0:List Int) (b:bL):(List Int):=
 bnd (nL l0 b) fun a=>if a=(-1) then l0 else bnd (iF l0 b ((D0 (((l0.length:Nat):Int) - (a+1)))+1) a (a+1) l0) fun sLrbfL=>(q7 (D0 sLrbfL.1) sLrbfL.2)
theorem rP (w D u n0 G l0 p) (a:bL) (h d j f s l g X) (H:Own w D w [row u n0 G (q3 (eI .i64) l0) 3 1,blk p (iH a h d j f l g) 42]) (aC:n0=l0.length) (bz:l0.length *8≤211106232532992) (J:Ro w D fun w'=>bE w' 6 h a.aH.ls.length (q3 bi.cells a.aH.ls)) (Y:a.aH.ls.length≤d∧a.aH.ls.length≤9223372036854775807) (z:s5 ae.abs s=a.ai.ls) (K:Ro w D fun w'=>bE w' 3 j a.ai.ls.length (q3 ae.cells s)) (Z:a.ai.ls.length≤f∧a.ai.ls.length≤9223372036854775807) (B:∀ x ∈ s,Ro w D (fun w'=>bE w' 2 x.ak.A x.ak.ls.length (q3 aI.cells x.ak.ls))∧(x.ak.ls.length≤x.ak.c∧x.ak.ls.length≤9223372036854775807)) (L:Ro w D fun w'=>bE w' 2 l a.ag.ls.length (q3 aY.cells a.ag.ls)) (aa:a.ag.ls.length≤g∧a.ag.ls.length≤9223372036854775807) (bA:l0.length≤1000000) (hr:iP l0 a=X):
    Calls v8 96 #[.slice u n0 G, .func (.func 97) #[] #[vP p 0]] w (d9 fun v w'=> ∃ B0 b0,v= .slice B0 X.length b0∧Own w D w' [row B0 X.length b0 (q3 (eI .i64) X) 3 1,blk p (iH a h d j f l g) 42]∧(X.length≤l0.length)):=by
 subst aC
 have W:=aB z
 have bB:=H.rowC (i:=0) rfl
 refine cb Tryz.func96 ?_
 refine sr (Ar rfl (Mz rfl (Mz rfl ?_)))
 have aD:=H.pb [0]
 obtain⟨n,M⟩:∃ q,nL l0 a=q:=⟨_,rfl⟩
 obtain⟨bC,af,E,ag,ai⟩:=II aD
 refine cl Tryz.call134 (su _ _ u l0.length G l0 p a h d j f s l g n af (ai _ 0 _ rfl aO) rfl e6 (E _ J) (show a.aH.ls.length≤d∧a.aH.ls.length≤9223372036854775807 from by omega) z (E _ K) (show a.ai.ls.length≤f∧a.ai.ls.length≤9223372036854775807 from by omega) (fun x9 h9=>⟨E _ (B x9 h9).1,(B x9 h9).2⟩) (E _ L) (show a.ag.ls.length≤g∧a.ag.ls.length≤9223372036854775807 from by omega) M) ?_
 rintro _ bD ⟨rfl,aj,U⟩
 have ak:=ag _ _ aj
 replace U: -1≤n∧n < ((l0.length:Nat):Int):=U
 refine An rfl (Ic (sr (Mz rfl (Kz (.bool (decide (n=(-1)))) (nt ?_)))))
 by_cases S:n=(-1)
 refine jT (dT S) (sr (Mz rfl (An rfl (rt (tR (rs ?_))))))
 have aF:=ak.pb [0]
 obtain rfl:_=l0:=hr.symm.trans (et (ah M) (ip S))
 exact⟨u,G,rfl,aF,j7⟩
 refine jF (dF S) (sk (Ic (sr (Mz rfl (fw (vI (n+1)) (Ie (e:=C5.wrap (n+1)) yk g2) (An rfl (bo ?_)))))))
 have aG:=ak.pf []
 obtain⟨aH,F⟩:=sQ fun (b:Int) (m:Int) r (N:Nat) w'=>Own w D w' [blk p (iH a h d j f l g) 42,row u l0.length G (q3 (eI .i64) r) 3 1]∧r.length=l0.length∧(0≤b∧b≤m∧m≤((l0.length:Nat):Int))∧D0 (((l0.length:Nat):Int) - m) < N∧iF l0 a ((D0 (((l0.length:Nat):Int) - (n+1)))+1) n (n+1) l0=iF l0 a N b m r
 refine C3 (fun i:Int × Int × (List Int) × Nat=> [(5,vI i.1),(6,vI i.2.1),(4, .slice none 0 0),(0, .slice u l0.length G),(1, .func (.func 97) #[] #[vP p 0])]) aH (fun i=>i.2.2.2) (n,n+1,l0,(D0 (((l0.length:Nat):Int) - (n+1)))+1) ⟨rfl,rfl,rfl,rfl,rfl,trivial⟩ (F.2 ⟨aG,by first | omega | (simp only [H1] <;> omega) | (simp only [H2]),e6,e6,rfl⟩) ?_
 rintro ⟨b,m,r,N⟩ bF au
 obtain⟨t,aZ,bf,bg,O⟩:=F.1 au
 obtain⟨I,av⟩:∃ q,N=q+1:=⟨N - 1,e6⟩
 subst av
 refine Ic (sr (Mz rfl (Mz rfl (Kz (vJ l0.length) (Kz (.bool (decide (m < ((l0.length:Nat):Int)))) (nt ?_))))))
 by_cases P:m < ((l0.length:Nat):Int)
 refine jT (dT P) (sk (Ic (bo (sr (Mz rfl (fw (vJ (D0 m)) (Ie (e:=m) (Iq rfl) e6) ?_))))))
 obtain⟨C,Q⟩:=dN (ls:=r) (i:=D0 m) jd f4 (t.rds (i:=1) rfl) e9
 refine fw (.pointer (some ⟨ab u,ao u+(D0 m) *1,none⟩)) (Ij (om) rfl rfl ((t.rds (i:=1) rfl).addr (i:=D0 m) e6) e6) (fw (vI C) (Io rfl (bZ.one C4 (((t.rds (i:=1) rfl).elem jd Q f4).at_ (k:=0) rfl))) (Ar rfl (Mz rfl (Mz rfl ?_))))
 refine WL.do rfl (IK Tryz.call97 rfl rfl ?_ (fun _ _ k=>k))
 refine cb Tryz.func97 ?_
 refine sr (Ar rfl (Mz rfl (Kz (vP p 1) (Lz (vI a.aJ) t 0 C4 (Kz (.bool (decide (C=a.aJ))) (An rfl (rt (rs (fw (.bool (decide (¬ (C=a.aJ)))) (IG (e:= !(decide (C=a.aJ))) yk decide_not.symm) (nt ?_))))))))))
 by_cases T:C=a.aJ
 refine jF (dF (Lh T)) (IE (bN (Ig (Ib (Mz rfl (fw (vI (m+1)) (Ie (e:=C5.wrap (m+1)) yk g2) (Az rfl (C6 ?_))))))))
 have aJ:=t.pf []
 exact Ir (b,m+1,r,I) ⟨rfl,rfl,rfl,rfl,rfl,trivial⟩ (F.2 ⟨aJ,by first | omega | (simp only [H1] <;> omega) | (simp only [H2]),e6,e6,Eq.trans (O) (Eq.trans (if_pos P) (Eq.trans (ah (bJ Q)) (if_pos T)))⟩) (by show I < I+1; omega)
 refine jT (dT T) (sr (Mz rfl (fw (vJ (D0 b)) (Ie (e:=b) (Iq rfl) e6) (Mz rfl ?_))))
 obtain⟨bG,V⟩:=dN (ls:=r) (i:=D0 b) jd f4 (t.rds (i:=1) rfl) e9
 refine fw (.pointer (some ⟨ab u,ao u+(D0 b) *1,none⟩)) (Ij (om) rfl rfl ((t.rds (i:=1) rfl).addr (i:=D0 b) e6) e6) ?_
 have aK:=t.pb [0]
 refine Jb (Do.storeRow (vs:= [vI C]) (o:=(D0 b) *1+0) (q:=ao u+(D0 b) *1) aK rfl e6 rfl Tryz.sizeOf3 rfl rfl (Le rfl) (je jd V (Le rfl)) (jV (y:=C) jd rfl (Le rfl) V) ?_)
 intro bH aL
 refine nt (Ib (Mz rfl (fw (vI (b+1)) (Ie (e:=C5.wrap (b+1)) yk g2) (Az rfl (C6 (bN (Ig (Ib (Mz rfl (fw (vI (m+1)) (Ie (e:=C5.wrap (m+1)) yk g2) (Az rfl (C6 ?_))))))))))))
 have aM:=aL.pb [0]
 exact Ir (b+1,m+1,(u2 r (D0 b) C),I) ⟨rfl,rfl,rfl,rfl,rfl,trivial⟩ (F.2 ⟨aM,by first | omega | (simp only [H1] <;> omega) | (simp only [H2]),e6,e6,Eq.trans (O) (Eq.trans (if_pos P) (Eq.trans (ah (bJ Q)) (if_neg T)))⟩) (by show I < I+1; omega)
 refine jF (dF P) (C7 (Il ?_))
 have ax:iF l0 a ((D0 (((l0.length:Nat):Int) - (n+1)))+1) n (n+1) l0=(b,r):=et (O) (iN P)
 refine Il (IB (Ig (sr (Mz rfl (fw (vJ (D0 b)) (Ie (e:=b) (Iq rfl) e6) (fw (.slice (jS u (D0 b) 1 G) (l0.length - (D0 b)) (G - (D0 b))) (IV (om) rfl rfl e6) ?_))))))
 have aN:=t.pb [0]
 obtain⟨bn,aP,ay⟩:=aN.rowFull
 refine Jb (JK (z0:=(vI 0)) (lo:=D0 b) (nd:=(l0.length - (D0 b))) e7 rfl (om) ay rfl (fun _=>lq ((ay.rds (i:=0) rfl).isSome e6) e6) e6 ?_)
 intro az bq bu aQ
 refine ns (Mz rfl (fw (vJ (D0 b)) (Ie (e:=b) (Iq rfl) e6) (fw (.slice u (D0 b) G) (Jc (om) rfl rfl e6) (An rfl (rt (rs ?_))))))
 have aR:Own w D az [row u (D0 b) G (q3 (eI .i64) (q7 (D0 b) r)) 3 1,blk p (iH a h d j f l g) 42]:=aQ.rowPart e6 (Ea jd e6)
 have bv:r8 (q7 (D0 b) r)=D0 b:=by rw [m9]; omega
 have R:D0 b=r8 (q7 (D0 b) r):=by first | omega | (simp only [H1]; done) | (simp only [H1,o1,s0,F2,m9,o0,H2]; omega)
 have aS:Own w D az [row u (r8 (q7 (D0 b) r)) G (q3 (eI .i64) (q7 (D0 b) r)) 3 1,blk p (iH a h d j f l g) 42]:=by rw [← R]; exact aR
 have aT:=aS.pf []
 obtain rfl:_=(q7 (D0 b) r):=hr.symm.trans (et (ah M) (et (iN S) (ah ax)))
 exact⟨u,G,(by first | rfl | (rw [← R]; done) | (rw [← R]; rfl)),aT,j7⟩
def mf (f:bI) (g:bL) (a:aA):bI × aA:=
 bnd (bM a.aa.aj.ls g.aN) fun c=>if c.2=true then bnd (C0 a.aa.aj.ls (D0 c.1) default) fun b=>bnd (iP b.au.ls g) fun d=>bnd (C0 (u2 a.aa.aj.ls (D0 c.1) (bH.mk b.aN b.aK b.av b.aP (E2 d))) (D0 c.1) default) fun e=>if((e.au.ls.length:Nat):Int)=0 then(f,aA.mk (cZ.mk a.aa.au a.aa.av a.aa.aV a.aa.aL (E2 a.aa.ag.ls) (E2 (q7 (D0 c.1) (u2 a.aa.aj.ls (D0 c.1) (bH.mk b.aN b.aK b.av b.aP (E2 d)))++r3 ((D0 c.1)+1) (u2 a.aa.aj.ls (D0 c.1) (bH.mk b.aN b.aK b.av b.aP (E2 d))))) (E2 a.aa.aF.ls)) a.bP (E2 a.ay.ls) a.bK a.bA a.bz a.bv a.bq a.dP a.dH a.dI a.dG a.dJ) else(f,aA.mk (cZ.mk a.aa.au a.aa.av a.aa.aV a.aa.aL (E2 a.aa.ag.ls) (E2 (u2 a.aa.aj.ls (D0 c.1) (bH.mk b.aN b.aK b.av b.aP (E2 d)))) (E2 a.aa.aF.ls)) a.bP (E2 a.ay.ls) a.bK a.bA a.bz a.bv a.bq a.dP a.dH a.dI a.dG a.dJ) else(f,a)
set_option maxHeartbeats 4000000 in
theorem xh (w D g0) (p0:bI) (u z t) (p:bL) (au aX Y av bg Z ay az bn aa l) (a:aA) (C E g n h F G I J K L M N O P Q R S T) (r0:bI) (B:aA) (H:Own w D w [blk g0 [.pointer (some ⟨l,0,none⟩), .slice u p0.aX.ls.length z] 98,row u p0.aX.ls.length z (q3 bf.cells t) 42 21,sepL (q3 bf.own t),mK l a C a.aa.ag.ls.length E g n F G I J K L M N O P Q R S T,row g a.aa.aj.ls.length n (q3 aC.cells h) 60 5,sepL (q3 aC.own h)]) (W:s5 bf.abs t=p0.aX.ls) (bB:aX=p.aH.ls.length) (bC:Ro w D fun w'=>bE w' 6 au p.aH.ls.length (q3 bi.cells p.aH.ls)) (dD:p.aH.ls.length≤Y∧p.aH.ls.length≤9223372036854775807) (aK:s5 ae.abs ay=p.ai.ls) (bD:bg=p.ai.ls.length) (bF:Ro w D fun w'=>bE w' 3 av p.ai.ls.length (q3 ae.cells ay)) (dE:p.ai.ls.length≤Z∧p.ai.ls.length≤9223372036854775807) (aL:∀ x ∈ ay,Ro w D (fun w'=>bE w' 2 x.ak.A x.ak.ls.length (q3 aI.cells x.ak.ls))∧(x.ak.ls.length≤x.ak.c∧x.ak.ls.length≤9223372036854775807)) (bG:bn=p.ag.ls.length) (bK:Ro w D fun w'=>bE w' 2 az p.ag.ls.length (q3 aY.cells p.ag.ls)) (dG:p.ag.ls.length≤aa∧p.ag.ls.length≤9223372036854775807) (m:s5 aC.abs h=a.aa.aj.ls) (eZ:a.aa.ag.ls.length≤1000∧a.aa.aj.ls.length≤1000∧a.aa.aF.ls.length≤1000∧a.ay.ls.length≤1000∧p0.aX.ls.length≤100000) (fe:Dk a.aa.aj.ls) (hr:mf p0 p a=(r0,B)):
    Calls v8 58 #[vP g0 0, .agg (gU p.aD p.aJ p.fI p.aK p.dz p.eH p.aP p.av p.aN p.dY p.aV p.aL p.dL p.cu p.xN p.cz p.bU.bF p.bU.bT au aX Y av bg Z az bn aa).toArray] w (d9 fun v w'=> ∃ aM aN ai aP aQ aj,v= .tuple #[]∧Own w D w' [blk g0 [vP l 0, .slice aM r0.aX.ls.length aN] 98,row aM r0.aX.ls.length aN (q3 bf.cells ai) 42 21,sepL (q3 bf.own ai),blk l [vI B.aa.au,vU B.aa.av,vU B.aa.aV,vU B.aa.aL, .slice C a.aa.ag.ls.length E, .slice aP B.aa.aj.ls.length aQ, .slice F a.aa.aF.ls.length G,vU B.bP, .slice I a.ay.ls.length J, .bool B.bK.cO,vU B.bK.aS,vI B.bK.dA, .slice K a.bK.af.ls.length L, .bool B.bA.cO,vU B.bA.aS,vI B.bA.dA, .slice M a.bA.af.ls.length N, .bool B.bz.cO,vU B.bz.aS,vI B.bz.dA, .slice O a.bz.af.ls.length P, .bool B.bv.cO,vU B.bv.aS,vI B.bv.dA, .slice Q a.bv.af.ls.length R, .bool B.bq.cO,vU B.bq.aS,vI B.bq.dA, .slice S a.bq.af.ls.length T,vU B.dP,vU B.dH,vU B.dI,vU B.dG,vU B.dJ, .pointer none] 86,row aP B.aa.aj.ls.length aQ (q3 aC.cells aj) 60 5,sepL (q3 aC.own aj)]∧(s5 bf.abs ai=r0.aX.ls)∧(s5 aC.abs aj=B.aa.aj.ls)):=by
 subst bB bD bG
 have dB:=aB W
 have dC:=aB aK
 have bP:=aB m
 have dH:=H.rowC (i:=1) rfl
 have bQ:=H.rowC (i:=4) rfl
 refine cb Tryz.func58 ?_
 refine sr ?_
 refine dV (iH p au Y av Z az aa) 42 H ?_
 intro bN fo dI
 refine nt (Ic ?_)
 refine vX [] (Iu IC) dI ?_
 intro fq bO
 refine qv 0 rfl rfl (qp g0 0 1 rfl (qp g0 0 2 rfl (ql 3 rfl 1 P3 rfl rfl rfl (qp bN 8 4 rfl (ql 5 rfl 0 D4 rfl rfl rfl ?_)))))
 refine GX.do 6 rfl e7 (Iz Tryz.call95 rfl ?_ (fun _ _ k=>k))
 refine cb Tryz.func95 ?_
 refine sr (Az rfl (Ar rfl (Mz rfl (Kz (vP l 0) (Kz (vP l 0) (Kz (vP l 5) (Lz (.slice g a.aa.aj.ls.length n) bO 4 D2 (Mz rfl ?_))))))))
 obtain⟨⟨d,af⟩,aD⟩:∃ q:Int × Bool,bM a.aa.aj.ls p.aN=q:=⟨_,rfl⟩
 obtain⟨fu,bR,ek,bS,bq⟩:=Ii bO
 refine cl Tryz.call132 (iJ _ _ g a.aa.aj.ls.length n h a.aa.aj.ls p.aN d af bR m (bq _ 5 _ rfl aO) (fun x9 h9=>⟨bq _ 6 _ rfl (ax (Q3.2 ⟨x9,h9,b1⟩) aO),aZ (φ:=fun _=>_) bO (i:=6) rfl (ax (Q3.2 ⟨x9,h9,b1⟩) aW)⟩) rfl e6 aD) ?_
 rintro _ dJ ⟨rfl,bV,bu,bv⟩
 have X:=bS _ _ bV
 replace bu:0≤d∧d≤((a.aa.aj.ls.length:Nat):Int):=bu
 replace bv:Bool.toNat af=0∨d < ((a.aa.aj.ls.length:Nat):Int):=bv
 refine Kz (vI d) (Kz (.bool af) (Az rfl (An rfl (rt (Fin.res (lW rfl rfl rfl) ?_)))))
 refine⟨.inr ⟨_,X⟩, ?_⟩
 refine qv 7 rfl rfl (qk (vI d) 8 rfl (qk (.bool af) 9 rfl (qa 10 rfl rfl (qa 11 rfl rfl (qn (Ig (Ic (sr (Mz rfl (Kz (.bool (!af)) (nt ?_)))))))))))
 rcases Li (af) with ag | ag
 have h39t:Bool.toNat af=1:=by rw [ag]; rfl
 refine jF (cn ag) (sk (sr (Mz rfl (Kz (vP g0 0) (Kz (vP g0 0) (Lz (vP l 0) X 1 P3 (Kz (vP l 0) (Kz (vP l 0) (Kz (vP l 5) (Lz (.slice g a.aa.aj.ls.length n) X 4 D2 (fw (vJ (D0 d)) (Ie (e:=d) (Iq rfl) e6) ?_)))))))))))
 obtain⟨b,U⟩:=dN (ls:=h) (i:=D0 d) aC.len f4 (X.rds (i:=5) rfl) e9
 have aR:=fF m U
 have eu:b.au.ls.length≤b.au.c∧b.au.ls.length≤9223372036854775807:=aZ X (i:=6) rfl (φ:=fun _=>_) (ax (Q3.2 ⟨b,D3 U,b1⟩) aW)
 have eB:b.au.ls.length≤1000:=ED f5 aR
 refine fw (.pointer (some ⟨ab g,ao g+(D0 d) *5,none⟩)) (Ij (kW) rfl rfl ((X.rds (i:=5) rfl).addr (i:=D0 d) e6) e6) (Ar rfl (Mz rfl (Mz rfl (Kz (.pointer (some ⟨ab g,ao g+(D0 d) *5,none⟩)) (Kz (.pointer (some ⟨ab g,ao g+(D0 d) *5+4,none⟩)) (fw (.slice b.au.A b.au.ls.length b.au.c) (Io rfl (bZ.one Tryz.isAgg58 (((X.rds (i:=5) rfl).elem aC.len U f4).at_ (k:=4) rfl))) (Kz (.func (.func 97) #[] #[vP bN 0]) ?_)))))))
 have dK:=X.pf [6]
 have bW:Own w D dJ (row b.au.A b.au.ls.length b.au.c (q3 (eI .i64) b.au.ls) 3 1::sepL (q3 aC.own (q7 (D0 d) h)++q3 aC.own (r3 (D0 d+1) h))::_):=Jd (f:=aC.own) (i:=D0 d) U dK
 have eD:=bW.rowC (i:=0) rfl
 have dL:=bW.pf [0,2]
 obtain⟨j,aS⟩:∃ q,iP b.au.ls p=q:=⟨_,rfl⟩
 obtain⟨fA,bX,aF,bY,eF⟩:=IJ dL
 refine cl Tryz.call96 (rP _ _ b.au.A b.au.ls.length b.au.c b.au.ls bN p au Y av Z ay az aa j bX rfl e6 (aF _ bC) (show p.aH.ls.length≤Y∧p.aH.ls.length≤9223372036854775807 from by omega) aK (aF _ bF) (show p.ai.ls.length≤Z∧p.ai.ls.length≤9223372036854775807 from by omega) (fun x9 h9=>⟨aF _ (aL x9 h9).1,(aL x9 h9).2⟩) (aF _ bK) (show p.ag.ls.length≤aa∧p.ag.ls.length≤9223372036854775807 from by omega) e6 aS) ?_
 rintro _ dM ⟨r,s,rfl,cu,bz⟩
 have cz:=bY _ _ cu
 have eG:=cz.rowC (i:=0) rfl
 replace bz:j.length≤b.au.ls.length:=bz
 refine Kz (.pointer (some ⟨ab g,ao g+(D0 d) *5,none⟩)) (Kz (.pointer (some ⟨ab g,ao g+(D0 d) *5+4,none⟩)) ?_)
 have dO:=cz.pf [0,2]
 have dP:Own w D dM (sepL (q3 aC.own (u2 h (D0 d) (aC.mk b.aN b.aK b.av b.aP (H0 r s j))))::_):=I7 (f:=aC.own) (y:=(aC.mk b.aN b.aK b.av b.aP (H0 r s j))) U dO
 have dQ:=dP.pf [6]
 refine Jb (Do.storeRow (vs:= [.slice r j.length s]) (o:=(D0 d) *5+4) (q:=ao g+(D0 d) *5+4) dQ rfl e6 rfl Tryz.sizeOf58 rfl rfl (Le rfl) (je aC.len U (Le rfl)) (jV (y:=(aC.mk b.aN b.aK b.av b.aP (H0 r s j))) aC.len rfl (Le rfl) U) ?_)
 intro cB dR
 have eH:r8 (u2 h (D0 d) (aC.mk b.aN b.aK b.av b.aP (H0 r s j)))=r8 (u2 a.aa.aj.ls (D0 d) (bH.mk b.aN b.aK b.av b.aP (E2 j))):=aB (iW m rfl)
 have eO:r8 (u2 a.aa.aj.ls (D0 d) (bH.mk b.aN b.aK b.av b.aP (E2 j)))=a.aa.aj.ls.length:=H1
 refine nt (Ic ?_)
 have aT:=dR.px [] [2] []
 refine Ib (Mz rfl (Kz (.pointer (some ⟨ab g,ao g+(D0 d) *5,none⟩)) (Kz (.pointer (some ⟨ab g,ao g+(D0 d) *5+4,none⟩)) ?_)))
 obtain⟨V,aG⟩:=dN (ls:=(u2 h (D0 d) (aC.mk b.aN b.aK b.av b.aP (H0 r s j)))) (i:=D0 d) aC.len f4 (aT.rds (i:=0) rfl) e9
 have bA:=fF (iW m rfl) aG
 have eP:V.au.ls.length≤V.au.c∧V.au.ls.length≤9223372036854775807:=aZ aT (i:=1) rfl (φ:=fun _=>_) (ax (Q3.2 ⟨V,D3 aG,b1⟩) aW)
 refine fw (.slice V.au.A V.au.ls.length V.au.c) (Io rfl (bZ.one Tryz.isAgg58 (((aT.rds (i:=0) rfl).elem aC.len aG f4).at_ (k:=4) rfl))) (Kz (vJ V.au.ls.length) (Kz (.bool (decide (((V.au.ls.length:Nat):Int)=0))) (nt ?_)))
 by_cases aV:((V.au.ls.length:Nat):Int)=0
 refine jT (dT aV) ?_
 have aU:a.aa.aj.ls.length=r8 (u2 a.aa.aj.ls (D0 d) (bH.mk b.aN b.aK b.av b.aP (E2 j))):=by first | omega | (simp only [H1]; done) | (simp only [H1,o1,s0,F2,m9,o0,H2]; omega)
 have dS:Own w D cB [row g (r8 (u2 a.aa.aj.ls (D0 d) (bH.mk b.aN b.aK b.av b.aP (E2 j)))) n (q3 aC.cells (u2 h (D0 d) (aC.mk b.aN b.aK b.av b.aP (H0 r s j)))) 60 5,sepL (q3 aC.own (u2 h (D0 d) (aC.mk b.aN b.aK b.av b.aP (H0 r s j)))),blk g0 [vP l 0, .slice u p0.aX.ls.length z] 98,row u p0.aX.ls.length z (q3 bf.cells t) 42 21,sepL (q3 bf.own t),blk l [vI a.aa.au,vU a.aa.av,vU a.aa.aV,vU a.aa.aL, .slice C a.aa.ag.ls.length E, .slice g (r8 (u2 a.aa.aj.ls (D0 d) (bH.mk b.aN b.aK b.av b.aP (E2 j)))) n, .slice F a.aa.aF.ls.length G,vU a.bP, .slice I a.ay.ls.length J, .bool a.bK.cO,vU a.bK.aS,vI a.bK.dA, .slice K a.bK.af.ls.length L, .bool a.bA.cO,vU a.bA.aS,vI a.bA.dA, .slice M a.bA.af.ls.length N, .bool a.bz.cO,vU a.bz.aS,vI a.bz.dA, .slice O a.bz.af.ls.length P, .bool a.bv.cO,vU a.bv.aS,vI a.bv.dA, .slice Q a.bv.af.ls.length R, .bool a.bq.cO,vU a.bq.aS,vI a.bq.dA, .slice S a.bq.af.ls.length T,vU a.dP,vU a.dH,vU a.dI,vU a.dG,vU a.dJ, .pointer none] 86]:=by rw [← aU]; exact aT
 have dU:=dS.pf [2,5]
 refine qy [19] IC dU ?_
 intro fB dW
 refine qv 0 rfl rfl (qp g0 0 1 rfl (qp g0 0 2 rfl (ql 3 rfl 0 P3 rfl rfl rfl (qv 4 rfl rfl (qp g0 0 5 rfl (qp g0 0 6 rfl (ql 7 rfl 0 P3 rfl rfl rfl (qp l 0 8 rfl (qp l 0 9 rfl (qp l 5 10 rfl (ql 11 rfl 1 D2 rfl rfl rfl (qv 12 rfl rfl (qv 13 rfl rfl (qt (v:=vI (d+1)) 14 rfl (fun _ _=>Ie (e:=C5.wrap (d+1)) yk g2) ?_))))))))))))))
 have dX:=dW.pf [2,3]
 obtain⟨fC,cK,eQ,cO,eT⟩:=IJ dX
 refine qd 15 rfl (Iz Tryz.call98 rfl (wh _ _ g (r8 (u2 a.aa.aj.ls (D0 d) (bH.mk b.aN b.aK b.av b.aP (E2 j)))) n (u2 h (D0 d) (aC.mk b.aN b.aK b.av b.aP (H0 r s j))) (u2 a.aa.aj.ls (D0 d) (bH.mk b.aN b.aK b.av b.aP (E2 j))) d (d+1) (D0 d) V cK e6 (iW m rfl) e6 e6 e6 aG) ?_)
 rintro _ fD ⟨df,dh,rfl,di⟩
 have dm:=cO _ _ di
 have eU:r8 (q7 (D0 d) (u2 h (D0 d) (aC.mk b.aN b.aK b.av b.aP (H0 r s j)))++r3 ((D0 d)+1) (u2 h (D0 d) (aC.mk b.aN b.aK b.av b.aP (H0 r s j))))=r8 (q7 (D0 d) (u2 a.aa.aj.ls (D0 d) (bH.mk b.aN b.aK b.av b.aP (E2 j)))++r3 ((D0 d)+1) (u2 a.aa.aj.ls (D0 d) (bH.mk b.aN b.aK b.av b.aP (E2 j)))):=by exact aB (qc (iW m rfl))
 have eX:r8 (q7 (D0 d) (u2 a.aa.aj.ls (D0 d) (bH.mk b.aN b.aK b.av b.aP (E2 j)))++r3 ((D0 d)+1) (u2 a.aa.aj.ls (D0 d) (bH.mk b.aN b.aK b.av b.aP (E2 j))))+1=r8 (u2 a.aa.aj.ls (D0 d) (bH.mk b.aN b.aK b.av b.aP (E2 j))):=by simp only [o1,m9,o0]; omega
 have eY:=dm.rowC (i:=2) rfl
 have dn:=dm.pf [3,4]
 refine⟨.inr ⟨_,dn⟩, ?_⟩
 refine qp l 0 16 rfl (qp l 0 17 rfl (qp l 5 18 rfl ?_))
 have dY:=dn.pf [1]
 refine qe 19 rfl (Do.store (vs:= [.slice df (r8 (q7 (D0 d) (u2 a.aa.aj.ls (D0 d) (bH.mk b.aN b.aK b.av b.aP (E2 j)))++r3 ((D0 d)+1) (u2 a.aa.aj.ls (D0 d) (bH.mk b.aN b.aK b.av b.aP (E2 j))))) dh]) (o:=5) dY rfl rfl Tryz.sizeOf30 rfl rfl rfl rfl ?_)
 intro fE dZ
 refine⟨.inl e7, ?_⟩
 refine qn (IA (res0 rfl) ?_)
 have ed:=dZ.px [] [4] [0,2,3]
 obtain⟨rfl,rfl⟩:=ic (hr.symm.trans (show _=(p0,aA.mk (cZ.mk a.aa.au a.aa.av a.aa.aV a.aa.aL (E2 a.aa.ag.ls) (E2 (q7 (D0 d) (u2 a.aa.aj.ls (D0 d) (bH.mk b.aN b.aK b.av b.aP (E2 j)))++r3 ((D0 d)+1) (u2 a.aa.aj.ls (D0 d) (bH.mk b.aN b.aK b.av b.aP (E2 j))))) (E2 a.aa.aF.ls)) a.bP (E2 a.ay.ls) a.bK a.bA a.bz a.bv a.bq a.dP a.dH a.dI a.dG a.dJ) from et (ah aD) (et (ip ag) (et (ah (bJ aR)) (et (ah aS) (et (ah (bJ bA)) (ip aV)))))))
 exact⟨u,z,t,df,dh,(q7 (D0 d) (u2 h (D0 d) (aC.mk b.aN b.aK b.av b.aP (H0 r s j)))++r3 ((D0 d)+1) (u2 h (D0 d) (aC.mk b.aN b.aK b.av b.aP (H0 r s j)))),(by first | rfl | (rw [← aU]; done) | (rw [← aU]; rfl)),ed,W,(qc (iW m rfl))⟩
 refine jF (dF aV) (IE (IA (res0 rfl) ?_))
 have ak:a.aa.aj.ls.length=r8 (u2 a.aa.aj.ls (D0 d) (bH.mk b.aN b.aK b.av b.aP (E2 j))):=by first | omega | (simp only [H1]; done) | (simp only [H1,o1,s0,F2,m9,o0,H2]; omega)
 have dw:Own w D cB [row g (r8 (u2 a.aa.aj.ls (D0 d) (bH.mk b.aN b.aK b.av b.aP (E2 j)))) n (q3 aC.cells (u2 h (D0 d) (aC.mk b.aN b.aK b.av b.aP (H0 r s j)))) 60 5,sepL (q3 aC.own (u2 h (D0 d) (aC.mk b.aN b.aK b.av b.aP (H0 r s j)))),blk g0 [vP l 0, .slice u p0.aX.ls.length z] 98,row u p0.aX.ls.length z (q3 bf.cells t) 42 21,sepL (q3 bf.own t),blk l [vI a.aa.au,vU a.aa.av,vU a.aa.aV,vU a.aa.aL, .slice C a.aa.ag.ls.length E, .slice g (r8 (u2 a.aa.aj.ls (D0 d) (bH.mk b.aN b.aK b.av b.aP (E2 j)))) n, .slice F a.aa.aF.ls.length G,vU a.bP, .slice I a.ay.ls.length J, .bool a.bK.cO,vU a.bK.aS,vI a.bK.dA, .slice K a.bK.af.ls.length L, .bool a.bA.cO,vU a.bA.aS,vI a.bA.dA, .slice M a.bA.af.ls.length N, .bool a.bz.cO,vU a.bz.aS,vI a.bz.dA, .slice O a.bz.af.ls.length P, .bool a.bv.cO,vU a.bv.aS,vI a.bv.dA, .slice Q a.bv.af.ls.length R, .bool a.bq.cO,vU a.bq.aS,vI a.bq.dA, .slice S a.bq.af.ls.length T,vU a.dP,vU a.dH,vU a.dI,vU a.dG,vU a.dJ, .pointer none] 86]:=by rw [← ak]; exact aT
 have dx:=dw.pb [0,1]
 obtain⟨rfl,rfl⟩:=ic (hr.symm.trans (show _=(p0,aA.mk (cZ.mk a.aa.au a.aa.av a.aa.aV a.aa.aL (E2 a.aa.ag.ls) (E2 (u2 a.aa.aj.ls (D0 d) (bH.mk b.aN b.aK b.av b.aP (E2 j)))) (E2 a.aa.aF.ls)) a.bP (E2 a.ay.ls) a.bK a.bA a.bz a.bv a.bq a.dP a.dH a.dI a.dG a.dJ) from et (ah aD) (et (ip ag) (et (ah (bJ aR)) (et (ah aS) (et (ah (bJ bA)) (iN aV)))))))
 exact⟨u,z,t,g,n,(u2 h (D0 d) (aC.mk b.aN b.aK b.av b.aP (H0 r s j))),(by first | rfl | (rw [← ak]; done) | (rw [← ak]; rfl)),dx,W,(iW m rfl)⟩
 have h39t:Bool.toNat af=0:=by rw [ag]; rfl
 refine jT (cn ag) (rt (tR (Fin.res (res0 rfl) ?_)))
 have dz:=X.px [] [0] []
 obtain⟨rfl,rfl⟩:=ic (hr.symm.trans (show _=(p0,a) from et (ah aD) (gm ag)))
 exact⟨u,z,t,g,n,h,rfl,dz,W,m⟩
def gu:List gF→List Int→(List Int)
  | [],a=>a
  | b::c,a=>gu c (a++ [b.eG])
def jM (a:dK):(List Int):=
 bnd (gu a.aG.ls ([])) fun sLrL=>sLrL
theorem rD (w D L) (a:dK) (j l f g u n o p r B W) (H:Own w D w [blk L (Cz a j l f g n o p r) 107]) (Z:Ro w D fun w'=>bE w' 6 j a.bV.ls.length (q3 bi.cells a.bV.ls)) (aa:a.bV.ls.length≤l∧a.bV.ls.length≤9223372036854775807) (C:s5 bG.abs u=a.aG.ls) (t:Ro w D fun w'=>bE w' 3 f a.aG.ls.length (q3 bG.cells u)) (af:a.aG.ls.length≤g∧a.aG.ls.length≤9223372036854775807) (E:∀ x ∈ u,Ro w D (fun w'=>bE w' 6 x.aH.A x.aH.ls.length (q3 bi.cells x.aH.ls))∧(x.aH.ls.length≤x.aH.c∧x.aH.ls.length≤9223372036854775807)∧Ro w D (fun w'=>bE w' 1 x.aJ.A x.aJ.ls.length (q3 (eI .i64) x.aJ.ls))∧(x.aJ.ls.length≤x.aJ.c∧x.aJ.ls.length≤9223372036854775807)) (ag:Ro w D fun w'=>bE w' 1 n a.bD.ls.length (q3 eL a.bD.ls)) (ai:a.bD.ls.length≤o∧a.bD.ls.length≤9223372036854775807) (M:s5 bO.abs B=a.af.ls) (aj:Ro w D fun w'=>bE w' 1 p a.af.ls.length (q3 (IX (β:=ae)) B)) (ak:a.af.ls.length≤r∧a.af.ls.length≤9223372036854775807) (au:∀ x ∈ B,Ro w D (fun w'=>bE w' 3 x.A x.ls.length (q3 ae.cells x.ls))∧(x.ls.length≤x.c∧x.ls.length≤9223372036854775807)∧(∀ O ∈ x.ls,Ro w D (fun w'=>bE w' 2 O.ak.A O.ak.ls.length (q3 aI.cells O.ak.ls))∧(O.ak.ls.length≤O.ak.c∧O.ak.ls.length≤9223372036854775807))) (aS:a.aG.ls.length≤1000) (hr:jM a=W):
    Calls v8 107 #[vP L 0] w (d9 fun v w'=> ∃ B0 b0,v= .slice B0 W.length b0∧Own w D w' [row B0 W.length b0 (q3 (eI .i64) W) 3 1,blk L (Cz a j l f g n o p r) 107]):=by
 have X:=aB C
 have Y:=aB M
 refine cb Tryz.func107 ?_
 refine sr (Ar rfl (An rfl (Ic (sr (Mz rfl (Kz (vP L 0) (Kz (vP L 5) (Lz (.slice f a.aG.ls.length g) H 0 Tryz.isAgg103 (Kz (vJ a.aG.ls.length) (Mn rfl (bo ?_)))))))))))
 have av:Own w D w [row none 0 0 (q3 (eI .i64) ([])) 3 1,blk L (Cz a j l f g n o p r) 107]:=H.free (eZ 3 1)
 have ax:=av.pb [0]
 obtain⟨ay,F⟩:=sQ fun I (J:Nat) d (b:Nat) w'=>Own w D w' [blk L (Cz a j l f g n o p r) 107,row I d.length J (q3 (eI .i64) d) 3 1]∧b≤a.aG.ls.length∧d.length=b∧d.length≤b∧gu a.aG.ls ([])=gu (r3 b a.aG.ls) d
 refine C3 (fun i:(Option Addr) × Nat × (List Int) × Nat=> [(3, .slice i.1 i.2.2.1.length i.2.1),(11,vJ i.2.2.2),(10,vJ a.aG.ls.length),(9, .slice f a.aG.ls.length g),(2, .slice none 0 0)]) ay (fun i=>a.aG.ls.length - i.2.2.2) (none,0, [],0) ⟨rfl,rfl,rfl,rfl,rfl,trivial⟩ (F.2 ⟨ax,(show 0≤a.aG.ls.length∧0=0∧0≤0∧gu a.aG.ls ([])=gu (r3 0 a.aG.ls) ([]) from ⟨e6,e6,e6,rfl⟩)⟩) ?_
 rintro ⟨I,J,d,b⟩ aT P
 obtain⟨G,aM,aN,aO,K⟩:=F.1 P
 refine sr (Kz (.bool (decide (((b:Nat):Int) < ((a.aG.ls.length:Nat):Int)))) (nt (Ic ?_)))
 by_cases Q:((b:Nat):Int) < ((a.aG.ls.length:Nat):Int)
 obtain⟨h,z⟩:=dN (ls:=u) (i:=b) bG.len f4 (G.ro t) e9
 have R:=fF C z
 have aP:=(E _ (D3 z)).2.1
 have aQ:=(E _ (D3 z)).2.2.2
 have S:=drop_at R
 refine jT (dT Q) (sk (Ic (bo (sr (fw (.pointer (some ⟨ab f,ao f+b *3,none⟩)) (Ij (um) rfl rfl ((G.ro t).addr (i:=b) e6) e6) (fw (.agg (bG.cells h).toArray) (Io rfl (Iy (cs:=(bG.cells h)) Tryz.isAgg172 Tryz.sizeOf172 ((G.ro t).elem bG.len z f4))) ?_))))))
 refine dV [vI 0, .slice none 0 0, .slice none 0 0] 172 G ?_
 intro az aU aA
 refine dS (bG.cells h) 0 aA Tryz.sizeOf172 ?_
 intro aV T
 refine nt (Ib (Mz rfl (Kz (vP az 0) (Lz (vI h.eG) T 0 C4 ?_))))
 refine lg [vI h.eG] 3 1 1 T ?_
 intro aC aW N
 replace N:=IL (y:=row aC 1 1 (q3 (eI .i64) ([h.eG])) 3 1) rfl N
 have U:=N.pf [3]
 refine WL.do rfl (IM (k:=d.length) (m:=1) (om) U rfl rfl (jv Tryz.underlying58 (U.rds (i:=1) rfl) (fU vO ([h.eG]))) rfl e6 (s:=r8 (d++ [h.eG])) f7 (List.flatMap_append).symm ?_)
 intro aD aF aX aG
 have aR:r8 (d++ [h.eG])=d.length+1:=by simp only [o1,s0,F2]
 refine Az rfl (C6 (bN (Ig (Ib (fw (vJ (b+1)) (Ie (e:=C5.wrap (((b:Nat):Int)+1)) yk f0) (Mz rfl (C6 ?_)))))))
 have aH:=aG.pk [3,0]
 exact Ir (aD,aF,(d++ [h.eG]),b+1) ⟨rfl,rfl,rfl,rfl,rfl,trivial⟩ (F.2 ⟨aH,e6,e6,e6,et (K) (et (congrArg (fun q=>gu q d) S) rfl)⟩) (by show a.aG.ls.length - (b+1) < a.aG.ls.length - b; omega)
 refine jF (dF Q) (C7 (Il ?_))
 have V:gu a.aG.ls ([])=d:=et (K) (et (congrArg (fun q=>gu q d) (fB (ls:=a.aG.ls) (i:=b) e6)) rfl)
 refine Il (IB (Ig (sr (Mz rfl (An rfl (rt (rs ?_)))))))
 have aJ:=G.pb [0]
 obtain rfl:_=d:=hr.symm.trans (ah V)
 exact⟨I,J,rfl,aJ⟩
theorem Bb:∀ (l:List gF) (o:List Int),r8 (gu l o)=o.length+l.length
  | [],o=>rfl
  | x::q,o=>by
    simp only [gu]
    rw [Bb q]
    simp only [o1,s0,F2]; omega
theorem yC {x:dK} {r:List Int} (h:jM x=r):r.length=x.aG.ls.length:=by
 rw [← h]; exact(Bb x.aG.ls []).trans (Nat.zero_add _)
def fq (g:bI) (f:Int) (a:aA):bI × aA:=
 bnd (C0 a.ay.ls (D0 f) default) fun c=>bnd (dC g c.aM c.aS 2 ([]) (aA.mk a.aa a.bP (E2 (q7 (D0 f) a.ay.ls++r3 ((D0 f)+1) a.ay.ls)) a.bK a.bA a.bz a.bv a.bq a.dP a.dH a.dI a.dG a.dJ)) fun b=>bnd (jM (dK.mk c.aR c.aM c.aS c.dh (E2 c.bV.ls) (E2 c.aG.ls) (E2 c.bD.ls) (E2 c.af.ls) c.eO)) fun d=>bnd (dZ b.1 c.aR d false) fun e=>(e,aA.mk (cZ.mk b.2.aa.au b.2.aa.av b.2.aa.aV b.2.aa.aL (E2 a.aa.ag.ls) (E2 a.aa.aj.ls) (E2 a.aa.aF.ls)) b.2.bP (E2 (q7 (D0 f) a.ay.ls++r3 ((D0 f)+1) a.ay.ls)) b.2.bK b.2.bA b.2.bz b.2.bv b.2.bq b.2.dP b.2.dH b.2.dI b.2.dG b.2.dJ)
set_option maxHeartbeats 4000000 in
theorem nP (w D g0) (p0:bI) (aF aG aC m g) (a:aA) (z B C E F G k p d I J r K L s M N t O P u Q R x) (r0:bI) (f:aA) (H:Own w D w [blk g0 [.pointer (some ⟨g,0,none⟩), .slice aF p0.aX.ls.length aG] 98,row aF p0.aX.ls.length aG (q3 bf.cells aC) 42 21,sepL (q3 bf.own aC),mK g a z a.aa.ag.ls.length B C E F G k p I J K L M N O P Q R,row k a.ay.ls.length p (q3 bB.cells d) 107 9,sepL (q3 bB.own d),row I a.bK.af.ls.length J (q3 ae.cells r) 149 3,sepL (q3 ae.own r),row K a.bA.af.ls.length L (q3 ae.cells s) 149 3,sepL (q3 ae.own s),row M a.bz.af.ls.length N (q3 ae.cells t) 149 3,sepL (q3 ae.own t),row O a.bv.af.ls.length P (q3 ae.cells u) 149 3,sepL (q3 ae.own u),row Q a.bq.af.ls.length R (q3 ae.cells x) 149 3,sepL (q3 ae.own x)]) (aH:s5 bf.abs aC=p0.aX.ls) (h:s5 bB.abs d=a.ay.ls) (S:s5 ae.abs r=a.bK.af.ls) (T:s5 ae.abs s=a.bA.af.ls) (U:s5 ae.abs t=a.bz.af.ls) (V:s5 ae.abs u=a.bv.af.ls) (W:s5 ae.abs x=a.bq.af.ls) (iU:a.aa.ag.ls.length≤1000∧a.aa.aj.ls.length≤1000∧a.aa.aF.ls.length≤1000∧a.ay.ls.length≤1000∧p0.aX.ls.length≤100000) (iV:Ak a.ay.ls) (iW:0≤m∧m < ((a.ay.ls.length:Nat):Int)) (hr:fq p0 m a=(r0,f)):
    Calls v8 63 #[vP g0 0,vI m] w (d9 fun v w'=> ∃ aI aJ Z aK aL aa aM aN af aP aQ ag aR aS ai aT aU aj aV aX ak,v= .tuple #[]∧Own w D w' [blk g0 [vP g 0, .slice aI r0.aX.ls.length aJ] 98,row aI r0.aX.ls.length aJ (q3 bf.cells Z) 42 21,sepL (q3 bf.own Z),blk g [vI f.aa.au,vU f.aa.av,vU f.aa.aV,vU f.aa.aL, .slice z a.aa.ag.ls.length B, .slice C a.aa.aj.ls.length E, .slice F a.aa.aF.ls.length G,vU f.bP, .slice aK f.ay.ls.length aL, .bool f.bK.cO,vU f.bK.aS,vI f.bK.dA, .slice aM f.bK.af.ls.length aN, .bool f.bA.cO,vU f.bA.aS,vI f.bA.dA, .slice aP f.bA.af.ls.length aQ, .bool f.bz.cO,vU f.bz.aS,vI f.bz.dA, .slice aR f.bz.af.ls.length aS, .bool f.bv.cO,vU f.bv.aS,vI f.bv.dA, .slice aT f.bv.af.ls.length aU, .bool f.bq.cO,vU f.bq.aS,vI f.bq.dA, .slice aV f.bq.af.ls.length aX,vU f.dP,vU f.dH,vU f.dI,vU f.dG,vU f.dJ, .pointer none] 86,row aK f.ay.ls.length aL (q3 bB.cells aa) 107 9,sepL (q3 bB.own aa),row aM f.bK.af.ls.length aN (q3 ae.cells af) 149 3,sepL (q3 ae.own af),row aP f.bA.af.ls.length aQ (q3 ae.cells ag) 149 3,sepL (q3 ae.own ag),row aR f.bz.af.ls.length aS (q3 ae.cells ai) 149 3,sepL (q3 ae.own ai),row aT f.bv.af.ls.length aU (q3 ae.cells aj) 149 3,sepL (q3 ae.own aj),row aV f.bq.af.ls.length aX (q3 ae.cells ak) 149 3,sepL (q3 ae.own ak)]∧(s5 bf.abs Z=r0.aX.ls)∧(s5 bB.abs aa=f.ay.ls)∧(s5 ae.abs af=f.bK.af.ls)∧(s5 ae.abs ag=f.bA.af.ls)∧(s5 ae.abs ai=f.bz.af.ls)∧(s5 ae.abs aj=f.bv.af.ls)∧(s5 ae.abs ak=f.bq.af.ls)):=by
 have fe:=aB aH
 have df:=aB h
 have dh:=aB S
 have di:=aB T
 have dm:=aB U
 have dn:=aB V
 have dw:=aB W
 have fo:=H.rowC (i:=1) rfl
 have dx:=H.rowC (i:=4) rfl
 have dz:=H.rowC (i:=6) rfl
 have dA:=H.rowC (i:=8) rfl
 have dB:=H.rowC (i:=10) rfl
 have dD:=H.rowC (i:=12) rfl
 have dE:=H.rowC (i:=14) rfl
 refine cb Tryz.func63 ?_
 refine sr (Mz rfl (Kz (vP g0 0) (Kz (vP g0 0) (Lz (vP g 0) H 0 P3 (Kz (vP g 0) (Kz (vP g 8) (Lz (.slice k a.ay.ls.length p) H 3 Q1 (fw (vJ (D0 m)) (Ie (e:=m) (Iq rfl) e6) ?_))))))))
 obtain⟨b,y⟩:=dN (ls:=d) (i:=D0 m) bB.len f4 (H.rds (i:=4) rfl) e9
 have bM:=fF h y
 have gY:b.bV.ls.length≤b.bV.c∧b.bV.ls.length≤9223372036854775807:=aZ H (i:=5) rfl (φ:=fun _=>_) (ax (Q3.2 ⟨b,D3 y,b1⟩) aW)
 have gZ:b.aG.ls.length≤b.aG.c∧b.aG.ls.length≤9223372036854775807:=aZ H (i:=5) rfl (φ:=fun _=>_) (ax (Q3.2 ⟨b,D3 y, .tail _ b1⟩) aW)
 have ib:b.bD.ls.length≤b.bD.c∧b.bD.ls.length≤9223372036854775807:=aZ H (i:=5) rfl (φ:=fun _=>_) (ax (Q3.2 ⟨b,D3 y, .tail _ b2⟩) aW)
 have ig:b.af.ls.length≤b.af.c∧b.af.ls.length≤9223372036854775807:=aZ H (i:=5) rfl (φ:=fun _=>_) (ax (Q3.2 ⟨b,D3 y, .tail _ b3⟩) aW)
 have X:Tok (bB.abs b):=yz f8 bM
 have ik:1≤b.aM∧b.aM≤4:=X.uh
 have il:b.bD.ls.length=b.aG.ls.length:=by have q9:=X.yes; simp only [bB.abs,s3] at q9; exact q9
 have iq:b.af.ls.length=b.aG.ls.length:=by have q9:=X.res; simp only [bB.abs,s3] at q9; exact q9
 have iw:b.aG.ls.length≤5:=by have q9:=X.len; simp only [bB.abs,s3] at q9; exact q9
 have iy:b.bV.ls.length≤24:=X.ops.1
 refine fw (.pointer (some ⟨ab k,ao k+(D0 m) *9,none⟩)) (Ij (qh) rfl rfl ((H.rds (i:=4) rfl).addr (i:=D0 m) e6) e6) (fw (.agg (bB.cells b).toArray) (Io rfl (Iy (cs:=(bB.cells b)) P9 Q0 ((H.rds (i:=4) rfl).elem bB.len y f4))) ?_)
 refine dV (rJ 0 0 0 0 none 0 0 none 0 0 none 0 0 none 0 0 0) 107 H ?_
 intro bF iX fu
 refine dS (bB.cells b) 0 fu Q0 ?_
 intro iY fA
 refine nt (Ic ?_)
 have fB:=fA.pf [1,4]
 refine qy [17] (Iu IC) fB ?_
 intro iZ fC
 refine qv 0 rfl rfl (qp g0 0 1 rfl (qp g0 0 2 rfl (ql 3 rfl 0 P3 rfl rfl rfl (qv 4 rfl rfl (qp g0 0 5 rfl (qp g0 0 6 rfl (ql 7 rfl 0 P3 rfl rfl rfl (qp g 0 8 rfl (qp g 8 9 rfl (ql 10 rfl 1 Q1 rfl rfl rfl (qv 11 rfl rfl (qv 12 rfl rfl (qt (v:=vI (m+1)) 13 rfl (fun _ _=>Ie (e:=C5.wrap (m+1)) yk g2) ?_)))))))))))))
 have fD:=fC.pf [5,6]
 obtain⟨ja,dF,iA,dG,iB⟩:=IJ fD
 refine qd 14 rfl (Iz Tryz.call105 rfl (vH _ _ k a.ay.ls.length p d a.ay.ls m (m+1) (D0 m) b dF e6 h e6 e6 e6 y) ?_)
 rintro _ jb ⟨bV,bW,rfl,dH⟩
 have aY:=dG _ _ dH
 have iC:r8 (q7 (D0 m) d++r3 ((D0 m)+1) d)=r8 (q7 (D0 m) a.ay.ls++r3 ((D0 m)+1) a.ay.ls):=by exact aB (qc h)
 have iD:r8 (q7 (D0 m) a.ay.ls++r3 ((D0 m)+1) a.ay.ls)+1=a.ay.ls.length:=by simp only [o1,m9,o0]; omega
 have iE:b.aG.ls.length=r8 (s5 bG.abs b.aG.ls):=by exact(s3 _).symm
 have iF:b.af.ls.length=r8 (s5 bO.abs b.af.ls):=by exact(s3 _).symm
 have iG:=aY.rowC (i:=2) rfl
 have iH:=aY.rowC (i:=3) rfl
 have iI:=aY.rowC (i:=4) rfl
 have iJ:=aY.rowC (i:=5) rfl
 have dI:=aY.pf [8,9]
 refine⟨.inr ⟨_,dI⟩, ?_⟩
 refine qp g 0 15 rfl (qp g 8 16 rfl ?_)
 have fE:=dI.pf [1]
 refine qe 17 rfl (Do.store (vs:= [.slice bV (r8 (q7 (D0 m) a.ay.ls++r3 ((D0 m)+1) a.ay.ls)) bW]) (o:=8) fE rfl rfl Tryz.sizeOf79 rfl rfl rfl rfl ?_)
 intro jc bX
 refine⟨.inl e7, ?_⟩
 refine qn (Ig (sr (Mz rfl (Kz (vP bF 1) (Lz (vI b.aM) bX 10 C4 (Kz (vP bF 2) (Lz (vU b.aS) bX 10 D4 ?_)))))))
 have fG:=bX.px [1,11,12] [] [2,3,4,5,6,7,8,9,10]
 obtain⟨⟨bH,l⟩,bN⟩:∃ q:bI × aA,dC p0 b.aM b.aS 2 ([]) (aA.mk a.aa a.bP (E2 (q7 (D0 m) a.ay.ls++r3 ((D0 m)+1) a.ay.ls)) a.bK a.bA a.bz a.bv a.bq a.dP a.dH a.dI a.dG a.dJ)=q:=⟨_,rfl⟩
 obtain⟨jd,dJ,iK,dL,iL⟩:=Ja fG
 refine cl Tryz.call106 (kr _ _ g0 p0 aF aG aC b.aM b.aS 2 none 0 0 [] ([]) g (aA.mk a.aa a.bP (E2 (q7 (D0 m) a.ay.ls++r3 ((D0 m)+1) a.ay.ls)) a.bK a.bA a.bz a.bv a.bq a.dP a.dH a.dI a.dG a.dJ) z B C E F G bV bW I J r K L s M N t O P u Q R x bH l dJ aH rfl (fun _ _=>bE.nil _ _ _) (fun _ h9=>absurd h9 List.not_mem_nil) rfl i8 g6 S T U V W e8 g3 g3 i2 bN) ?_
 rintro _ je ⟨fH,fI,fJ,fK,fM,fO,fP,fQ,dM,fT,fU,dO,fV,fZ,dP,gm,gp,dQ,rfl,dR,bP,bi,bn,bq,bu,bv,bz⟩
 have au:=dL _ _ dR
 have gq:=aB bP
 have gu:=aB bi
 have gy:=aB bn
 have gz:=aB bq
 have gB:=aB bu
 have gD:=aB bv
 have gF:=au.rowC (i:=1) rfl
 have gG:=au.rowC (i:=4) rfl
 have gH:=au.rowC (i:=6) rfl
 have gI:=au.rowC (i:=8) rfl
 have gJ:=au.rowC (i:=10) rfl
 have gK:=au.rowC (i:=12) rfl
 replace bz:bH.aX.ls.length=p0.aX.ls.length+1:=bz
 refine nt ?_
 have av:b.aG.ls.length=r8 (s5 bG.abs b.aG.ls):=by first | omega | (simp only [H1]; done) | (simp only [H1,o1,s0,F2,m9,o0,H2]; omega)
 have dU:=au.pf [17]
 have dW:=I4 av dU
 have dX:=dW.pf [22]
 have dY:=Jh 5 av dX
 have ed:=dY.pb [1,19,20,21,22,0]
 have ay:b.af.ls.length=r8 (s5 bO.abs b.af.ls):=by first | omega | (simp only [H1]; done) | (simp only [H1,o1,s0,F2,m9,o0,H2]; omega)
 have ek:=ed.pf [19]
 have eu:=I4 ay ek
 have eB:=eu.pf [22]
 have eD:=Jh 7 ay eB
 have eF:=eD.pb [1,21,22,0]
 have eG:=eF.pf [0,3]
 refine qy [4] IC eG ?_
 intro iM eH
 refine qv 0 rfl rfl (qp bF 0 1 rfl ?_)
 have bQ:=eH.pf [0,1,22]
 refine BP bQ (ql 2 rfl 2 D4 rfl rfl rfl ?_)
 have n:=bQ.pf [2]
 have gL:=n.rowC (i:=17) rfl
 have gM:=n.rowC (i:=18) rfl
 have gN:=n.rowC (i:=19) rfl
 have gP:=n.rowC (i:=20) rfl
 obtain⟨Y,az⟩:∃ q,jM (dK.mk b.aR b.aM b.aS b.dh (E2 b.bV.ls) (E2 (s5 bG.abs b.aG.ls)) (E2 b.bD.ls) (E2 (s5 bO.abs b.af.ls)) b.eO)=q:=⟨_,rfl⟩
 obtain⟨iN,bY,gQ,bZ,j⟩:=II n
 refine qd 3 rfl (Iz Tryz.call107 rfl (rD _ _ bF (dK.mk b.aR b.aM b.aS b.dh (E2 b.bV.ls) (E2 (s5 bG.abs b.aG.ls)) (E2 b.bD.ls) (E2 (s5 bO.abs b.af.ls)) b.eO) b.bV.A b.bV.c b.aG.A b.aG.c b.aG.ls b.bD.A b.bD.c b.af.A b.af.c b.af.ls Y bY (j _ 16 _ rfl aO) (show b.bV.ls.length≤b.bV.c∧b.bV.ls.length≤9223372036854775807 from by omega) (rfl:s5 bG.abs b.aG.ls=s5 bG.abs b.aG.ls) (j _ 17 _ rfl aO) (show r8 (s5 bG.abs b.aG.ls)≤b.aG.c∧r8 (s5 bG.abs b.aG.ls)≤9223372036854775807 from by omega) (fun x9 h9=>⟨j _ 20 _ rfl (ax (Q3.2 ⟨x9,h9,b1⟩) aO),aZ (φ:=fun _=>_) n (i:=21) rfl (ax (Q3.2 ⟨x9,h9,b1⟩) aW),j _ 20 _ rfl (ax (Q3.2 ⟨x9,h9, .tail _ b1⟩) aO),aZ (φ:=fun _=>_) n (i:=21) rfl (ax (Q3.2 ⟨x9,h9, .tail _ b1⟩) aW)⟩) (j _ 18 _ rfl aO) (show b.bD.ls.length≤b.bD.c∧b.bD.ls.length≤9223372036854775807 from by omega) (rfl:s5 bO.abs b.af.ls=s5 bO.abs b.af.ls) (j _ 19 _ rfl aO) (show r8 (s5 bO.abs b.af.ls)≤b.af.c∧r8 (s5 bO.abs b.af.ls)≤9223372036854775807 from by omega) (fun x9 h9=>⟨j _ 21 _ rfl (ax (Q3.2 ⟨x9,h9,b1⟩) aO),aZ (φ:=fun _=>_) n (i:=22) rfl (ax (Q3.2 ⟨x9,h9,b1⟩) aW),(fun y1 k1=>⟨j _ 21 _ rfl (ax (Q3.2 ⟨x9,h9, .tail _ b1⟩) (ax (Q3.2 ⟨y1,k1,b1⟩) aO)),aZ (φ:=fun _=>_) n (i:=22) rfl (ax (Q3.2 ⟨x9,h9, .tail _ b1⟩) (ax (Q3.2 ⟨y1,k1,b1⟩) aW))⟩)⟩) e8 az) ?_)
 rintro _ iQ ⟨eO,eP,rfl,cu⟩
 have bR:=bZ _ _ cu
 have gT:=bR.rowC (i:=0) rfl
 have gU:Y.length≤5:=by have q9:=yC az; simp only [s3] at q9; omega
 have bS:=bR.pf [2,3,1]
 refine⟨.inr ⟨_,bS⟩, ?_⟩
 have eQ:=bS.pf [0,4,5]
 obtain⟨bT,bA⟩:∃ q,dZ bH b.aR Y false=q:=⟨_,rfl⟩
 obtain⟨iR,cz,gV,cB,cK⟩:=IU eQ
 refine qd 4 rfl (Iz Q2 rfl (kV _ _ g0 bH fH fI fJ g b.aR eO Y.length eP Y false bT cz bP (cK _ 2 _ rfl aO) rfl e6 g7 bA) ?_)
 rintro _ iT ⟨eT,eU,eX,rfl,cO,bC⟩
 have bU:=cB _ _ cO
 have gW:=aB bC
 have gX:=bU.rowC (i:=1) rfl
 refine⟨.inl e7, ?_⟩
 refine qn (IA (res0 rfl) ?_)
 have eY:=bU.px [0,1,2,3,16,17] [4,5,18,19,20,21,22,23] []
 obtain⟨rfl,rfl⟩:=ic (hr.symm.trans (show _=(bT,aA.mk (cZ.mk l.aa.au l.aa.av l.aa.aV l.aa.aL (E2 a.aa.ag.ls) (E2 a.aa.aj.ls) (E2 a.aa.aF.ls)) l.bP (E2 (q7 (D0 m) a.ay.ls++r3 ((D0 m)+1) a.ay.ls)) l.bK l.bA l.bz l.bv l.bq l.dP l.dH l.dI l.dG l.dJ) from et (ah (bJ bM)) (et (ah bN) (et (ah az) (ah bA)))))
 exact⟨eT,eU,eX,bV,bW,(q7 (D0 m) d++r3 ((D0 m)+1) d),fK,fM,fO,fP,fQ,dM,fT,fU,dO,fV,fZ,dP,gm,gp,dQ,(by(first | rw [← av] | skip); (first | rw [← ay] | skip); first | done | rfl),eY,bC,(qc h),bi,bn,bq,bu,bv⟩
end Go.Proofs.YtbkagebjhbphaaaGreat
