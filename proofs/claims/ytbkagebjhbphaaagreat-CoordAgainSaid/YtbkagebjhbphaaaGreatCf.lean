/-
 coord: asked, acknowledged, given up.
-/
import Derived.Test.YtbkagebjhbphaaaGreatCc
namespace Go.Proofs.YtbkagebjhbphaaaGreat
open Int renaming toNat→D2
open IntKind renaming i64→C7
open List renaming drop→r6,flatMap→q6,getD→C2,length→s2,length_append→p5,length_cons→s3,length_drop→p4,length_map→s6,length_nil→G0,length_replicate→H6,length_set→H5,length_take→p3,map→s8,mem_flatMap→P2,mem_of_getElem?→E0,set→u5,take→r5
open Ll renaming mk→E4
open Sv renaming mk→H3
open _root_.Go.Proofs.Tryz renaming call104→O7,call27→P1,isAgg107→O8,isAgg24→O2,isAgg28→E1,isAgg3→C6,isAgg30→D4,isAgg79→P0,prog→y4,sizeOf107→O9
open WL renaming nil→D0
open Wp renaming exit→D1,loop→C5
set_option maxRecDepth 100000
open Go.RowKit
set_option linter.unusedVariables false
set_option linter.unusedSectionVars false
set_option linter.unusedSimpArgs false
def lL (a:Nat):Bool:=
 false
theorem qM (w D a c) (H:Own w D w []) (hr:lL a=c):
    Calls y4 136 #[vU a] w (dR fun v w'=>v= .bool c∧Own w D w' []):=by
 refine cb Tryz.func136 ?_
 refine sr (Ar rfl (Mz rfl (Mz rfl (fw (.bool false) (Gm (e:= !(decide (((a:Nat):Int)=((a:Nat):Int)))) yk i8) (An rfl (rt (rs ?_)))))))
 have b:=H.pk []
 obtain rfl:_=false:=hr.symm.trans rfl
 exact⟨rfl,b⟩
def ib (c:Nat) (d:Nat):Int:=
 bnd (lL c) fun b=>bnd (lL d) fun a=>if b=true then if a=true then 0 else(-1) else if a=true then 1 else if((c:Nat):Int) < ((d:Nat):Int) then(-1) else if((c:Nat):Int) > ((d:Nat):Int) then 1 else 0
theorem lW (w D i j C) (H:Own w D w []) (hr:ib i j=C):
    Calls y4 104 #[vU i,vU j] w (dR fun v w'=>v=vI C∧Own w D w' []):=by
 refine cb Tryz.func104 ?_
 refine sr (Ar rfl (Mz rfl ?_))
 obtain⟨l,a⟩:∃ q,lL i=q:=⟨_,rfl⟩
 obtain⟨J,m,E,n,F⟩:=F3 H
 refine cl Tryz.call136 (qM _ _ i l m a) ?_
 rintro _ K ⟨rfl,o⟩
 have t:=n _ _ o
 refine Ar rfl (Mz rfl ?_)
 obtain⟨k,b⟩:∃ q,lL j=q:=⟨_,rfl⟩
 obtain⟨L,p,G,r,I⟩:=F3 t
 refine cl Tryz.call136 (qM _ _ j k p b) ?_
 rintro _ M ⟨rfl,s⟩
 have e:=r _ _ s
 refine An rfl (FW (sr (Mn rfl ?_)))
 rcases JS (l) with c | c
 refine jT c (FW (sr (Mn rfl ?_)))
 rcases JS (k) with f | f
 refine jT f (sr (An rfl (rt (tR (tR (rs ?_))))))
 have u:=e.pk []
 obtain rfl:_=0:=hr.symm.trans (et (ai a) (et (ai b) (et (ip c) (ip f))))
 exact⟨rfl,u⟩
 refine jF f (sk (sr (An rfl (rt (tR (rs ?_))))))
 have x:=e.pk []
 obtain rfl:_=(-1):=hr.symm.trans (et (ai a) (et (ai b) (et (ip c) (gB f))))
 exact⟨rfl,x⟩
 refine jF c (sk (FW (sr (Mn rfl ?_))))
 rcases JS (k) with d | d
 refine jT d (sr (An rfl (rt (tR (rs ?_)))))
 have y:=e.pk []
 obtain rfl:_=1:=hr.symm.trans (et (ai a) (et (ai b) (et (gB c) (ip d))))
 exact⟨rfl,y⟩
 refine jF d (sk (FW (sr (Mz rfl (Mz rfl (Kz (.bool (decide (((i:Nat):Int) < ((j:Nat):Int)))) (nt ?_)))))))
 by_cases g:((i:Nat):Int) < ((j:Nat):Int)
 refine jT (dT g) (sr (An rfl (rt (tR (rs ?_)))))
 have z:=e.pk []
 obtain rfl:_=(-1):=hr.symm.trans (et (ai a) (et (ai b) (et (gB c) (et (gB d) (ip g)))))
 exact⟨rfl,z⟩
 refine jF (dF g) (sk (FW (sr (Mz rfl (Mz rfl (Kz (.bool (decide (((i:Nat):Int) > ((j:Nat):Int)))) (nt ?_)))))))
 by_cases h:((i:Nat):Int) > ((j:Nat):Int)
 refine jT (dT h) (sr (An rfl (rt (tR (rs ?_)))))
 have A:=e.pk []
 obtain rfl:_=1:=hr.symm.trans (et (ai a) (et (ai b) (et (gB c) (et (gB d) (et (iN g) (ip h))))))
 exact⟨rfl,A⟩
 refine jF (dF h) (sk (sr (An rfl (rt (rs ?_)))))
 have B:=e.pk []
 obtain rfl:_=0:=hr.symm.trans (et (ai a) (et (ai b) (et (gB c) (et (gB d) (et (iN g) (iN h))))))
 exact⟨rfl,B⟩
def dG (l0:List bJ) (f:Nat):Nat→Nat→Nat→Nat
  | 0,a,b=>default
  | c+1,a,b=>if((a:Nat):Int) < ((b:Nat):Int) then bnd (C2 l0 ((a+b) / 2) default) fun d=>bnd (ib d.aU f) fun e=>if e < 0 then dG l0 f c (((a+b) / 2)+1) b else dG l0 f c a ((a+b) / 2) else a
def bQ (l0:List bJ) (c:Nat):Int × Bool:=
 bnd (dG l0 c ((l0.length - 0)+1) 0 l0.length) fun sLrL=>if((sLrL:Nat):Int) < ((l0.length:Nat):Int) then bnd (C2 l0 sLrL default) fun a=>bnd (ib a.aU c) fun b=>(((sLrL:Nat):Int),decide (b=0)) else(((sLrL:Nat):Int),false)
theorem gW (w D y Y X d0 l0 n J Z) (H:Own w D w []) (G:s8 aA.abs d0=l0) (h:Ro w D fun w'=>bA w' 5 y Y (q6 aA.cells d0)) (K:∀ x ∈ d0,Ro w D (fun w'=>bA w' 1 x.av.A x.av.ls.length (q6 (eI .i64) x.av.ls))∧(x.av.ls.length≤x.av.c∧x.av.ls.length≤9223372036854775807)) (aa:Y=l0.length) (aL:l0.length *56≤211106232532992) (hr:bQ l0 n=(J,Z)):
    Calls y4 132 #[.slice y Y X,vU n, .func (.func 133) #[] #[]] w (dR fun v w'=>v= .tuple #[vI J, .bool Z]∧Own w D w' []∧(0≤J∧J≤((l0.length:Nat):Int))∧(Bool.toNat Z=0∨J < ((l0.length:Nat):Int))):=by
 subst aa
 have ay:=az G
 refine cb Tryz.func132 ?_
 refine sr (Az rfl (Ar rfl (Mz rfl (Kz (vJ l0.length) (Ar rfl (Mz rfl (Az rfl (An rfl (FW (bo ?_))))))))))
 have ae:=H.pk []
 obtain⟨af,g⟩:=qK fun (a:Nat) (b:Nat) (o:Nat) w'=>Own w D w' []∧a≤b∧b≤l0.length∧b - a < o∧dG l0 n ((l0.length - 0)+1) 0 l0.length=dG l0 n o a b
 refine C5 (fun i:Nat × Nat × Nat=> [(9,vJ i.1),(10,vJ i.2.1),(8,vJ l0.length),(7, .bool false),(6,vI 0),(0, .slice y l0.length X),(1,vU n),(2, .func (.func 133) #[] #[])]) af (fun i=>i.2.2) (0,l0.length,(l0.length - 0)+1) ⟨rfl,rfl,rfl,rfl,rfl,rfl,rfl,rfl,trivial⟩ (g.2 ⟨ae,e6,e6,e6,rfl⟩) ?_
 rintro ⟨a,b,o⟩ aM L
 obtain⟨f,aB,aC,aD,p⟩:=g.1 L
 obtain⟨j,M⟩:∃ q,o=q+1:=⟨o - 1,e6⟩
 subst M
 refine FW (sr (Mz rfl (Mz rfl (Kz (.bool (decide (((a:Nat):Int) < ((b:Nat):Int)))) (nt ?_)))))
 by_cases r:((a:Nat):Int) < ((b:Nat):Int)
 refine jT (dT r) (sk (bo (sr (Mz rfl (Mz rfl (fw (vJ (a+b)) (FX (e:=C7.wrap (((a:Nat):Int)+((b:Nat):Int))) yk f1) (fw (vU (a+b)) (FX (e:=IntKind.u64.wrap ((a+b:Nat):Int)) yk (IntWalk.u64_in _ e6)) (fw (vU ((a+b) / 2)) (FX (e:=Int.fdiv ((a+b:Nat):Int) 2) yk (mW _ 1 _ f3)) (fw (vJ ((a+b) / 2)) (FX (e:=C7.wrap (((a+b) / 2:Nat):Int)) yk (JP _ e6)) (Ar rfl (Mz rfl (Mz rfl (Mz rfl ?_)))))))))))))
 obtain⟨l,s⟩:=dK (ls:=d0) (i:=(a+b) / 2) aA.len f3 (f.ro h) e9
 have C:=fo G s
 have aF:=(K _ (E0 s)).2
 refine fw (.pointer (some ⟨ab y,ao y+((a+b) / 2) *5,none⟩)) (F4 (kG) rfl rfl ((f.ro h).addr (i:=(a+b) / 2) e6) e6) (fw (.agg (aA.cells l).toArray) (F7 rfl (Gf (cs:=(aA.cells l)) Tryz.isAgg60 Tryz.sizeOf60 ((f.ro h).elem aA.len s f3))) (Mz rfl ?_))
 refine WL.do rfl (Gr Tryz.call133 rfl rfl ?_ (fun _ _ k=>k))
 refine cb Tryz.func133 ?_
 refine sr ?_
 refine dM (aA.cells l) 60 f ?_
 intro ag aN N
 refine Ar rfl (Kz (vP ag 0) (Lz (vU l.aU) N 0 E1 (Mz rfl ?_)))
 obtain⟨I,t⟩:∃ q,ib l.aU n=q:=⟨_,rfl⟩
 obtain⟨aO,O,aG,P,aH⟩:=F3 N
 refine cl O7 (lW _ _ l.aU n I O t) ?_
 rintro _ aP ⟨rfl,Q⟩
 have R:=P _ _ Q
 refine An rfl (rt (rs (Kz (.bool (decide (I < 0))) (nt ?_))))
 by_cases z:I < 0
 refine jT (dT z) (FV (Mz rfl (fw (vI ((((a+b) / 2)+1:Nat):Int)) (FX (e:=C7.wrap ((((a+b) / 2:Nat):Int)+1)) yk f1) (Az rfl (D0 (bN ?_))))))
 have ah:=R.pk []
 exact Gc (((a+b) / 2)+1,b,j) ⟨rfl,rfl,rfl,rfl,rfl,rfl,rfl,rfl,trivial⟩ (g.2 ⟨ah,e6,e6,e6,et (p) (et (ip r) (et (ai (bF C)) (et (ai t) (ip z))))⟩) (by show j < j+1; omega)
 refine jF (dF z) (FV (Mz rfl (Az rfl (D0 (bN ?_)))))
 have aj:=R.pk []
 exact Gc (a,(a+b) / 2,j) ⟨rfl,rfl,rfl,rfl,rfl,rfl,rfl,rfl,trivial⟩ (g.2 ⟨aj,e6,e6,e6,et (p) (et (ip r) (et (ai (bF C)) (et (ai t) (iN z))))⟩) (by show j < j+1; omega)
 refine jF (dF r) (D1 (F6 ?_))
 have E:dG l0 n ((l0.length - 0)+1) 0 l0.length=a:=et (p) (iN r)
 refine F6 (Gi (FY (sr (Mz rfl (Mz rfl (Mz rfl (Kz (.bool (decide (((a:Nat):Int) < ((l0.length:Nat):Int)))) (Mz rfl ?_))))))))
 by_cases d:((a:Nat):Int) < ((l0.length:Nat):Int)
 refine gw (.func (.func 133) #[] #[]) (dT d) (F9 rfl) (gw (.slice y l0.length X) (dT d) (F9 rfl) (gw (vJ a) (dT d) (F9 rfl) ?_))
 obtain⟨m,u⟩:=dK (ls:=d0) (i:=a) aA.len f3 (f.ro h) e9
 have S:=fo G u
 have aI:=(K _ (E0 u)).2
 refine gw (.pointer (some ⟨ab y,ao y+a *5,none⟩)) (dT d) (F4 (kG) rfl rfl ((f.ro h).addr (i:=a) e6) e6) (gw (.agg (aA.cells m).toArray) (dT d) (F7 rfl (Gf (cs:=(aA.cells m)) Tryz.isAgg60 Tryz.sizeOf60 ((f.ro h).elem aA.len u f3))) (gw (vU n) (dT d) (F9 rfl) ?_))
 refine He rfl rfl (dT d) rfl (Gr Tryz.call133 rfl rfl ?_ (fun _ _ k=>k))
 refine cb Tryz.func133 ?_
 refine sr ?_
 refine dM (aA.cells m) 60 f ?_
 intro ak aQ T
 refine Ar rfl (Kz (vP ak 0) (Lz (vU m.aU) T 0 E1 (Mz rfl ?_)))
 obtain⟨B,F⟩:∃ q,ib m.aU n=q:=⟨_,rfl⟩
 obtain⟨aR,U,aJ,V,aK⟩:=F3 T
 refine cl O7 (lW _ _ m.aU n B U F) ?_
 rintro _ aS ⟨rfl,W⟩
 have au:=V _ _ W
 refine An rfl (rt (rs (Gz (.bool (decide (B=0))) (dT d) (fw (.bool (decide (B=0))) (Gd rfl (dT d) rfl) (Az rfl (An rfl (rt (Fin.res (lY rfl rfl rfl) ?_))))))))
 have av:=au.pk []
 obtain⟨rfl,rfl⟩:=gm (hr.symm.trans (show _=(((a:Nat):Int),decide (B=0)) from et (ai E) (et (ip d) (et (ai (bF S)) (ai F)))))
 exact⟨rfl,av,e6,i7⟩
 refine Sz (dF d) (Sz (dF d) (Sz (dF d) (Sz (dF d) (Sz (dF d) (Sz (dF d) (Sz (dF d) (Sz (dF d) (fw (.bool false) (FZ rfl (dF d) rfl) (Az rfl (An rfl (rt (Fin.res (lY rfl rfl rfl) ?_))))))))))))
 have ax:=f.pk []
 obtain⟨rfl,rfl⟩:=gm (hr.symm.trans (show _=(((a:Nat):Int),false) from et (ai E) (iN d)))
 exact⟨rfl,ax,e6,i7⟩
def eX (l0:List dD) (f:Nat):Nat→Nat→Nat→Nat
  | 0,a,b=>default
  | c+1,a,b=>if((a:Nat):Int) < ((b:Nat):Int) then bnd (C2 l0 ((a+b) / 2) default) fun d=>bnd (ib d.aR f) fun e=>if e < 0 then eX l0 f c (((a+b) / 2)+1) b else eX l0 f c a ((a+b) / 2) else a
def cu (l0:List dD) (c:Nat):Int × Bool:=
 bnd (eX l0 c ((l0.length - 0)+1) 0 l0.length) fun sLrL=>if((sLrL:Nat):Int) < ((l0.length:Nat):Int) then bnd (C2 l0 sLrL default) fun a=>bnd (ib a.aR c) fun b=>(((sLrL:Nat):Int),decide (b=0)) else(((sLrL:Nat):Int),false)
theorem iF (w D B n0 Z d0 l0 s M r1) (H:Own w D w []) (J:s8 bz.abs d0=l0) (p:Ro w D fun w'=>bA w' 9 B n0 (q6 bz.cells d0)) (n:∀ x ∈ d0,Ro w D (fun w'=>bA w' 6 x.bO.A x.bO.ls.length (q6 bv.cells x.bO.ls))∧(x.bO.ls.length≤x.bO.c∧x.bO.ls.length≤9223372036854775807)∧Ro w D (fun w'=>bA w' 3 x.aD.A x.aD.ls.length (q6 bD.cells x.aD.ls))∧(x.aD.ls.length≤x.aD.c∧x.aD.ls.length≤9223372036854775807)∧(∀ h ∈ x.aD.ls,Ro w D (fun w'=>bA w' 6 h.aF.A h.aF.ls.length (q6 bv.cells h.aF.ls))∧(h.aF.ls.length≤h.aF.c∧h.aF.ls.length≤9223372036854775807)∧Ro w D (fun w'=>bA w' 1 h.aH.A h.aH.ls.length (q6 (eI .i64) h.aH.ls))∧(h.aH.ls.length≤h.aH.c∧h.aH.ls.length≤9223372036854775807))∧Ro w D (fun w'=>bA w' 1 x.bB.A x.bB.ls.length (q6 eL x.bB.ls))∧(x.bB.ls.length≤x.bB.c∧x.bB.ls.length≤9223372036854775807)∧Ro w D (fun w'=>bA w' 1 x.af.A x.af.ls.length (q6 (GD (β:=ae)) x.af.ls))∧(x.af.ls.length≤x.af.c∧x.af.ls.length≤9223372036854775807)∧(∀ h ∈ x.af.ls,Ro w D (fun w'=>bA w' 3 h.A h.ls.length (q6 ae.cells h.ls))∧(h.ls.length≤h.c∧h.ls.length≤9223372036854775807)∧(∀ L ∈ h.ls,Ro w D (fun w'=>bA w' 2 L.aj.A L.aj.ls.length (q6 aI.cells L.aj.ls))∧(L.aj.ls.length≤L.aj.c∧L.aj.ls.length≤9223372036854775807)))) (ag:n0=l0.length) (aY:l0.length *136≤211106232532992) (hr:cu l0 s=(M,r1)):
    Calls y4 102 #[.slice B n0 Z,vU s, .func (.func 103) #[] #[]] w (dR fun v w'=>v= .tuple #[vI M, .bool r1]∧Own w D w' []∧(0≤M∧M≤((l0.length:Nat):Int))∧(Bool.toNat r1=0∨M < ((l0.length:Nat):Int))):=by
 subst ag
 have aC:=az J
 refine cb Tryz.func102 ?_
 refine sr (Az rfl (Ar rfl (Mz rfl (Kz (vJ l0.length) (Ar rfl (Mz rfl (Az rfl (An rfl (FW (bo ?_))))))))))
 have ah:=H.pk []
 obtain⟨aj,o⟩:=qK fun (a:Nat) (b:Nat) (t:Nat) w'=>Own w D w' []∧a≤b∧b≤l0.length∧b - a < t∧eX l0 s ((l0.length - 0)+1) 0 l0.length=eX l0 s t a b
 refine C5 (fun i:Nat × Nat × Nat=> [(9,vJ i.1),(10,vJ i.2.1),(8,vJ l0.length),(7, .bool false),(6,vI 0),(0, .slice B l0.length Z),(1,vU s),(2, .func (.func 103) #[] #[])]) aj (fun i=>i.2.2) (0,l0.length,(l0.length - 0)+1) ⟨rfl,rfl,rfl,rfl,rfl,rfl,rfl,rfl,trivial⟩ (o.2 ⟨ah,e6,e6,e6,rfl⟩) ?_
 rintro ⟨a,b,t⟩ aZ N
 obtain⟨m,aD,aF,aG,u⟩:=o.1 N
 obtain⟨r,O⟩:∃ q,t=q+1:=⟨t - 1,e6⟩
 subst O
 refine FW (sr (Mz rfl (Mz rfl (Kz (.bool (decide (((a:Nat):Int) < ((b:Nat):Int)))) (nt ?_)))))
 by_cases y:((a:Nat):Int) < ((b:Nat):Int)
 refine jT (dT y) (sk (bo (sr (Mz rfl (Mz rfl (fw (vJ (a+b)) (FX (e:=C7.wrap (((a:Nat):Int)+((b:Nat):Int))) yk f1) (fw (vU (a+b)) (FX (e:=IntKind.u64.wrap ((a+b:Nat):Int)) yk (IntWalk.u64_in _ e6)) (fw (vU ((a+b) / 2)) (FX (e:=Int.fdiv ((a+b:Nat):Int) 2) yk (mW _ 1 _ f3)) (fw (vJ ((a+b) / 2)) (FX (e:=C7.wrap (((a+b) / 2:Nat):Int)) yk (JP _ e6)) (Ar rfl (Mz rfl (Mz rfl (Mz rfl ?_)))))))))))))
 obtain⟨f,j⟩:=dK (ls:=d0) (i:=(a+b) / 2) bz.len f3 (m.ro p) e9
 have F:=fo J j
 have aH:=(n _ (E0 j)).2.1
 have aJ:=(n _ (E0 j)).2.2.2.1
 have aK:s2 (s8 bD.abs f.aD.ls)=f.aD.ls.length:=s6 ..
 have aL:=(n _ (E0 j)).2.2.2.2.2.2.1
 have aM:=(n _ (E0 j)).2.2.2.2.2.2.2.2.1
 have aN:s2 (s8 bK.abs f.af.ls)=f.af.ls.length:=s6 ..
 refine fw (.pointer (some ⟨ab B,ao B+((a+b) / 2) *9,none⟩)) (F4 (pu) rfl rfl ((m.ro p).addr (i:=(a+b) / 2) e6) e6) (fw (.agg (bz.cells f).toArray) (F7 rfl (Gf (cs:=(bz.cells f)) O8 O9 ((m.ro p).elem bz.len j f3))) (Mz rfl ?_))
 refine WL.do rfl (Gr Tryz.call103 rfl rfl ?_ (fun _ _ k=>k))
 refine cb Tryz.func103 ?_
 refine sr ?_
 refine dM (bz.cells f) 107 m ?_
 intro ak bf P
 refine Ar rfl (Kz (vP ak 0) (Lz (vU f.aR) P 0 E1 (Mz rfl ?_)))
 obtain⟨K,z⟩:∃ q,ib f.aR s=q:=⟨_,rfl⟩
 obtain⟨bg,Q,aO,R,aP⟩:=F3 P
 refine cl O7 (lW _ _ f.aR s K Q z) ?_
 rintro _ bi ⟨rfl,S⟩
 have T:=R _ _ S
 refine An rfl (rt (rs (Kz (.bool (decide (K < 0))) (nt ?_))))
 by_cases C:K < 0
 refine jT (dT C) (FV (Mz rfl (fw (vI ((((a+b) / 2)+1:Nat):Int)) (FX (e:=C7.wrap ((((a+b) / 2:Nat):Int)+1)) yk f1) (Az rfl (D0 (bN ?_))))))
 have au:=T.pk []
 exact Gc (((a+b) / 2)+1,b,r) ⟨rfl,rfl,rfl,rfl,rfl,rfl,rfl,rfl,trivial⟩ (o.2 ⟨au,e6,e6,e6,et (u) (et (ip y) (et (ai (bF F)) (et (ai z) (ip C))))⟩) (by show r < r+1; omega)
 refine jF (dF C) (FV (Mz rfl (Az rfl (D0 (bN ?_)))))
 have av:=T.pk []
 exact Gc (a,(a+b) / 2,r) ⟨rfl,rfl,rfl,rfl,rfl,rfl,rfl,rfl,trivial⟩ (o.2 ⟨av,e6,e6,e6,et (u) (et (ip y) (et (ai (bF F)) (et (ai z) (iN C))))⟩) (by show r < r+1; omega)
 refine jF (dF y) (D1 (F6 ?_))
 have G:eX l0 s ((l0.length - 0)+1) 0 l0.length=a:=et (u) (iN y)
 refine F6 (Gi (FY (sr (Mz rfl (Mz rfl (Mz rfl (Kz (.bool (decide (((a:Nat):Int) < ((l0.length:Nat):Int)))) (Mz rfl ?_))))))))
 by_cases d:((a:Nat):Int) < ((l0.length:Nat):Int)
 refine gw (.func (.func 103) #[] #[]) (dT d) (F9 rfl) (gw (.slice B l0.length Z) (dT d) (F9 rfl) (gw (vJ a) (dT d) (F9 rfl) ?_))
 obtain⟨g,l⟩:=dK (ls:=d0) (i:=a) bz.len f3 (m.ro p) e9
 have U:=fo J l
 have aQ:=(n _ (E0 l)).2.1
 have aR:=(n _ (E0 l)).2.2.2.1
 have aS:s2 (s8 bD.abs g.aD.ls)=g.aD.ls.length:=s6 ..
 have aT:=(n _ (E0 l)).2.2.2.2.2.2.1
 have aU:=(n _ (E0 l)).2.2.2.2.2.2.2.2.1
 have aV:s2 (s8 bK.abs g.af.ls)=g.af.ls.length:=s6 ..
 refine gw (.pointer (some ⟨ab B,ao B+a *9,none⟩)) (dT d) (F4 (pu) rfl rfl ((m.ro p).addr (i:=a) e6) e6) (gw (.agg (bz.cells g).toArray) (dT d) (F7 rfl (Gf (cs:=(bz.cells g)) O8 O9 ((m.ro p).elem bz.len l f3))) (gw (vU s) (dT d) (F9 rfl) ?_))
 refine He rfl rfl (dT d) rfl (Gr Tryz.call103 rfl rfl ?_ (fun _ _ k=>k))
 refine cb Tryz.func103 ?_
 refine sr ?_
 refine dM (bz.cells g) 107 m ?_
 intro ax bn V
 refine Ar rfl (Kz (vP ax 0) (Lz (vU g.aR) V 0 E1 (Mz rfl ?_)))
 obtain⟨E,I⟩:∃ q,ib g.aR s=q:=⟨_,rfl⟩
 obtain⟨bq,W,aW,X,aX⟩:=F3 V
 refine cl O7 (lW _ _ g.aR s E W I) ?_
 rintro _ bu ⟨rfl,Y⟩
 have ay:=X _ _ Y
 refine An rfl (rt (rs (Gz (.bool (decide (E=0))) (dT d) (fw (.bool (decide (E=0))) (Gd rfl (dT d) rfl) (Az rfl (An rfl (rt (Fin.res (lY rfl rfl rfl) ?_))))))))
 have aA:=ay.pk []
 obtain⟨rfl,rfl⟩:=gm (hr.symm.trans (show _=(((a:Nat):Int),decide (E=0)) from et (ai G) (et (ip d) (et (ai (bF U)) (ai I)))))
 exact⟨rfl,aA,e6,i7⟩
 refine Sz (dF d) (Sz (dF d) (Sz (dF d) (Sz (dF d) (Sz (dF d) (Sz (dF d) (Sz (dF d) (Sz (dF d) (fw (.bool false) (FZ rfl (dF d) rfl) (Az rfl (An rfl (rt (Fin.res (lY rfl rfl rfl) ?_))))))))))))
 have aB:=m.pk []
 obtain⟨rfl,rfl⟩:=gm (hr.symm.trans (show _=(((a:Nat):Int),false) from et (ai G) (iN d)))
 exact⟨rfl,aB,e6,i7⟩
def kW (g:bE) (c:bM) (b:aB):bE:=
 bnd (bQ b.aa.ak.ls c.aU) fun a=>bnd (cu b.au.ls c.aU) fun d=>if a.2=true then bnd (eG g c.aU ([c.aH]) a.2) fun e=>e else if d.2=true then g else bnd (eG g c.aU ([c.aH]) a.2) fun f=>f
set_option maxHeartbeats 4000000 in
theorem wF (w D g0) (p0:bE) (C E t) (d:bM) (ak aO au av aQ ax ay aC aR aD e) (b:aB) (M N g h o O P j l p Q R S T U V W X Y Z) (r0:bE) (H:Own w D w [blk g0 [.pointer (some ⟨e,0,none⟩), .slice C p0.bq.ls.length E] 98,row C p0.bq.ls.length E (q6 bC.cells t) 42 21,sepL (q6 bC.own t),mK e b M b.aa.ag.ls.length N g h O P j l Q R S T U V W X Y Z]) (u:s8 bC.abs t=p0.bq.ls) (bi:aO=d.aF.ls.length) (dz:Ro w D fun w'=>bA w' 6 ak d.aF.ls.length (q6 bv.cells d.aF.ls)) (dA:d.aF.ls.length≤au∧d.aF.ls.length≤9223372036854775807) (bn:s8 ae.abs ay=d.ah.ls) (bq:aQ=d.ah.ls.length) (dB:Ro w D fun w'=>bA w' 3 av d.ah.ls.length (q6 ae.cells ay)) (dC:d.ah.ls.length≤ax∧d.ah.ls.length≤9223372036854775807) (dD:∀ x ∈ ay,Ro w D (fun w'=>bA w' 2 x.aj.A x.aj.ls.length (q6 aI.cells x.aj.ls))∧(x.aj.ls.length≤x.aj.c∧x.aj.ls.length≤9223372036854775807)) (bu:aR=d.ag.ls.length) (dE:Ro w D fun w'=>bA w' 2 aC d.ag.ls.length (q6 aW.cells d.ag.ls)) (dF:d.ag.ls.length≤aD∧d.ag.ls.length≤9223372036854775807) (F:s8 aA.abs o=b.aa.ak.ls) (aF:Ro w D fun w'=>bA w' 5 g b.aa.ak.ls.length (q6 aA.cells o)) (bI:b.aa.ak.ls.length≤h∧b.aa.ak.ls.length≤9223372036854775807) (G:∀ x ∈ o,Ro w D (fun w'=>bA w' 1 x.av.A x.av.ls.length (q6 (eI .i64) x.av.ls))∧(x.av.ls.length≤x.av.c∧x.av.ls.length≤9223372036854775807)) (I:s8 bz.abs p=b.au.ls) (aG:Ro w D fun w'=>bA w' 9 j b.au.ls.length (q6 bz.cells p)) (bJ:b.au.ls.length≤l∧b.au.ls.length≤9223372036854775807) (a:∀ x ∈ p,Ro w D (fun w'=>bA w' 6 x.bO.A x.bO.ls.length (q6 bv.cells x.bO.ls))∧(x.bO.ls.length≤x.bO.c∧x.bO.ls.length≤9223372036854775807)∧Ro w D (fun w'=>bA w' 3 x.aD.A x.aD.ls.length (q6 bD.cells x.aD.ls))∧(x.aD.ls.length≤x.aD.c∧x.aD.ls.length≤9223372036854775807)∧(∀ f ∈ x.aD.ls,Ro w D (fun w'=>bA w' 6 f.aF.A f.aF.ls.length (q6 bv.cells f.aF.ls))∧(f.aF.ls.length≤f.aF.c∧f.aF.ls.length≤9223372036854775807)∧Ro w D (fun w'=>bA w' 1 f.aH.A f.aH.ls.length (q6 (eI .i64) f.aH.ls))∧(f.aH.ls.length≤f.aH.c∧f.aH.ls.length≤9223372036854775807))∧Ro w D (fun w'=>bA w' 1 x.bB.A x.bB.ls.length (q6 eL x.bB.ls))∧(x.bB.ls.length≤x.bB.c∧x.bB.ls.length≤9223372036854775807)∧Ro w D (fun w'=>bA w' 1 x.af.A x.af.ls.length (q6 (GD (β:=ae)) x.af.ls))∧(x.af.ls.length≤x.af.c∧x.af.ls.length≤9223372036854775807)∧(∀ f ∈ x.af.ls,Ro w D (fun w'=>bA w' 3 f.A f.ls.length (q6 ae.cells f.ls))∧(f.ls.length≤f.c∧f.ls.length≤9223372036854775807)∧(∀ y2 ∈ f.ls,Ro w D (fun w'=>bA w' 2 y2.aj.A y2.aj.ls.length (q6 aI.cells y2.aj.ls))∧(y2.aj.ls.length≤y2.aj.c∧y2.aj.ls.length≤9223372036854775807)))) (eB:b.aa.ag.ls.length≤1000∧b.aa.ak.ls.length≤1000∧b.aa.aJ.ls.length≤1000∧b.au.ls.length≤1000∧p0.bq.ls.length≤100000) (hr:kW p0 d b=r0):
    Calls y4 59 #[vP g0 0, .agg (gD d.aG d.aH d.eP d.aN d.cZ d.eu d.aO d.ay d.aU d.dW d.aX d.aL d.dH d.bZ d.xN d.d9 d.bT.bG d.bT.bU ak aO au av aQ ax aC aR aD).toArray] w (dR fun v w'=> ∃ aH aJ K,v= .tuple #[]∧Own w D w' [blk g0 [vP e 0, .slice aH r0.bq.ls.length aJ] 98,row aH r0.bq.ls.length aJ (q6 bC.cells K) 42 21,sepL (q6 bC.own K),mK e b M b.aa.ag.ls.length N g h O P j l Q R S T U V W X Y Z]∧(s8 bC.abs K=r0.bq.ls)):=by
 subst bi bq bu
 have dw:=az u
 have dx:=az bn
 have bG:=az F
 have bH:=az I
 have dG:=H.rowC (i:=1) rfl
 refine cb Tryz.func59 ?_
 refine sr ?_
 refine dM (gT d ak au av ax aC aD) 42 H ?_
 intro ag eD dH
 refine nt (FW ?_)
 refine xz [] (Gb Gj) dH ?_
 intro eF bK
 refine qv 0 rfl rfl (qp g0 0 1 rfl (qp g0 0 2 rfl (ql 3 rfl 1 O2 rfl rfl rfl (qp ag 8 4 rfl (ql 5 rfl 0 E1 rfl rfl rfl ?_)))))
 refine GX.do 6 rfl e7 (Gg Tryz.call95 rfl ?_ (fun _ _ k=>k))
 refine cb Tryz.func95 ?_
 refine sr (Az rfl (Ar rfl (Mz rfl (Kz (vP e 0) (Kz (vP e 0) (Kz (vP e 5) (Lz (.slice g b.aa.ak.ls.length h) bK 4 D4 (Mz rfl ?_))))))))
 obtain⟨⟨ah,r⟩,aa⟩:∃ q:Int × Bool,bQ b.aa.ak.ls d.aU=q:=⟨_,rfl⟩
 obtain⟨eH,bL,aS,bN,dW⟩:=F3 bK
 refine cl Tryz.call132 (gW _ _ g b.aa.ak.ls.length h o b.aa.ak.ls d.aU ah r bL F (aS _ aF) (fun z B=>⟨aS _ (G z B).1,(G z B).2⟩) rfl e6 aa) ?_
 rintro _ eO ⟨rfl,bO,aT,aU⟩
 have bP:=bN _ _ bO
 replace aT:0≤ah∧ah≤((b.aa.ak.ls.length:Nat):Int):=aT
 replace aU:Bool.toNat r=0∨ah < ((b.aa.ak.ls.length:Nat):Int):=aU
 refine Kz (vI ah) (Kz (.bool r) (Az rfl (An rfl (rt (Fin.res (lY rfl rfl rfl) ?_)))))
 refine⟨.inr ⟨_,bP⟩, ?_⟩
 refine qv 7 rfl rfl (qk (vI ah) 8 rfl (qk (.bool r) 9 rfl (qa 10 rfl rfl (qa 11 rfl rfl (qn (FY (FW ?_)))))))
 refine xz [] (Gb Gj) bP ?_
 intro eP bR
 refine qv 0 rfl rfl (qp g0 0 1 rfl (qp g0 0 2 rfl (ql 3 rfl 1 O2 rfl rfl rfl (qp ag 8 4 rfl (ql 5 rfl 0 E1 rfl rfl rfl ?_)))))
 refine GX.do 6 rfl e7 (Gg Tryz.call62 rfl ?_ (fun _ _ k=>k))
 refine cb Tryz.func62 ?_
 refine sr (Az rfl (Ar rfl (Mz rfl (Kz (vP e 0) (Kz (vP e 8) (Lz (.slice j b.au.ls.length l) bR 4 P0 (Mz rfl ?_)))))))
 obtain⟨⟨aj,s⟩,af⟩:∃ q:Int × Bool,cu b.au.ls d.aU=q:=⟨_,rfl⟩
 obtain⟨eQ,bS,m,bT,dX⟩:=F3 bR
 refine cl Tryz.call102 (iF _ _ j b.au.ls.length l p b.au.ls d.aU aj s bS I (m _ aG) (fun z B=>⟨m _ (a z B).1,(a z B).2.1,m _ (a z B).2.2.1,(a z B).2.2.2.1,(fun f k1=>⟨m _ ((a z B).2.2.2.2.1 f k1).1,((a z B).2.2.2.2.1 f k1).2.1,m _ ((a z B).2.2.2.2.1 f k1).2.2.1,((a z B).2.2.2.2.1 f k1).2.2.2⟩),m _ (a z B).2.2.2.2.2.1,(a z B).2.2.2.2.2.2.1,m _ (a z B).2.2.2.2.2.2.2.1,(a z B).2.2.2.2.2.2.2.2.1,(fun f k1=>⟨m _ ((a z B).2.2.2.2.2.2.2.2.2 f k1).1,((a z B).2.2.2.2.2.2.2.2.2 f k1).2.1,(fun y2 k2=>⟨m _ (((a z B).2.2.2.2.2.2.2.2.2 f k1).2.2 y2 k2).1,(((a z B).2.2.2.2.2.2.2.2.2 f k1).2.2 y2 k2).2⟩)⟩)⟩) rfl e6 af) ?_
 rintro _ eT ⟨rfl,bU,aV,aX⟩
 have J:=bT _ _ bU
 replace aV:0≤aj∧aj≤((b.au.ls.length:Nat):Int):=aV
 replace aX:Bool.toNat s=0∨aj < ((b.au.ls.length:Nat):Int):=aX
 refine Kz (vI aj) (Kz (.bool s) (Az rfl (An rfl (rt (Fin.res (lY rfl rfl rfl) ?_)))))
 refine⟨.inr ⟨_,J⟩, ?_⟩
 refine qv 7 rfl rfl (qk (vI aj) 8 rfl (qk (.bool s) 9 rfl (qa 10 rfl rfl (qa 11 rfl rfl (qn (FY (sr (Mz rfl (Mz rfl ?_)))))))))
 rcases JS (r) with n | n
 have h54t:Bool.toNat r=1:=by rw [n]; rfl
 refine Sz n (Sz n (fw (.bool true) (Gd rfl n rfl) (nt (jt (FV (Mz rfl (Kz (vP ag 8) (Lz (vU d.aU) J 0 E1 (Kz (vP ag 1) (Lz (vI d.aH) J 0 C6 ?_))))))))))
 refine kL [vI d.aH] 3 1 1 J ?_
 intro bV eU bB
 replace bB:=Gs (y:=row bV 1 1 (q6 (eI .i64) ([d.aH])) 3 1) rfl bB
 refine Mz rfl ?_
 have dI:=bB.pb [0,1,5]
 obtain⟨bW,aY⟩:∃ q,eG p0 d.aU ([d.aH]) r=q:=⟨_,rfl⟩
 obtain⟨eX,bX,dY,bY,bZ⟩:=Gx dI
 refine cl P1 (kF _ _ g0 p0 C E t e d.aU bV 1 1 ([d.aH]) r bW bX u (bZ _ 0 _ rfl aP) rfl i8 g7 aY) ?_
 rintro _ eY ⟨dJ,dK,dL,rfl,cz,aZ⟩
 have cB:=bY _ _ cz
 have dZ:=az aZ
 have d9:=cB.rowC (i:=1) rfl
 refine D0 (Gh (res0 rfl) ?_)
 have dN:=cB.pk [0,1,2,5]
 obtain rfl:_=bW:=hr.symm.trans (et (ai aa) (et (ai af) (et (ip n) (ai aY))))
 exact⟨dJ,dK,dL,rfl,dN,aZ⟩
 have h54t:Bool.toNat r=0:=by rw [n]; rfl
 refine GM (v:= .bool s) rfl rfl n rfl (F9 rfl) (Gz (.bool (!s)) n (fw (.bool (!s)) (FZ rfl n rfl) (nt ?_)))
 rcases JS (s) with L | L
 have h76t:Bool.toNat s=1:=by rw [L]; rfl
 refine jF (cn L) (Gn (Gh (res0 rfl) ?_))
 have dO:=J.px [] [0] []
 obtain rfl:_=p0:=hr.symm.trans (et (ai aa) (et (ai af) (et (gB n) (ip L))))
 exact⟨C,E,t,rfl,dO,u⟩
 have h76t:Bool.toNat s=0:=by rw [L]; rfl
 refine jT (cn L) (FV (Mz rfl (Kz (vP ag 8) (Lz (vU d.aU) J 0 E1 (Kz (vP ag 1) (Lz (vI d.aH) J 0 C6 ?_))))))
 refine kL [vI d.aH] 3 1 1 J ?_
 intro cK eZ bF
 replace bF:=Gs (y:=row cK 1 1 (q6 (eI .i64) ([d.aH])) 3 1) rfl bF
 refine Mz rfl ?_
 have dP:=bF.pb [0,1,5]
 obtain⟨cO,bf⟩:∃ q,eG p0 d.aU ([d.aH]) r=q:=⟨_,rfl⟩
 obtain⟨fe,cZ,ed,df,dh⟩:=Gx dP
 refine cl P1 (kF _ _ g0 p0 C E t e d.aU cK 1 1 ([d.aH]) r cO cZ u (dh _ 0 _ rfl aP) rfl i8 g7 bf) ?_
 rintro _ fo ⟨dQ,dS,dU,rfl,di,bg⟩
 have dm:=df _ _ di
 have ek:=az bg
 have eu:=dm.rowC (i:=1) rfl
 refine D0 (Gh (res0 rfl) ?_)
 have dV:=dm.pk [0,1,2,5]
 obtain rfl:_=cO:=hr.symm.trans (et (ai aa) (et (ai af) (et (gB n) (et (gB L) (ai bf)))))
 exact⟨dQ,dS,dU,rfl,dV,bg⟩
def gU (a:bM):List Int→Nat→Unit ⊕ Int
  | [],b=>Sum.inl ()
  | c::d,b=>if c=a.aH then Sum.inr ((b:Nat):Int) else gU a d (b+1)
def mM (l0:List Int) (a:bM):Int:=
 lp (gU a l0 0) fun _=>(-1)
theorem rH (w D C R S l0 m) (a:bM) (d f g h n j l Q) (H:Own w D w [blk m (gT a d f g h j l) 42]) (z:Ro w D fun w'=>bA w' 1 C R (q6 (eI .i64) l0)) (T:R=l0.length) (aa:l0.length≤9223372036854775807) (F:Ro w D fun w'=>bA w' 6 d a.aF.ls.length (q6 bv.cells a.aF.ls)) (G:a.aF.ls.length≤f∧a.aF.ls.length≤9223372036854775807) (p:s8 ae.abs n=a.ah.ls) (I:Ro w D fun w'=>bA w' 3 g a.ah.ls.length (q6 ae.cells n)) (J:a.ah.ls.length≤h∧a.ah.ls.length≤9223372036854775807) (K:∀ x ∈ n,Ro w D (fun w'=>bA w' 2 x.aj.A x.aj.ls.length (q6 aI.cells x.aj.ls))∧(x.aj.ls.length≤x.aj.c∧x.aj.ls.length≤9223372036854775807)) (L:Ro w D fun w'=>bA w' 2 j a.ag.ls.length (q6 aW.cells a.ag.ls)) (M:a.ag.ls.length≤l∧a.ag.ls.length≤9223372036854775807) (hr:mM l0 a=Q):
    Calls y4 134 #[.slice C R S, .func (.func 97) #[] #[vP m 0]] w (dR fun v w'=>v=vI Q∧Own w D w' [blk m (gT a d f g h j l) 42]∧(-1≤Q∧Q < ((l0.length:Nat):Int))):=by
 subst T
 have E:=az p
 refine cb Tryz.func134 ?_
 refine sr (An rfl (FW (sr (Mz rfl (Kz (vJ l0.length) (Mn rfl (bo ?_)))))))
 have U:=H.pf []
 obtain⟨V,r⟩:=mZ fun (b:Nat) w'=>Own w D w' [blk m (gT a d f g h j l) 42]∧b≤l0.length∧gU a l0 0=gU a (r6 b l0) b
 refine C5 (fun i:Nat=> [(4,vI 0),(8,vJ i),(7,vJ l0.length),(0, .slice C l0.length S),(1, .func (.func 97) #[] #[vP m 0])]) V (fun i=>l0.length - i) 0 ⟨rfl,rfl,rfl,rfl,rfl,trivial⟩ (r.2 ⟨U,e6,rfl⟩) ?_
 rintro b af N
 obtain⟨o,Z,s⟩:=r.1 N
 refine sr (Kz (.bool (decide (((b:Nat):Int) < ((l0.length:Nat):Int)))) (nt (FW ?_)))
 by_cases O:((b:Nat):Int) < ((l0.length:Nat):Int)
 obtain⟨B,u⟩:=dK (ls:=l0) (i:=b) iI f3 (o.ro z) e9
 have y:=drop_at u
 refine jT (dT O) (sk (FW (bo (sr (Mz rfl (Ar rfl (Mz rfl (Mz rfl (Mz rfl (fw (.pointer (some ⟨ab C,ao C+b *1,none⟩)) (F4 (nk) rfl rfl ((o.ro z).addr (i:=b) e6) e6) (fw (vI B) (F7 rfl (bX.one C6 (((o.ro z).elem iI u f3).at_ (k:=0) rfl))) ?_)))))))))))
 refine WL.do rfl (Gr Tryz.call97 rfl rfl ?_ (fun _ _ k=>k))
 refine cb Tryz.func97 ?_
 refine sr (Ar rfl (Mz rfl (Kz (vP m 1) (Lz (vI a.aH) o 0 C6 (Kz (.bool (decide (B=a.aH))) (An rfl (rt (rs (nt ?_)))))))))
 by_cases t:B=a.aH
 refine jT (dT t) (sr (Mz rfl (An rfl (rt (bR (tR (tR (bR (tR (rs ?_))))))))))
 have W:=o.pf []
 obtain rfl:_=((b:Nat):Int):=hr.symm.trans (jq (et (s) (et (congrArg (fun q=>gU a q b) y) (ip t))))
 exact⟨rfl,W,e6⟩
 refine jF (dF t) (Gn (bN (FY (FV (fw (vJ (b+1)) (FX (e:=C7.wrap (((b:Nat):Int)+1)) yk f1) (Mz rfl (D0 ?_)))))))
 have X:=o.pf []
 exact Gc (b+1) ⟨rfl,rfl,rfl,rfl,rfl,trivial⟩ (r.2 ⟨X,e6,et (s) (et (congrArg (fun q=>gU a q b) y) (iN t))⟩) (by show l0.length - (b+1) < l0.length - b; omega)
 refine jF (dF O) (D1 (F6 ?_))
 have P:gU a l0 0=Sum.inl ():=et (s) (et (congrArg (fun q=>gU a q b) (eZ (ls:=l0) (i:=b) e6)) rfl)
 refine F6 (Gi (FY (sr (An rfl (rt (rs ?_))))))
 have Y:=o.pf []
 obtain rfl:_=(-1):=hr.symm.trans (nU P)
 exact⟨rfl,Y,e6⟩
def gQ (l0:List Int) (a:bM):Nat→Int→Int→List Int→Int × (List Int)
  | 0,b,c,d=>default
  | f+1,b,c,d=>if c < ((l0.length:Nat):Int) then bnd (C2 d (D2 c) default) fun e=>if e=a.aH then gQ l0 a f b (c+1) d else gQ l0 a f (b+1) (c+1) (u5 d (D2 b) e) else(b,d)
def iq (l0:List Int) (b:bM):(List Int):=
 bnd (mM l0 b) fun a=>if a=(-1) then l0 else bnd (gQ l0 b ((D2 (((l0.length:Nat):Int) - (a+1)))+1) a (a+1) l0) fun sLrbfL=>(r5 (D2 sLrbfL.1) sLrbfL.2)
theorem qW (w D u n0 G l0 p) (a:bM) (h d j f s l g X) (H:Own w D w [row u n0 G (q6 (eI .i64) l0) 3 1,blk p (gT a h d j f l g) 42]) (aC:n0=l0.length) (bz:l0.length *8≤211106232532992) (J:Ro w D fun w'=>bA w' 6 h a.aF.ls.length (q6 bv.cells a.aF.ls)) (Y:a.aF.ls.length≤d∧a.aF.ls.length≤9223372036854775807) (z:s8 ae.abs s=a.ah.ls) (K:Ro w D fun w'=>bA w' 3 j a.ah.ls.length (q6 ae.cells s)) (Z:a.ah.ls.length≤f∧a.ah.ls.length≤9223372036854775807) (B:∀ x ∈ s,Ro w D (fun w'=>bA w' 2 x.aj.A x.aj.ls.length (q6 aI.cells x.aj.ls))∧(x.aj.ls.length≤x.aj.c∧x.aj.ls.length≤9223372036854775807)) (L:Ro w D fun w'=>bA w' 2 l a.ag.ls.length (q6 aW.cells a.ag.ls)) (aa:a.ag.ls.length≤g∧a.ag.ls.length≤9223372036854775807) (bB:l0.length≤1000000) (hr:iq l0 a=X):
    Calls y4 96 #[.slice u n0 G, .func (.func 97) #[] #[vP p 0]] w (dR fun v w'=> ∃ B0 b0,v= .slice B0 X.length b0∧Own w D w' [row B0 X.length b0 (q6 (eI .i64) X) 3 1,blk p (gT a h d j f l g) 42]∧(X.length≤l0.length)):=by
 subst aC
 have W:=az z
 have bC:=H.rowC (i:=0) rfl
 refine cb Tryz.func96 ?_
 refine sr (Ar rfl (Mz rfl (Mz rfl ?_)))
 have aD:=H.pb [0]
 obtain⟨n,M⟩:∃ q,mM l0 a=q:=⟨_,rfl⟩
 obtain⟨bD,af,E,ag,ah⟩:=Gq aD
 refine cl Tryz.call134 (rH _ _ u l0.length G l0 p a h d j f s l g n af (ah _ 0 _ rfl aP) rfl e6 (E _ J) (show a.aF.ls.length≤d∧a.aF.ls.length≤9223372036854775807 from by omega) z (E _ K) (show a.ah.ls.length≤f∧a.ah.ls.length≤9223372036854775807 from by omega) (fun x9 h9=>⟨E _ (B x9 h9).1,(B x9 h9).2⟩) (E _ L) (show a.ag.ls.length≤g∧a.ag.ls.length≤9223372036854775807 from by omega) M) ?_
 rintro _ bE ⟨rfl,aj,U⟩
 have ak:=ag _ _ aj
 replace U: -1≤n∧n < ((l0.length:Nat):Int):=U
 refine An rfl (FW (sr (Mz rfl (Kz (.bool (decide (n=(-1)))) (nt ?_)))))
 by_cases S:n=(-1)
 refine jT (dT S) (sr (Mz rfl (An rfl (rt (tR (rs ?_))))))
 have aF:=ak.pb [0]
 obtain rfl:_=l0:=hr.symm.trans (et (ai M) (ip S))
 exact⟨u,G,rfl,aF,j7⟩
 refine jF (dF S) (sk (FW (sr (Mz rfl (fw (vI (n+1)) (FX (e:=C7.wrap (n+1)) yk g2) (An rfl (bo ?_)))))))
 have aG:=ak.pf []
 obtain⟨aH,F⟩:=rZ fun (b:Int) (m:Int) r (N:Nat) w'=>Own w D w' [blk p (gT a h d j f l g) 42,row u l0.length G (q6 (eI .i64) r) 3 1]∧r.length=l0.length∧(0≤b∧b≤m∧m≤((l0.length:Nat):Int))∧D2 (((l0.length:Nat):Int) - m) < N∧gQ l0 a ((D2 (((l0.length:Nat):Int) - (n+1)))+1) n (n+1) l0=gQ l0 a N b m r
 refine C5 (fun i:Int × Int × (List Int) × Nat=> [(5,vI i.1),(6,vI i.2.1),(4, .slice none 0 0),(0, .slice u l0.length G),(1, .func (.func 97) #[] #[vP p 0])]) aH (fun i=>i.2.2.2) (n,n+1,l0,(D2 (((l0.length:Nat):Int) - (n+1)))+1) ⟨rfl,rfl,rfl,rfl,rfl,trivial⟩ (F.2 ⟨aG,by first | omega | (simp only [H5] <;> omega) | (simp only [H6]),e6,e6,rfl⟩) ?_
 rintro ⟨b,m,r,N⟩ bG au
 obtain⟨t,aZ,bf,bg,O⟩:=F.1 au
 obtain⟨I,av⟩:∃ q,N=q+1:=⟨N - 1,e6⟩
 subst av
 refine FW (sr (Mz rfl (Mz rfl (Kz (vJ l0.length) (Kz (.bool (decide (m < ((l0.length:Nat):Int)))) (nt ?_))))))
 by_cases P:m < ((l0.length:Nat):Int)
 refine jT (dT P) (sk (FW (bo (sr (Mz rfl (fw (vJ (D2 m)) (FX (e:=m) (F9 rfl) e6) ?_))))))
 obtain⟨C,Q⟩:=dK (ls:=r) (i:=D2 m) iI f3 (t.rds (i:=1) rfl) e9
 refine fw (.pointer (some ⟨ab u,ao u+(D2 m) *1,none⟩)) (F4 (nk) rfl rfl ((t.rds (i:=1) rfl).addr (i:=D2 m) e6) e6) (fw (vI C) (F7 rfl (bX.one C6 (((t.rds (i:=1) rfl).elem iI Q f3).at_ (k:=0) rfl))) (Ar rfl (Mz rfl (Mz rfl ?_))))
 refine WL.do rfl (Gr Tryz.call97 rfl rfl ?_ (fun _ _ k=>k))
 refine cb Tryz.func97 ?_
 refine sr (Ar rfl (Mz rfl (Kz (vP p 1) (Lz (vI a.aH) t 0 C6 (Kz (.bool (decide (C=a.aH))) (An rfl (rt (rs (fw (.bool (decide (¬ (C=a.aH)))) (Gm (e:= !(decide (C=a.aH))) yk decide_not.symm) (nt ?_))))))))))
 by_cases T:C=a.aH
 refine jF (dF (JR T)) (Gn (bN (FY (FV (Mz rfl (fw (vI (m+1)) (FX (e:=C7.wrap (m+1)) yk g2) (Az rfl (D0 ?_))))))))
 have aJ:=t.pf []
 exact Gc (b,m+1,r,I) ⟨rfl,rfl,rfl,rfl,rfl,trivial⟩ (F.2 ⟨aJ,by first | omega | (simp only [H5] <;> omega) | (simp only [H6]),e6,e6,Eq.trans (O) (Eq.trans (if_pos P) (Eq.trans (ai (bF Q)) (if_pos T)))⟩) (by show I < I+1; omega)
 refine jT (dT T) (sr (Mz rfl (fw (vJ (D2 b)) (FX (e:=b) (F9 rfl) e6) (Mz rfl ?_))))
 obtain⟨bH,V⟩:=dK (ls:=r) (i:=D2 b) iI f3 (t.rds (i:=1) rfl) e9
 refine fw (.pointer (some ⟨ab u,ao u+(D2 b) *1,none⟩)) (F4 (nk) rfl rfl ((t.rds (i:=1) rfl).addr (i:=D2 b) e6) e6) ?_
 have aK:=t.pb [0]
 refine G5 (Do.storeRow (vs:= [vI C]) (o:=(D2 b) *1+0) (q:=ao u+(D2 b) *1) aK rfl e6 rfl Tryz.sizeOf3 rfl rfl (JO rfl) (iK iI V (JO rfl)) (jE (y:=C) iI rfl (JO rfl) V) ?_)
 intro bI aL
 refine nt (FV (Mz rfl (fw (vI (b+1)) (FX (e:=C7.wrap (b+1)) yk g2) (Az rfl (D0 (bN (FY (FV (Mz rfl (fw (vI (m+1)) (FX (e:=C7.wrap (m+1)) yk g2) (Az rfl (D0 ?_))))))))))))
 have aM:=aL.pb [0]
 exact Gc (b+1,m+1,(u5 r (D2 b) C),I) ⟨rfl,rfl,rfl,rfl,rfl,trivial⟩ (F.2 ⟨aM,by first | omega | (simp only [H5] <;> omega) | (simp only [H6]),e6,e6,Eq.trans (O) (Eq.trans (if_pos P) (Eq.trans (ai (bF Q)) (if_neg T)))⟩) (by show I < I+1; omega)
 refine jF (dF P) (D1 (F6 ?_))
 have ax:gQ l0 a ((D2 (((l0.length:Nat):Int) - (n+1)))+1) n (n+1) l0=(b,r):=et (O) (iN P)
 refine F6 (Gi (FY (sr (Mz rfl (fw (vJ (D2 b)) (FX (e:=b) (F9 rfl) e6) (fw (.slice (jC u (D2 b) 1 G) (l0.length - (D2 b)) (G - (D2 b))) (Gy (nk) rfl rfl e6) ?_))))))
 have aN:=t.pb [0]
 obtain⟨bi,aO,ay⟩:=aN.rowFull
 refine G5 (Ik (z0:=(vI 0)) (lo:=D2 b) (nd:=(l0.length - (D2 b))) e7 rfl (nk) ay rfl (fun _=>kR ((ay.rds (i:=0) rfl).isSome e6) e6) e6 ?_)
 intro aA bn bq aQ
 refine ns (Mz rfl (fw (vJ (D2 b)) (FX (e:=b) (F9 rfl) e6) (fw (.slice u (D2 b) G) (GU (nk) rfl rfl e6) (An rfl (rt (rs ?_))))))
 have aR:Own w D aA [row u (D2 b) G (q6 (eI .i64) (r5 (D2 b) r)) 3 1,blk p (gT a h d j f l g) 42]:=aQ.rowPart e6 (Dh iI e6)
 have bu:s2 (r5 (D2 b) r)=D2 b:=by rw [p3]; omega
 have R:D2 b=s2 (r5 (D2 b) r):=by first | omega | (simp only [H5]; done) | (simp only [H5,p5,s3,G0,p3,p4,H6]; omega)
 have aS:Own w D aA [row u (s2 (r5 (D2 b) r)) G (q6 (eI .i64) (r5 (D2 b) r)) 3 1,blk p (gT a h d j f l g) 42]:=by rw [← R]; exact aR
 have aT:=aS.pf []
 obtain rfl:_=(r5 (D2 b) r):=hr.symm.trans (et (ai M) (et (iN S) (ai ax)))
 exact⟨u,G,(by first | rfl | (rw [← R]; done) | (rw [← R]; rfl)),aT,j7⟩
def jY (f:bE) (g:bM) (a:aB):bE × aB:=
 bnd (bQ a.aa.ak.ls g.aU) fun c=>if c.2=true then bnd (C2 a.aa.ak.ls (D2 c.1) default) fun b=>bnd (iq b.av.ls g) fun d=>bnd (C2 (u5 a.aa.ak.ls (D2 c.1) (bJ.mk b.aU b.aN b.ay b.aO (E4 d))) (D2 c.1) default) fun e=>if((e.av.ls.length:Nat):Int)=0 then(f,aB.mk (di.mk a.aa.av a.aa.ay a.aa.aX a.aa.aL (E4 a.aa.ag.ls) (E4 (r5 (D2 c.1) (u5 a.aa.ak.ls (D2 c.1) (bJ.mk b.aU b.aN b.ay b.aO (E4 d)))++r6 ((D2 c.1)+1) (u5 a.aa.ak.ls (D2 c.1) (bJ.mk b.aU b.aN b.ay b.aO (E4 d))))) (E4 a.aa.aJ.ls)) a.bP (E4 a.au.ls) a.bH a.bf a.bi a.bn a.aZ a.dI a.dz a.dB a.dA a.dC) else(f,aB.mk (di.mk a.aa.av a.aa.ay a.aa.aX a.aa.aL (E4 a.aa.ag.ls) (E4 (u5 a.aa.ak.ls (D2 c.1) (bJ.mk b.aU b.aN b.ay b.aO (E4 d)))) (E4 a.aa.aJ.ls)) a.bP (E4 a.au.ls) a.bH a.bf a.bi a.bn a.aZ a.dI a.dz a.dB a.dA a.dC) else(f,a)
set_option maxHeartbeats 4000000 in
theorem wG (w D g0) (p0:bE) (u z t) (p:bM) (au aZ Y av bf Z ay aC bg aa l) (a:aB) (C E g n h F G I J K L M N O P Q R S T) (r0:bE) (B:aB) (H:Own w D w [blk g0 [.pointer (some ⟨l,0,none⟩), .slice u p0.bq.ls.length z] 98,row u p0.bq.ls.length z (q6 bC.cells t) 42 21,sepL (q6 bC.own t),mK l a C a.aa.ag.ls.length E g n F G I J K L M N O P Q R S T,row g a.aa.ak.ls.length n (q6 aA.cells h) 60 5,sepL (q6 aA.own h)]) (W:s8 bC.abs t=p0.bq.ls) (bB:aZ=p.aF.ls.length) (bD:Ro w D fun w'=>bA w' 6 au p.aF.ls.length (q6 bv.cells p.aF.ls)) (dD:p.aF.ls.length≤Y∧p.aF.ls.length≤9223372036854775807) (aK:s8 ae.abs ay=p.ah.ls) (bG:bf=p.ah.ls.length) (bH:Ro w D fun w'=>bA w' 3 av p.ah.ls.length (q6 ae.cells ay)) (dE:p.ah.ls.length≤Z∧p.ah.ls.length≤9223372036854775807) (aL:∀ x ∈ ay,Ro w D (fun w'=>bA w' 2 x.aj.A x.aj.ls.length (q6 aI.cells x.aj.ls))∧(x.aj.ls.length≤x.aj.c∧x.aj.ls.length≤9223372036854775807)) (bI:bg=p.ag.ls.length) (bK:Ro w D fun w'=>bA w' 2 aC p.ag.ls.length (q6 aW.cells p.ag.ls)) (dG:p.ag.ls.length≤aa∧p.ag.ls.length≤9223372036854775807) (m:s8 aA.abs h=a.aa.ak.ls) (eZ:a.aa.ag.ls.length≤1000∧a.aa.ak.ls.length≤1000∧a.aa.aJ.ls.length≤1000∧a.au.ls.length≤1000∧p0.bq.ls.length≤100000) (fe:Dk a.aa.ak.ls) (hr:jY p0 p a=(r0,B)):
    Calls y4 58 #[vP g0 0, .agg (gD p.aG p.aH p.eP p.aN p.cZ p.eu p.aO p.ay p.aU p.dW p.aX p.aL p.dH p.bZ p.xN p.d9 p.bT.bG p.bT.bU au aZ Y av bf Z aC bg aa).toArray] w (dR fun v w'=> ∃ aM aN ah aO aQ aj,v= .tuple #[]∧Own w D w' [blk g0 [vP l 0, .slice aM r0.bq.ls.length aN] 98,row aM r0.bq.ls.length aN (q6 bC.cells ah) 42 21,sepL (q6 bC.own ah),blk l [vI B.aa.av,vU B.aa.ay,vU B.aa.aX,vU B.aa.aL, .slice C a.aa.ag.ls.length E, .slice aO B.aa.ak.ls.length aQ, .slice F a.aa.aJ.ls.length G,vU B.bP, .slice I a.au.ls.length J, .bool B.bH.cB,vU B.bH.aM,vI B.bH.dw, .slice K a.bH.af.ls.length L, .bool B.bf.cB,vU B.bf.aM,vI B.bf.dw, .slice M a.bf.af.ls.length N, .bool B.bi.cB,vU B.bi.aM,vI B.bi.dw, .slice O a.bi.af.ls.length P, .bool B.bn.cB,vU B.bn.aM,vI B.bn.dw, .slice Q a.bn.af.ls.length R, .bool B.aZ.cB,vU B.aZ.aM,vI B.aZ.dw, .slice S a.aZ.af.ls.length T,vU B.dI,vU B.dz,vU B.dB,vU B.dA,vU B.dC, .pointer none] 86,row aO B.aa.ak.ls.length aQ (q6 aA.cells aj) 60 5,sepL (q6 aA.own aj)]∧(s8 bC.abs ah=r0.bq.ls)∧(s8 aA.abs aj=B.aa.ak.ls)):=by
 subst bB bG bI
 have dB:=az W
 have dC:=az aK
 have bO:=az m
 have dH:=H.rowC (i:=1) rfl
 have bP:=H.rowC (i:=4) rfl
 refine cb Tryz.func58 ?_
 refine sr ?_
 refine dM (gT p au Y av Z aC aa) 42 H ?_
 intro bL fq dI
 refine nt (FW ?_)
 refine xz [] (Gb Gj) dI ?_
 intro fu bN
 refine qv 0 rfl rfl (qp g0 0 1 rfl (qp g0 0 2 rfl (ql 3 rfl 1 O2 rfl rfl rfl (qp bL 8 4 rfl (ql 5 rfl 0 E1 rfl rfl rfl ?_)))))
 refine GX.do 6 rfl e7 (Gg Tryz.call95 rfl ?_ (fun _ _ k=>k))
 refine cb Tryz.func95 ?_
 refine sr (Az rfl (Ar rfl (Mz rfl (Kz (vP l 0) (Kz (vP l 0) (Kz (vP l 5) (Lz (.slice g a.aa.ak.ls.length n) bN 4 D4 (Mz rfl ?_))))))))
 obtain⟨⟨d,af⟩,aD⟩:∃ q:Int × Bool,bQ a.aa.ak.ls p.aU=q:=⟨_,rfl⟩
 obtain⟨fA,bR,ek,bS,bi⟩:=F3 bN
 refine cl Tryz.call132 (gW _ _ g a.aa.ak.ls.length n h a.aa.ak.ls p.aU d af bR m (bi _ 5 _ rfl aP) (fun x9 h9=>⟨bi _ 6 _ rfl (ax (P2.2 ⟨x9,h9,b1⟩) aP),aY (φ:=fun _=>_) bN (i:=6) rfl (ax (P2.2 ⟨x9,h9,b1⟩) aV)⟩) rfl e6 aD) ?_
 rintro _ dJ ⟨rfl,bV,bn,bq⟩
 have X:=bS _ _ bV
 replace bn:0≤d∧d≤((a.aa.ak.ls.length:Nat):Int):=bn
 replace bq:Bool.toNat af=0∨d < ((a.aa.ak.ls.length:Nat):Int):=bq
 refine Kz (vI d) (Kz (.bool af) (Az rfl (An rfl (rt (Fin.res (lY rfl rfl rfl) ?_)))))
 refine⟨.inr ⟨_,X⟩, ?_⟩
 refine qv 7 rfl rfl (qk (vI d) 8 rfl (qk (.bool af) 9 rfl (qa 10 rfl rfl (qa 11 rfl rfl (qn (FY (FW (sr (Mz rfl (Kz (.bool (!af)) (nt ?_)))))))))))
 rcases JS (af) with ag | ag
 have h39t:Bool.toNat af=1:=by rw [ag]; rfl
 refine jF (cn ag) (sk (sr (Mz rfl (Kz (vP g0 0) (Kz (vP g0 0) (Lz (vP l 0) X 1 O2 (Kz (vP l 0) (Kz (vP l 0) (Kz (vP l 5) (Lz (.slice g a.aa.ak.ls.length n) X 4 D4 (fw (vJ (D2 d)) (FX (e:=d) (F9 rfl) e6) ?_)))))))))))
 obtain⟨b,U⟩:=dK (ls:=h) (i:=D2 d) aA.len f3 (X.rds (i:=5) rfl) e9
 have aR:=fo m U
 have eu:b.av.ls.length≤b.av.c∧b.av.ls.length≤9223372036854775807:=aY X (i:=6) rfl (φ:=fun _=>_) (ax (P2.2 ⟨b,E0 U,b1⟩) aV)
 have eB:b.av.ls.length≤1000:=DL f4 aR
 refine fw (.pointer (some ⟨ab g,ao g+(D2 d) *5,none⟩)) (F4 (kG) rfl rfl ((X.rds (i:=5) rfl).addr (i:=D2 d) e6) e6) (Ar rfl (Mz rfl (Mz rfl (Kz (.pointer (some ⟨ab g,ao g+(D2 d) *5,none⟩)) (Kz (.pointer (some ⟨ab g,ao g+(D2 d) *5+4,none⟩)) (fw (.slice b.av.A b.av.ls.length b.av.c) (F7 rfl (bX.one Tryz.isAgg58 (((X.rds (i:=5) rfl).elem aA.len U f3).at_ (k:=4) rfl))) (Kz (.func (.func 97) #[] #[vP bL 0]) ?_)))))))
 have dL:=X.pf [6]
 have bW:Own w D dJ (row b.av.A b.av.ls.length b.av.c (q6 (eI .i64) b.av.ls) 3 1::sepL (q6 aA.own (r5 (D2 d) h)++q6 aA.own (r6 (D2 d+1) h))::_):=GV (f:=aA.own) (i:=D2 d) U dL
 have eD:=bW.rowC (i:=0) rfl
 have dN:=bW.pf [0,2]
 obtain⟨j,aS⟩:∃ q,iq b.av.ls p=q:=⟨_,rfl⟩
 obtain⟨fB,bY,aF,bZ,eF⟩:=Gp dN
 refine cl Tryz.call96 (qW _ _ b.av.A b.av.ls.length b.av.c b.av.ls bL p au Y av Z ay aC aa j bY rfl e6 (aF _ bD) (show p.aF.ls.length≤Y∧p.aF.ls.length≤9223372036854775807 from by omega) aK (aF _ bH) (show p.ah.ls.length≤Z∧p.ah.ls.length≤9223372036854775807 from by omega) (fun x9 h9=>⟨aF _ (aL x9 h9).1,(aL x9 h9).2⟩) (aF _ bK) (show p.ag.ls.length≤aa∧p.ag.ls.length≤9223372036854775807 from by omega) e6 aS) ?_
 rintro _ dO ⟨r,s,rfl,cu,bu⟩
 have cz:=bZ _ _ cu
 have eG:=cz.rowC (i:=0) rfl
 replace bu:j.length≤b.av.ls.length:=bu
 refine Kz (.pointer (some ⟨ab g,ao g+(D2 d) *5,none⟩)) (Kz (.pointer (some ⟨ab g,ao g+(D2 d) *5+4,none⟩)) ?_)
 have dP:=cz.pf [0,2]
 have dQ:Own w D dO (sepL (q6 aA.own (u5 h (D2 d) (aA.mk b.aU b.aN b.ay b.aO (H3 r s j))))::_):=GL (f:=aA.own) (y:=(aA.mk b.aU b.aN b.ay b.aO (H3 r s j))) U dP
 have dS:=dQ.pf [6]
 refine G5 (Do.storeRow (vs:= [.slice r j.length s]) (o:=(D2 d) *5+4) (q:=ao g+(D2 d) *5+4) dS rfl e6 rfl Tryz.sizeOf58 rfl rfl (JO rfl) (iK aA.len U (JO rfl)) (jE (y:=(aA.mk b.aU b.aN b.ay b.aO (H3 r s j))) aA.len rfl (JO rfl) U) ?_)
 intro cB dU
 have eH:s2 (u5 h (D2 d) (aA.mk b.aU b.aN b.ay b.aO (H3 r s j)))=s2 (u5 a.aa.ak.ls (D2 d) (bJ.mk b.aU b.aN b.ay b.aO (E4 j))):=az (iB m rfl)
 have eO:s2 (u5 a.aa.ak.ls (D2 d) (bJ.mk b.aU b.aN b.ay b.aO (E4 j)))=a.aa.ak.ls.length:=H5
 refine nt (FW ?_)
 have aT:=dU.px [] [2] []
 refine FV (Mz rfl (Kz (.pointer (some ⟨ab g,ao g+(D2 d) *5,none⟩)) (Kz (.pointer (some ⟨ab g,ao g+(D2 d) *5+4,none⟩)) ?_)))
 obtain⟨V,aG⟩:=dK (ls:=(u5 h (D2 d) (aA.mk b.aU b.aN b.ay b.aO (H3 r s j)))) (i:=D2 d) aA.len f3 (aT.rds (i:=0) rfl) e9
 have bz:=fo (iB m rfl) aG
 have eP:V.av.ls.length≤V.av.c∧V.av.ls.length≤9223372036854775807:=aY aT (i:=1) rfl (φ:=fun _=>_) (ax (P2.2 ⟨V,E0 aG,b1⟩) aV)
 refine fw (.slice V.av.A V.av.ls.length V.av.c) (F7 rfl (bX.one Tryz.isAgg58 (((aT.rds (i:=0) rfl).elem aA.len aG f3).at_ (k:=4) rfl))) (Kz (vJ V.av.ls.length) (Kz (.bool (decide (((V.av.ls.length:Nat):Int)=0))) (nt ?_)))
 by_cases aX:((V.av.ls.length:Nat):Int)=0
 refine jT (dT aX) ?_
 have aU:a.aa.ak.ls.length=s2 (u5 a.aa.ak.ls (D2 d) (bJ.mk b.aU b.aN b.ay b.aO (E4 j))):=by first | omega | (simp only [H5]; done) | (simp only [H5,p5,s3,G0,p3,p4,H6]; omega)
 have dV:Own w D cB [row g (s2 (u5 a.aa.ak.ls (D2 d) (bJ.mk b.aU b.aN b.ay b.aO (E4 j)))) n (q6 aA.cells (u5 h (D2 d) (aA.mk b.aU b.aN b.ay b.aO (H3 r s j)))) 60 5,sepL (q6 aA.own (u5 h (D2 d) (aA.mk b.aU b.aN b.ay b.aO (H3 r s j)))),blk g0 [vP l 0, .slice u p0.bq.ls.length z] 98,row u p0.bq.ls.length z (q6 bC.cells t) 42 21,sepL (q6 bC.own t),blk l [vI a.aa.av,vU a.aa.ay,vU a.aa.aX,vU a.aa.aL, .slice C a.aa.ag.ls.length E, .slice g (s2 (u5 a.aa.ak.ls (D2 d) (bJ.mk b.aU b.aN b.ay b.aO (E4 j)))) n, .slice F a.aa.aJ.ls.length G,vU a.bP, .slice I a.au.ls.length J, .bool a.bH.cB,vU a.bH.aM,vI a.bH.dw, .slice K a.bH.af.ls.length L, .bool a.bf.cB,vU a.bf.aM,vI a.bf.dw, .slice M a.bf.af.ls.length N, .bool a.bi.cB,vU a.bi.aM,vI a.bi.dw, .slice O a.bi.af.ls.length P, .bool a.bn.cB,vU a.bn.aM,vI a.bn.dw, .slice Q a.bn.af.ls.length R, .bool a.aZ.cB,vU a.aZ.aM,vI a.aZ.dw, .slice S a.aZ.af.ls.length T,vU a.dI,vU a.dz,vU a.dB,vU a.dA,vU a.dC, .pointer none] 86]:=by rw [← aU]; exact aT
 have dW:=dV.pf [2,5]
 refine pJ [19] Gj dW ?_
 intro fC dX
 refine qv 0 rfl rfl (qp g0 0 1 rfl (qp g0 0 2 rfl (ql 3 rfl 0 O2 rfl rfl rfl (qv 4 rfl rfl (qp g0 0 5 rfl (qp g0 0 6 rfl (ql 7 rfl 0 O2 rfl rfl rfl (qp l 0 8 rfl (qp l 0 9 rfl (qp l 5 10 rfl (ql 11 rfl 1 D4 rfl rfl rfl (qv 12 rfl rfl (qv 13 rfl rfl (qt (v:=vI (d+1)) 14 rfl (fun _ _=>FX (e:=C7.wrap (d+1)) yk g2) ?_))))))))))))))
 have dY:=dX.pf [2,3]
 obtain⟨fD,cK,eQ,cO,eT⟩:=Gp dY
 refine qd 15 rfl (Gg Tryz.call98 rfl (vB _ _ g (s2 (u5 a.aa.ak.ls (D2 d) (bJ.mk b.aU b.aN b.ay b.aO (E4 j)))) n (u5 h (D2 d) (aA.mk b.aU b.aN b.ay b.aO (H3 r s j))) (u5 a.aa.ak.ls (D2 d) (bJ.mk b.aU b.aN b.ay b.aO (E4 j))) d (d+1) (D2 d) V cK e6 (iB m rfl) e6 e6 e6 aG) ?_)
 rintro _ fE ⟨cZ,df,rfl,dh⟩
 have dm:=cO _ _ dh
 have eU:s2 (r5 (D2 d) (u5 h (D2 d) (aA.mk b.aU b.aN b.ay b.aO (H3 r s j)))++r6 ((D2 d)+1) (u5 h (D2 d) (aA.mk b.aU b.aN b.ay b.aO (H3 r s j))))=s2 (r5 (D2 d) (u5 a.aa.ak.ls (D2 d) (bJ.mk b.aU b.aN b.ay b.aO (E4 j)))++r6 ((D2 d)+1) (u5 a.aa.ak.ls (D2 d) (bJ.mk b.aU b.aN b.ay b.aO (E4 j)))):=by exact az (o6 (iB m rfl))
 have eX:s2 (r5 (D2 d) (u5 a.aa.ak.ls (D2 d) (bJ.mk b.aU b.aN b.ay b.aO (E4 j)))++r6 ((D2 d)+1) (u5 a.aa.ak.ls (D2 d) (bJ.mk b.aU b.aN b.ay b.aO (E4 j))))+1=s2 (u5 a.aa.ak.ls (D2 d) (bJ.mk b.aU b.aN b.ay b.aO (E4 j))):=by simp only [p5,p3,p4]; omega
 have eY:=dm.rowC (i:=2) rfl
 have dn:=dm.pf [3,4]
 refine⟨.inr ⟨_,dn⟩, ?_⟩
 refine qp l 0 16 rfl (qp l 0 17 rfl (qp l 5 18 rfl ?_))
 have dZ:=dn.pf [1]
 refine qe 19 rfl (Do.store (vs:= [.slice cZ (s2 (r5 (D2 d) (u5 a.aa.ak.ls (D2 d) (bJ.mk b.aU b.aN b.ay b.aO (E4 j)))++r6 ((D2 d)+1) (u5 a.aa.ak.ls (D2 d) (bJ.mk b.aU b.aN b.ay b.aO (E4 j))))) df]) (o:=5) dZ rfl rfl Tryz.sizeOf30 rfl rfl rfl rfl ?_)
 intro fF d9
 refine⟨.inl e7, ?_⟩
 refine qn (Gh (res0 rfl) ?_)
 have ed:=d9.px [] [4] [0,2,3]
 obtain⟨rfl,rfl⟩:=gm (hr.symm.trans (show _=(p0,aB.mk (di.mk a.aa.av a.aa.ay a.aa.aX a.aa.aL (E4 a.aa.ag.ls) (E4 (r5 (D2 d) (u5 a.aa.ak.ls (D2 d) (bJ.mk b.aU b.aN b.ay b.aO (E4 j)))++r6 ((D2 d)+1) (u5 a.aa.ak.ls (D2 d) (bJ.mk b.aU b.aN b.ay b.aO (E4 j))))) (E4 a.aa.aJ.ls)) a.bP (E4 a.au.ls) a.bH a.bf a.bi a.bn a.aZ a.dI a.dz a.dB a.dA a.dC) from et (ai aD) (et (ip ag) (et (ai (bF aR)) (et (ai aS) (et (ai (bF bz)) (ip aX)))))))
 exact⟨u,z,t,cZ,df,(r5 (D2 d) (u5 h (D2 d) (aA.mk b.aU b.aN b.ay b.aO (H3 r s j)))++r6 ((D2 d)+1) (u5 h (D2 d) (aA.mk b.aU b.aN b.ay b.aO (H3 r s j)))),(by first | rfl | (rw [← aU]; done) | (rw [← aU]; rfl)),ed,W,(o6 (iB m rfl))⟩
 refine jF (dF aX) (Gn (Gh (res0 rfl) ?_))
 have ak:a.aa.ak.ls.length=s2 (u5 a.aa.ak.ls (D2 d) (bJ.mk b.aU b.aN b.ay b.aO (E4 j))):=by first | omega | (simp only [H5]; done) | (simp only [H5,p5,s3,G0,p3,p4,H6]; omega)
 have dw:Own w D cB [row g (s2 (u5 a.aa.ak.ls (D2 d) (bJ.mk b.aU b.aN b.ay b.aO (E4 j)))) n (q6 aA.cells (u5 h (D2 d) (aA.mk b.aU b.aN b.ay b.aO (H3 r s j)))) 60 5,sepL (q6 aA.own (u5 h (D2 d) (aA.mk b.aU b.aN b.ay b.aO (H3 r s j)))),blk g0 [vP l 0, .slice u p0.bq.ls.length z] 98,row u p0.bq.ls.length z (q6 bC.cells t) 42 21,sepL (q6 bC.own t),blk l [vI a.aa.av,vU a.aa.ay,vU a.aa.aX,vU a.aa.aL, .slice C a.aa.ag.ls.length E, .slice g (s2 (u5 a.aa.ak.ls (D2 d) (bJ.mk b.aU b.aN b.ay b.aO (E4 j)))) n, .slice F a.aa.aJ.ls.length G,vU a.bP, .slice I a.au.ls.length J, .bool a.bH.cB,vU a.bH.aM,vI a.bH.dw, .slice K a.bH.af.ls.length L, .bool a.bf.cB,vU a.bf.aM,vI a.bf.dw, .slice M a.bf.af.ls.length N, .bool a.bi.cB,vU a.bi.aM,vI a.bi.dw, .slice O a.bi.af.ls.length P, .bool a.bn.cB,vU a.bn.aM,vI a.bn.dw, .slice Q a.bn.af.ls.length R, .bool a.aZ.cB,vU a.aZ.aM,vI a.aZ.dw, .slice S a.aZ.af.ls.length T,vU a.dI,vU a.dz,vU a.dB,vU a.dA,vU a.dC, .pointer none] 86]:=by rw [← ak]; exact aT
 have dx:=dw.pb [0,1]
 obtain⟨rfl,rfl⟩:=gm (hr.symm.trans (show _=(p0,aB.mk (di.mk a.aa.av a.aa.ay a.aa.aX a.aa.aL (E4 a.aa.ag.ls) (E4 (u5 a.aa.ak.ls (D2 d) (bJ.mk b.aU b.aN b.ay b.aO (E4 j)))) (E4 a.aa.aJ.ls)) a.bP (E4 a.au.ls) a.bH a.bf a.bi a.bn a.aZ a.dI a.dz a.dB a.dA a.dC) from et (ai aD) (et (ip ag) (et (ai (bF aR)) (et (ai aS) (et (ai (bF bz)) (iN aX)))))))
 exact⟨u,z,t,g,n,(u5 h (D2 d) (aA.mk b.aU b.aN b.ay b.aO (H3 r s j))),(by first | rfl | (rw [← ak]; done) | (rw [← ak]; rfl)),dx,W,(iB m rfl)⟩
 have h39t:Bool.toNat af=0:=by rw [ag]; rfl
 refine jT (cn ag) (rt (tR (Fin.res (res0 rfl) ?_)))
 have dz:=X.px [] [0] []
 obtain⟨rfl,rfl⟩:=gm (hr.symm.trans (show _=(p0,a) from et (ai aD) (gB ag)))
 exact⟨u,z,t,g,n,h,rfl,dz,W,m⟩
def gp:List gq→List Int→(List Int)
  | [],a=>a
  | b::c,a=>gp c (a++ [b.dV])
def jQ (a:dD):(List Int):=
 bnd (gp a.aD.ls ([])) fun sLrL=>sLrL
theorem qN (w D L) (a:dD) (j l f g u n o p r B W) (H:Own w D w [blk L (BF a j l f g n o p r) 107]) (Z:Ro w D fun w'=>bA w' 6 j a.bO.ls.length (q6 bv.cells a.bO.ls)) (aa:a.bO.ls.length≤l∧a.bO.ls.length≤9223372036854775807) (C:s8 bD.abs u=a.aD.ls) (t:Ro w D fun w'=>bA w' 3 f a.aD.ls.length (q6 bD.cells u)) (af:a.aD.ls.length≤g∧a.aD.ls.length≤9223372036854775807) (E:∀ x ∈ u,Ro w D (fun w'=>bA w' 6 x.aF.A x.aF.ls.length (q6 bv.cells x.aF.ls))∧(x.aF.ls.length≤x.aF.c∧x.aF.ls.length≤9223372036854775807)∧Ro w D (fun w'=>bA w' 1 x.aH.A x.aH.ls.length (q6 (eI .i64) x.aH.ls))∧(x.aH.ls.length≤x.aH.c∧x.aH.ls.length≤9223372036854775807)) (ag:Ro w D fun w'=>bA w' 1 n a.bB.ls.length (q6 eL a.bB.ls)) (ah:a.bB.ls.length≤o∧a.bB.ls.length≤9223372036854775807) (M:s8 bK.abs B=a.af.ls) (aj:Ro w D fun w'=>bA w' 1 p a.af.ls.length (q6 (GD (β:=ae)) B)) (ak:a.af.ls.length≤r∧a.af.ls.length≤9223372036854775807) (au:∀ x ∈ B,Ro w D (fun w'=>bA w' 3 x.A x.ls.length (q6 ae.cells x.ls))∧(x.ls.length≤x.c∧x.ls.length≤9223372036854775807)∧(∀ O ∈ x.ls,Ro w D (fun w'=>bA w' 2 O.aj.A O.aj.ls.length (q6 aI.cells O.aj.ls))∧(O.aj.ls.length≤O.aj.c∧O.aj.ls.length≤9223372036854775807))) (aS:a.aD.ls.length≤1000) (hr:jQ a=W):
    Calls y4 107 #[vP L 0] w (dR fun v w'=> ∃ B0 b0,v= .slice B0 W.length b0∧Own w D w' [row B0 W.length b0 (q6 (eI .i64) W) 3 1,blk L (BF a j l f g n o p r) 107]):=by
 have X:=az C
 have Y:=az M
 refine cb Tryz.func107 ?_
 refine sr (Ar rfl (An rfl (FW (sr (Mz rfl (Kz (vP L 0) (Kz (vP L 5) (Lz (.slice f a.aD.ls.length g) H 0 Tryz.isAgg103 (Kz (vJ a.aD.ls.length) (Mn rfl (bo ?_)))))))))))
 have av:Own w D w [row none 0 0 (q6 (eI .i64) ([])) 3 1,blk L (BF a j l f g n o p r) 107]:=H.free (fB 3 1)
 have ax:=av.pb [0]
 obtain⟨ay,F⟩:=rZ fun I (J:Nat) d (b:Nat) w'=>Own w D w' [blk L (BF a j l f g n o p r) 107,row I d.length J (q6 (eI .i64) d) 3 1]∧b≤a.aD.ls.length∧d.length=b∧d.length≤b∧gp a.aD.ls ([])=gp (r6 b a.aD.ls) d
 refine C5 (fun i:(Option Addr) × Nat × (List Int) × Nat=> [(3, .slice i.1 i.2.2.1.length i.2.1),(11,vJ i.2.2.2),(10,vJ a.aD.ls.length),(9, .slice f a.aD.ls.length g),(2, .slice none 0 0)]) ay (fun i=>a.aD.ls.length - i.2.2.2) (none,0, [],0) ⟨rfl,rfl,rfl,rfl,rfl,trivial⟩ (F.2 ⟨ax,(show 0≤a.aD.ls.length∧0=0∧0≤0∧gp a.aD.ls ([])=gp (r6 0 a.aD.ls) ([]) from ⟨e6,e6,e6,rfl⟩)⟩) ?_
 rintro ⟨I,J,d,b⟩ aT P
 obtain⟨G,aM,aN,aO,K⟩:=F.1 P
 refine sr (Kz (.bool (decide (((b:Nat):Int) < ((a.aD.ls.length:Nat):Int)))) (nt (FW ?_)))
 by_cases Q:((b:Nat):Int) < ((a.aD.ls.length:Nat):Int)
 obtain⟨h,z⟩:=dK (ls:=u) (i:=b) bD.len f3 (G.ro t) e9
 have R:=fo C z
 have aP:=(E _ (E0 z)).2.1
 have aQ:=(E _ (E0 z)).2.2.2
 have S:=drop_at R
 refine jT (dT Q) (sk (FW (bo (sr (fw (.pointer (some ⟨ab f,ao f+b *3,none⟩)) (F4 (tK) rfl rfl ((G.ro t).addr (i:=b) e6) e6) (fw (.agg (bD.cells h).toArray) (F7 rfl (Gf (cs:=(bD.cells h)) Tryz.isAgg172 Tryz.sizeOf172 ((G.ro t).elem bD.len z f3))) ?_))))))
 refine dM [vI 0, .slice none 0 0, .slice none 0 0] 172 G ?_
 intro aA aU aB
 refine dN (bD.cells h) 0 aB Tryz.sizeOf172 ?_
 intro aV T
 refine nt (FV (Mz rfl (Kz (vP aA 0) (Lz (vI h.dV) T 0 C6 ?_))))
 refine kL [vI h.dV] 3 1 1 T ?_
 intro aC aW N
 replace N:=Gs (y:=row aC 1 1 (q6 (eI .i64) ([h.dV])) 3 1) rfl N
 have U:=N.pf [3]
 refine WL.do rfl (Gt (k:=d.length) (m:=1) (nk) U rfl rfl (iU Tryz.underlying58 (U.rds (i:=1) rfl) (fF uX ([h.dV]))) rfl e6 (s:=s2 (d++ [h.dV])) f7 (List.flatMap_append).symm ?_)
 intro aD aF aX aG
 have aR:s2 (d++ [h.dV])=d.length+1:=by simp only [p5,s3,G0]
 refine Az rfl (D0 (bN (FY (FV (fw (vJ (b+1)) (FX (e:=C7.wrap (((b:Nat):Int)+1)) yk f1) (Mz rfl (D0 ?_)))))))
 have aH:=aG.pk [3,0]
 exact Gc (aD,aF,(d++ [h.dV]),b+1) ⟨rfl,rfl,rfl,rfl,rfl,trivial⟩ (F.2 ⟨aH,e6,e6,e6,et (K) (et (congrArg (fun q=>gp q d) S) rfl)⟩) (by show a.aD.ls.length - (b+1) < a.aD.ls.length - b; omega)
 refine jF (dF Q) (D1 (F6 ?_))
 have V:gp a.aD.ls ([])=d:=et (K) (et (congrArg (fun q=>gp q d) (eZ (ls:=a.aD.ls) (i:=b) e6)) rfl)
 refine F6 (Gi (FY (sr (Mz rfl (An rfl (rt (rs ?_)))))))
 have aJ:=G.pb [0]
 obtain rfl:_=d:=hr.symm.trans (ai V)
 exact⟨I,J,rfl,aJ⟩
theorem Ab:∀ (l:List gq) (o:List Int),s2 (gp l o)=o.length+l.length
  | [],o=>rfl
  | x::q,o=>by
    simp only [gp]
    rw [Ab q]
    simp only [p5,s3,G0]; omega
theorem xS {x:dD} {r:List Int} (h:jQ x=r):r.length=x.aD.ls.length:=by
 rw [← h]; exact(Ab x.aD.ls []).trans (Nat.zero_add _)
def eH (g:bE) (f:Int) (a:aB):bE × aB:=
 bnd (C2 a.au.ls (D2 f) default) fun c=>bnd (dh g c.aK c.aM 2 ([]) (aB.mk a.aa a.bP (E4 (r5 (D2 f) a.au.ls++r6 ((D2 f)+1) a.au.ls)) a.bH a.bf a.bi a.bn a.aZ a.dI a.dz a.dB a.dA a.dC)) fun b=>bnd (jQ (dD.mk c.aR c.aK c.aM c.cz (E4 c.bO.ls) (E4 c.aD.ls) (E4 c.bB.ls) (E4 c.af.ls) c.dO)) fun d=>bnd (eG b.1 c.aR d false) fun e=>(e,aB.mk (di.mk b.2.aa.av b.2.aa.ay b.2.aa.aX b.2.aa.aL (E4 a.aa.ag.ls) (E4 a.aa.ak.ls) (E4 a.aa.aJ.ls)) b.2.bP (E4 (r5 (D2 f) a.au.ls++r6 ((D2 f)+1) a.au.ls)) b.2.bH b.2.bf b.2.bi b.2.bn b.2.aZ b.2.dI b.2.dz b.2.dB b.2.dA b.2.dC)
set_option maxHeartbeats 4000000 in
theorem mR (w D g0) (p0:bE) (aF aG aC m g) (a:aB) (z B C E F G k p d I J r K L s M N t O P u Q R x) (r0:bE) (f:aB) (H:Own w D w [blk g0 [.pointer (some ⟨g,0,none⟩), .slice aF p0.bq.ls.length aG] 98,row aF p0.bq.ls.length aG (q6 bC.cells aC) 42 21,sepL (q6 bC.own aC),mK g a z a.aa.ag.ls.length B C E F G k p I J K L M N O P Q R,row k a.au.ls.length p (q6 bz.cells d) 107 9,sepL (q6 bz.own d),row I a.bH.af.ls.length J (q6 ae.cells r) 149 3,sepL (q6 ae.own r),row K a.bf.af.ls.length L (q6 ae.cells s) 149 3,sepL (q6 ae.own s),row M a.bi.af.ls.length N (q6 ae.cells t) 149 3,sepL (q6 ae.own t),row O a.bn.af.ls.length P (q6 ae.cells u) 149 3,sepL (q6 ae.own u),row Q a.aZ.af.ls.length R (q6 ae.cells x) 149 3,sepL (q6 ae.own x)]) (aH:s8 bC.abs aC=p0.bq.ls) (h:s8 bz.abs d=a.au.ls) (S:s8 ae.abs r=a.bH.af.ls) (T:s8 ae.abs s=a.bf.af.ls) (U:s8 ae.abs t=a.bi.af.ls) (V:s8 ae.abs u=a.bn.af.ls) (W:s8 ae.abs x=a.aZ.af.ls) (iU:a.aa.ag.ls.length≤1000∧a.aa.ak.ls.length≤1000∧a.aa.aJ.ls.length≤1000∧a.au.ls.length≤1000∧p0.bq.ls.length≤100000) (iV:Ak a.au.ls) (iW:0≤m∧m < ((a.au.ls.length:Nat):Int)) (hr:eH p0 m a=(r0,f)):
    Calls y4 63 #[vP g0 0,vI m] w (dR fun v w'=> ∃ aI aJ Z aK aL aa aM aN af aO aQ ag aR aS ah aT aU aj aW aX ak,v= .tuple #[]∧Own w D w' [blk g0 [vP g 0, .slice aI r0.bq.ls.length aJ] 98,row aI r0.bq.ls.length aJ (q6 bC.cells Z) 42 21,sepL (q6 bC.own Z),blk g [vI f.aa.av,vU f.aa.ay,vU f.aa.aX,vU f.aa.aL, .slice z a.aa.ag.ls.length B, .slice C a.aa.ak.ls.length E, .slice F a.aa.aJ.ls.length G,vU f.bP, .slice aK f.au.ls.length aL, .bool f.bH.cB,vU f.bH.aM,vI f.bH.dw, .slice aM f.bH.af.ls.length aN, .bool f.bf.cB,vU f.bf.aM,vI f.bf.dw, .slice aO f.bf.af.ls.length aQ, .bool f.bi.cB,vU f.bi.aM,vI f.bi.dw, .slice aR f.bi.af.ls.length aS, .bool f.bn.cB,vU f.bn.aM,vI f.bn.dw, .slice aT f.bn.af.ls.length aU, .bool f.aZ.cB,vU f.aZ.aM,vI f.aZ.dw, .slice aW f.aZ.af.ls.length aX,vU f.dI,vU f.dz,vU f.dB,vU f.dA,vU f.dC, .pointer none] 86,row aK f.au.ls.length aL (q6 bz.cells aa) 107 9,sepL (q6 bz.own aa),row aM f.bH.af.ls.length aN (q6 ae.cells af) 149 3,sepL (q6 ae.own af),row aO f.bf.af.ls.length aQ (q6 ae.cells ag) 149 3,sepL (q6 ae.own ag),row aR f.bi.af.ls.length aS (q6 ae.cells ah) 149 3,sepL (q6 ae.own ah),row aT f.bn.af.ls.length aU (q6 ae.cells aj) 149 3,sepL (q6 ae.own aj),row aW f.aZ.af.ls.length aX (q6 ae.cells ak) 149 3,sepL (q6 ae.own ak)]∧(s8 bC.abs Z=r0.bq.ls)∧(s8 bz.abs aa=f.au.ls)∧(s8 ae.abs af=f.bH.af.ls)∧(s8 ae.abs ag=f.bf.af.ls)∧(s8 ae.abs ah=f.bi.af.ls)∧(s8 ae.abs aj=f.bn.af.ls)∧(s8 ae.abs ak=f.aZ.af.ls)):=by
 have fq:=az aH
 have cZ:=az h
 have df:=az S
 have dm:=az T
 have dn:=az U
 have dw:=az V
 have dx:=az W
 have fu:=H.rowC (i:=1) rfl
 have dz:=H.rowC (i:=4) rfl
 have dA:=H.rowC (i:=6) rfl
 have dB:=H.rowC (i:=8) rfl
 have dC:=H.rowC (i:=10) rfl
 have dE:=H.rowC (i:=12) rfl
 have dF:=H.rowC (i:=14) rfl
 refine cb Tryz.func63 ?_
 refine sr (Mz rfl (Kz (vP g0 0) (Kz (vP g0 0) (Lz (vP g 0) H 0 O2 (Kz (vP g 0) (Kz (vP g 8) (Lz (.slice k a.au.ls.length p) H 3 P0 (fw (vJ (D2 m)) (FX (e:=m) (F9 rfl) e6) ?_))))))))
 obtain⟨b,y⟩:=dK (ls:=d) (i:=D2 m) bz.len f3 (H.rds (i:=4) rfl) e9
 have bN:=fo h y
 have gZ:b.bO.ls.length≤b.bO.c∧b.bO.ls.length≤9223372036854775807:=aY H (i:=5) rfl (φ:=fun _=>_) (ax (P2.2 ⟨b,E0 y,b1⟩) aV)
 have ib:b.aD.ls.length≤b.aD.c∧b.aD.ls.length≤9223372036854775807:=aY H (i:=5) rfl (φ:=fun _=>_) (ax (P2.2 ⟨b,E0 y, .tail _ b1⟩) aV)
 have ic:b.bB.ls.length≤b.bB.c∧b.bB.ls.length≤9223372036854775807:=aY H (i:=5) rfl (φ:=fun _=>_) (ax (P2.2 ⟨b,E0 y, .tail _ b2⟩) aV)
 have ig:b.af.ls.length≤b.af.c∧b.af.ls.length≤9223372036854775807:=aY H (i:=5) rfl (φ:=fun _=>_) (ax (P2.2 ⟨b,E0 y, .tail _ b3⟩) aV)
 have X:Tok (bz.abs b):=xP f8 bN
 have ik:1≤b.aK∧b.aK≤4:=X.Av
 have il:b.bB.ls.length=b.aD.ls.length:=by have q9:=X.yes; simp only [bz.abs,s6] at q9; exact q9
 have iq:b.af.ls.length=b.aD.ls.length:=by have q9:=X.res; simp only [bz.abs,s6] at q9; exact q9
 have iw:b.aD.ls.length≤5:=by have q9:=X.len; simp only [bz.abs,s6] at q9; exact q9
 have iy:b.bO.ls.length≤24:=X.ops.1
 refine fw (.pointer (some ⟨ab k,ao k+(D2 m) *9,none⟩)) (F4 (pu) rfl rfl ((H.rds (i:=4) rfl).addr (i:=D2 m) e6) e6) (fw (.agg (bz.cells b).toArray) (F7 rfl (Gf (cs:=(bz.cells b)) O8 O9 ((H.rds (i:=4) rfl).elem bz.len y f3))) ?_)
 refine dM (qR 0 0 0 0 none 0 0 none 0 0 none 0 0 none 0 0 0) 107 H ?_
 intro bI iX fA
 refine dN (bz.cells b) 0 fA O9 ?_
 intro iY fB
 refine nt (FW ?_)
 have fC:=fB.pf [1,4]
 refine pJ [17] (Gb Gj) fC ?_
 intro iZ fD
 refine qv 0 rfl rfl (qp g0 0 1 rfl (qp g0 0 2 rfl (ql 3 rfl 0 O2 rfl rfl rfl (qv 4 rfl rfl (qp g0 0 5 rfl (qp g0 0 6 rfl (ql 7 rfl 0 O2 rfl rfl rfl (qp g 0 8 rfl (qp g 8 9 rfl (ql 10 rfl 1 P0 rfl rfl rfl (qv 11 rfl rfl (qv 12 rfl rfl (qt (v:=vI (m+1)) 13 rfl (fun _ _=>FX (e:=C7.wrap (m+1)) yk g2) ?_)))))))))))))
 have fE:=fD.pf [5,6]
 obtain⟨ja,dG,iA,dH,iB⟩:=Gp fE
 refine qd 14 rfl (Gg Tryz.call105 rfl (uS _ _ k a.au.ls.length p d a.au.ls m (m+1) (D2 m) b dG e6 h e6 e6 e6 y) ?_)
 rintro _ jb ⟨bV,bW,rfl,dI⟩
 have aZ:=dH _ _ dI
 have iC:s2 (r5 (D2 m) d++r6 ((D2 m)+1) d)=s2 (r5 (D2 m) a.au.ls++r6 ((D2 m)+1) a.au.ls):=by exact az (o6 h)
 have iD:s2 (r5 (D2 m) a.au.ls++r6 ((D2 m)+1) a.au.ls)+1=a.au.ls.length:=by simp only [p5,p3,p4]; omega
 have iE:b.aD.ls.length=s2 (s8 bD.abs b.aD.ls):=by exact(s6 _).symm
 have iF:b.af.ls.length=s2 (s8 bK.abs b.af.ls):=by exact(s6 _).symm
 have iG:=aZ.rowC (i:=2) rfl
 have iH:=aZ.rowC (i:=3) rfl
 have iI:=aZ.rowC (i:=4) rfl
 have iJ:=aZ.rowC (i:=5) rfl
 have dJ:=aZ.pf [8,9]
 refine⟨.inr ⟨_,dJ⟩, ?_⟩
 refine qp g 0 15 rfl (qp g 8 16 rfl ?_)
 have fF:=dJ.pf [1]
 refine qe 17 rfl (Do.store (vs:= [.slice bV (s2 (r5 (D2 m) a.au.ls++r6 ((D2 m)+1) a.au.ls)) bW]) (o:=8) fF rfl rfl Tryz.sizeOf79 rfl rfl rfl rfl ?_)
 intro jc bX
 refine⟨.inl e7, ?_⟩
 refine qn (FY (sr (Mz rfl (Kz (vP bI 1) (Lz (vI b.aK) bX 10 C6 (Kz (vP bI 2) (Lz (vU b.aM) bX 10 E1 ?_)))))))
 have fG:=bX.px [1,11,12] [] [2,3,4,5,6,7,8,9,10]
 obtain⟨⟨bJ,l⟩,bO⟩:∃ q:bE × aB,dh p0 b.aK b.aM 2 ([]) (aB.mk a.aa a.bP (E4 (r5 (D2 m) a.au.ls++r6 ((D2 m)+1) a.au.ls)) a.bH a.bf a.bi a.bn a.aZ a.dI a.dz a.dB a.dA a.dC)=q:=⟨_,rfl⟩
 obtain⟨jd,dL,iK,dO,iL⟩:=GR fG
 refine cl Tryz.call106 (jP _ _ g0 p0 aF aG aC b.aK b.aM 2 none 0 0 [] ([]) g (aB.mk a.aa a.bP (E4 (r5 (D2 m) a.au.ls++r6 ((D2 m)+1) a.au.ls)) a.bH a.bf a.bi a.bn a.aZ a.dI a.dz a.dB a.dA a.dC) z B C E F G bV bW I J r K L s M N t O P u Q R x bJ l dL aH rfl (fun _ _=>bA.nil _ _ _) (fun _ h9=>absurd h9 List.not_mem_nil) rfl i8 g6 S T U V W e8 g3 g3 i2 bO) ?_
 rintro _ je ⟨fH,fI,fJ,fK,fM,fO,fP,fQ,dP,fT,fU,dQ,fV,fZ,dS,gp,gq,dU,rfl,dV,bP,bg,bi,bn,bq,bu,bv⟩
 have au:=dO _ _ dV
 have gu:=az bP
 have gy:=az bg
 have gz:=az bi
 have gB:=az bn
 have gD:=az bq
 have gF:=az bu
 have gG:=au.rowC (i:=1) rfl
 have gH:=au.rowC (i:=4) rfl
 have gI:=au.rowC (i:=6) rfl
 have gJ:=au.rowC (i:=8) rfl
 have gK:=au.rowC (i:=10) rfl
 have gL:=au.rowC (i:=12) rfl
 replace bv:bJ.bq.ls.length=p0.bq.ls.length+1:=bv
 refine nt ?_
 have av:b.aD.ls.length=s2 (s8 bD.abs b.aD.ls):=by first | omega | (simp only [H5]; done) | (simp only [H5,p5,s3,G0,p3,p4,H6]; omega)
 have dW:=au.pf [17]
 have dX:=GI av dW
 have dY:=dX.pf [22]
 have dZ:=G7 5 av dY
 have d9:=dZ.pb [1,19,20,21,22,0]
 have ay:b.af.ls.length=s2 (s8 bK.abs b.af.ls):=by first | omega | (simp only [H5]; done) | (simp only [H5,p5,s3,G0,p3,p4,H6]; omega)
 have ed:=d9.pf [19]
 have ek:=GI ay ed
 have eu:=ek.pf [22]
 have eB:=G7 7 ay eu
 have eD:=eB.pb [1,21,22,0]
 have eF:=eD.pf [0,3]
 refine pJ [4] Gj eF ?_
 intro iM eO
 refine qv 0 rfl rfl (qp bI 0 1 rfl ?_)
 have bQ:=eO.pf [0,1,22]
 refine AY bQ (ql 2 rfl 2 E1 rfl rfl rfl ?_)
 have n:=bQ.pf [2]
 have gM:=n.rowC (i:=17) rfl
 have gN:=n.rowC (i:=18) rfl
 have gP:=n.rowC (i:=19) rfl
 have gQ:=n.rowC (i:=20) rfl
 obtain⟨Y,aA⟩:∃ q,jQ (dD.mk b.aR b.aK b.aM b.cz (E4 b.bO.ls) (E4 (s8 bD.abs b.aD.ls)) (E4 b.bB.ls) (E4 (s8 bK.abs b.af.ls)) b.dO)=q:=⟨_,rfl⟩
 obtain⟨iN,bY,gT,bZ,j⟩:=Gq n
 refine qd 3 rfl (Gg Tryz.call107 rfl (qN _ _ bI (dD.mk b.aR b.aK b.aM b.cz (E4 b.bO.ls) (E4 (s8 bD.abs b.aD.ls)) (E4 b.bB.ls) (E4 (s8 bK.abs b.af.ls)) b.dO) b.bO.A b.bO.c b.aD.A b.aD.c b.aD.ls b.bB.A b.bB.c b.af.A b.af.c b.af.ls Y bY (j _ 16 _ rfl aP) (show b.bO.ls.length≤b.bO.c∧b.bO.ls.length≤9223372036854775807 from by omega) (rfl:s8 bD.abs b.aD.ls=s8 bD.abs b.aD.ls) (j _ 17 _ rfl aP) (show s2 (s8 bD.abs b.aD.ls)≤b.aD.c∧s2 (s8 bD.abs b.aD.ls)≤9223372036854775807 from by omega) (fun x9 h9=>⟨j _ 20 _ rfl (ax (P2.2 ⟨x9,h9,b1⟩) aP),aY (φ:=fun _=>_) n (i:=21) rfl (ax (P2.2 ⟨x9,h9,b1⟩) aV),j _ 20 _ rfl (ax (P2.2 ⟨x9,h9, .tail _ b1⟩) aP),aY (φ:=fun _=>_) n (i:=21) rfl (ax (P2.2 ⟨x9,h9, .tail _ b1⟩) aV)⟩) (j _ 18 _ rfl aP) (show b.bB.ls.length≤b.bB.c∧b.bB.ls.length≤9223372036854775807 from by omega) (rfl:s8 bK.abs b.af.ls=s8 bK.abs b.af.ls) (j _ 19 _ rfl aP) (show s2 (s8 bK.abs b.af.ls)≤b.af.c∧s2 (s8 bK.abs b.af.ls)≤9223372036854775807 from by omega) (fun x9 h9=>⟨j _ 21 _ rfl (ax (P2.2 ⟨x9,h9,b1⟩) aP),aY (φ:=fun _=>_) n (i:=22) rfl (ax (P2.2 ⟨x9,h9,b1⟩) aV),(fun y1 k1=>⟨j _ 21 _ rfl (ax (P2.2 ⟨x9,h9, .tail _ b1⟩) (ax (P2.2 ⟨y1,k1,b1⟩) aP)),aY (φ:=fun _=>_) n (i:=22) rfl (ax (P2.2 ⟨x9,h9, .tail _ b1⟩) (ax (P2.2 ⟨y1,k1,b1⟩) aV))⟩)⟩) e8 aA) ?_)
 rintro _ iQ ⟨eP,eQ,rfl,cu⟩
 have bR:=bZ _ _ cu
 have gU:=bR.rowC (i:=0) rfl
 have gV:Y.length≤5:=by have q9:=xS aA; simp only [s6] at q9; omega
 have bS:=bR.pf [2,3,1]
 refine⟨.inr ⟨_,bS⟩, ?_⟩
 have eT:=bS.pf [0,4,5]
 obtain⟨bT,bB⟩:∃ q,eG bJ b.aR Y false=q:=⟨_,rfl⟩
 obtain⟨iR,cz,gW,cB,cK⟩:=Gx eT
 refine qd 4 rfl (Gg P1 rfl (kF _ _ g0 bJ fH fI fJ g b.aR eP Y.length eQ Y false bT cz bP (cK _ 2 _ rfl aP) rfl e6 g7 bB) ?_)
 rintro _ iT ⟨eU,eX,eY,rfl,cO,bG⟩
 have bU:=cB _ _ cO
 have gX:=az bG
 have gY:=bU.rowC (i:=1) rfl
 refine⟨.inl e7, ?_⟩
 refine qn (Gh (res0 rfl) ?_)
 have eZ:=bU.px [0,1,2,3,16,17] [4,5,18,19,20,21,22,23] []
 obtain⟨rfl,rfl⟩:=gm (hr.symm.trans (show _=(bT,aB.mk (di.mk l.aa.av l.aa.ay l.aa.aX l.aa.aL (E4 a.aa.ag.ls) (E4 a.aa.ak.ls) (E4 a.aa.aJ.ls)) l.bP (E4 (r5 (D2 m) a.au.ls++r6 ((D2 m)+1) a.au.ls)) l.bH l.bf l.bi l.bn l.aZ l.dI l.dz l.dB l.dA l.dC) from et (ai (bF bN)) (et (ai bO) (et (ai aA) (ai bB)))))
 exact⟨eU,eX,eY,bV,bW,(r5 (D2 m) d++r6 ((D2 m)+1) d),fK,fM,fO,fP,fQ,dP,fT,fU,dQ,fV,fZ,dS,gp,gq,dU,(by(first | rw [← av] | skip); (first | rw [← ay] | skip); first | done | rfl),eZ,bG,(o6 h),bg,bi,bn,bq,bu⟩
end Go.Proofs.YtbkagebjhbphaaaGreat
