/-
 coord: asked, acknowledged, given up.
-/
import Derived.Test.YtbkagebjhbphaaaGreatCc
namespace Go.Proofs.YtbkagebjhbphaaaGreat
open Int renaming toNat→D2
open IntKind renaming i64→C7
open List renaming drop→r6,flatMap→q6,getD→C2,length→s2,length_append→p5,length_cons→s3,length_drop→p4,length_map→s6,length_nil→G1,length_replicate→H7,length_set→H6,length_take→p3,map→s8,mem_flatMap→P3,mem_of_getElem?→E0,set→u5,take→r5
open Ll renaming mk→E4
open Sv renaming mk→H5
open _root_.Go.Proofs.Tryz renaming call104→O8,call27→P2,isAgg107→O9,isAgg24→O3,isAgg28→E1,isAgg3→C6,isAgg30→D4,isAgg79→P1,prog→y4,sizeOf107→P0
open WL renaming nil→D0
open Wp renaming exit→D1,loop→C5
set_option maxRecDepth 100000
open Go.RowKit
set_option linter.unusedVariables false
set_option linter.unusedSectionVars false
set_option linter.unusedSimpArgs false
def lL (a:Nat):Bool:=
 false
theorem qK (w:World) (D:Nat→Prop) (a:Nat) (c:Bool) (H:Own w D w []) (hr:lL a=c):
    Calls y4 136 #[vU a] w (dR fun v w'=>v= .bool c∧Own w D w' []):=by
 refine cb Tryz.func136 ?_
 refine sr (Ar rfl (Mz rfl (Mz rfl (fw (.bool false) (Gi (e:= !(decide (((a:Nat):Int)=((a:Nat):Int)))) yk i8) (An rfl (rt (rs ?_)))))))
 have b:=H.pk []
 obtain rfl:_=false:=hr.symm.trans rfl
 exact⟨rfl,b⟩
def ib (c:Nat) (d:Nat):Int:=
 bnd (lL c) fun b=>bnd (lL d) fun a=>if b=true then if a=true then 0 else(-1) else if a=true then 1 else if((c:Nat):Int) < ((d:Nat):Int) then(-1) else if((c:Nat):Int) > ((d:Nat):Int) then 1 else 0
theorem lW (w:World) (D:Nat→Prop) (i:Nat) (j:Nat) (C:Int) (H:Own w D w []) (hr:ib i j=C):
    Calls y4 104 #[vU i,vU j] w (dR fun v w'=>v=vI C∧Own w D w' []):=by
 refine cb Tryz.func104 ?_
 refine sr (Ar rfl (Mz rfl ?_))
 obtain⟨l,a⟩:∃ q,lL i=q:=⟨_,rfl⟩
 obtain⟨J,m,E,n,F⟩:=FY H
 refine cl Tryz.call136 (qK _ _ i l m a) ?_
 rintro _ K ⟨rfl,o⟩
 have t:=n _ _ o
 refine Ar rfl (Mz rfl ?_)
 obtain⟨k,b⟩:∃ q,lL j=q:=⟨_,rfl⟩
 obtain⟨L,p,G,r,I⟩:=FY t
 refine cl Tryz.call136 (qK _ _ j k p b) ?_
 rintro _ M ⟨rfl,s⟩
 have e:=r _ _ s
 refine An rfl (FU (sr (Mn rfl ?_)))
 rcases JQ (l) with c | c
 refine jT c (FU (sr (Mn rfl ?_)))
 rcases JQ (k) with f | f
 refine jT f (sr (An rfl (rt (tR (tR (rs ?_))))))
 have u:=e.pk []
 obtain rfl:_=0:=hr.symm.trans (et (ai a) (et (ai b) (et (ip c) (ip f))))
 exact⟨rfl,u⟩
 refine jF f (sk (sr (An rfl (rt (tR (rs ?_))))))
 have x:=e.pk []
 obtain rfl:_=(-1):=hr.symm.trans (et (ai a) (et (ai b) (et (ip c) (gB f))))
 exact⟨rfl,x⟩
 refine jF c (sk (FU (sr (Mn rfl ?_))))
 rcases JQ (k) with d | d
 refine jT d (sr (An rfl (rt (tR (rs ?_)))))
 have y:=e.pk []
 obtain rfl:_=1:=hr.symm.trans (et (ai a) (et (ai b) (et (gB c) (ip d))))
 exact⟨rfl,y⟩
 refine jF d (sk (FU (sr (Mz rfl (Mz rfl (Kz (.bool (decide (((i:Nat):Int) < ((j:Nat):Int)))) (nt ?_)))))))
 by_cases g:((i:Nat):Int) < ((j:Nat):Int)
 refine jT (dT g) (sr (An rfl (rt (tR (rs ?_)))))
 have z:=e.pk []
 obtain rfl:_=(-1):=hr.symm.trans (et (ai a) (et (ai b) (et (gB c) (et (gB d) (ip g)))))
 exact⟨rfl,z⟩
 refine jF (dF g) (sk (FU (sr (Mz rfl (Mz rfl (Kz (.bool (decide (((i:Nat):Int) > ((j:Nat):Int)))) (nt ?_)))))))
 by_cases h:((i:Nat):Int) > ((j:Nat):Int)
 refine jT (dT h) (sr (An rfl (rt (tR (rs ?_)))))
 have A:=e.pk []
 obtain rfl:_=1:=hr.symm.trans (et (ai a) (et (ai b) (et (gB c) (et (gB d) (et (iN g) (ip h))))))
 exact⟨rfl,A⟩
 refine jF (dF h) (sk (sr (An rfl (rt (rs ?_)))))
 have B:=e.pk []
 obtain rfl:_=0:=hr.symm.trans (et (ai a) (et (ai b) (et (gB c) (et (gB d) (et (iN g) (iN h))))))
 exact⟨rfl,B⟩
def dH (l0:List bM) (f:Nat):Nat→Nat→Nat→Nat
  | 0,a,b=>default
  | c+1,a,b=>if((a:Nat):Int) < ((b:Nat):Int) then bnd (C2 l0 ((a+b) / 2) default) fun d=>bnd (ib d.bi f) fun e=>if e < 0 then dH l0 f c (((a+b) / 2)+1) b else dH l0 f c a ((a+b) / 2) else a
def bT (l0:List bM) (c:Nat):Int × Bool:=
 bnd (dH l0 c ((l0.length - 0)+1) 0 l0.length) fun sLrL=>if((sLrL:Nat):Int) < ((l0.length:Nat):Int) then bnd (C2 l0 sLrL default) fun a=>bnd (ib a.bi c) fun b=>(((sLrL:Nat):Int),decide (b=0)) else(((sLrL:Nat):Int),false)
theorem gW (w:World) (D:Nat→Prop) (y:Option Addr) (Y X:Nat) (d0:List aA) (l0:List bM) (n:Nat) (J:Int) (Z:Bool) (H:Own w D w []) (G:s8 aA.abs d0=l0) (h:Ro w D fun w'=>bD w' 5 y Y (q6 aA.cells d0)) (K:∀ x ∈ d0,Ro w D (fun w'=>bD w' 1 x.av.A x.av.ls.length (q6 (eI .i64) x.av.ls))∧(x.av.ls.length≤x.av.c∧x.av.ls.length≤9223372036854775807)) (aa:Y=l0.length) (aL:l0.length *56≤211106232532992) (hr:bT l0 n=(J,Z)):
    Calls y4 132 #[.slice y Y X,vU n, .func (.func 133) #[] #[]] w (dR fun v w'=>v= .tuple #[vI J, .bool Z]∧Own w D w' []∧(0≤J∧J≤((l0.length:Nat):Int))∧(Bool.toNat Z=0∨J < ((l0.length:Nat):Int))):=by
 subst aa
 have ay:=az G
 refine cb Tryz.func132 ?_
 refine sr (Az rfl (Ar rfl (Mz rfl (Kz (vJ l0.length) (Ar rfl (Mz rfl (Az rfl (An rfl (FU (bo ?_))))))))))
 have ae:=H.pk []
 obtain⟨af,g⟩:=qI fun(a:Nat) (b:Nat) (o:Nat) (w':World)=>Own w D w' []∧a≤b∧b≤l0.length∧b - a < o∧dH l0 n ((l0.length - 0)+1) 0 l0.length=dH l0 n o a b
 refine C5 (fun i:Nat × Nat × Nat=> [(9,vJ i.1),(10,vJ i.2.1),(8,vJ l0.length),(7, .bool false),(6,vI 0),(0, .slice y l0.length X),(1,vU n),(2, .func (.func 133) #[] #[])]) af (fun i=>i.2.2) (0,l0.length,(l0.length - 0)+1) ⟨rfl,rfl,rfl,rfl,rfl,rfl,rfl,rfl,trivial⟩ (g.2 ⟨ae,e6,e6,e6,rfl⟩) ?_
 rintro ⟨a,b,o⟩ aM L
 obtain⟨f,aB,aC,aD,p⟩:=g.1 L
 obtain⟨j,M⟩:∃ q,o=q+1:=⟨o - 1,e6⟩
 subst M
 refine FU (sr (Mz rfl (Mz rfl (Kz (.bool (decide (((a:Nat):Int) < ((b:Nat):Int)))) (nt ?_)))))
 by_cases r:((a:Nat):Int) < ((b:Nat):Int)
 refine jT (dT r) (sk (bo (sr (Mz rfl (Mz rfl (fw (vJ (a+b)) (FV (e:=C7.wrap (((a:Nat):Int)+((b:Nat):Int))) yk f1) (fw (vU (a+b)) (FV (e:=IntKind.u64.wrap ((a+b:Nat):Int)) yk (IntWalk.u64_in _ e6)) (fw (vU ((a+b) / 2)) (FV (e:=Int.fdiv ((a+b:Nat):Int) 2) yk (mV _ 1 _ f3)) (fw (vJ ((a+b) / 2)) (FV (e:=C7.wrap (((a+b) / 2:Nat):Int)) yk (JN _ e6)) (Ar rfl (Mz rfl (Mz rfl (Mz rfl ?_)))))))))))))
 obtain⟨l,s⟩:=dK (ls:=d0) (i:=(a+b) / 2) aA.len f3 (f.ro h) e9
 have C:=fo G s
 have aF:=(K _ (E0 s)).2
 refine fw (.pointer (some ⟨ab y,ao y+((a+b) / 2) *5,none⟩)) (FZ (kG) rfl rfl ((f.ro h).addr (i:=(a+b) / 2) e6) e6) (fw (.agg (aA.cells l).toArray) (F5 rfl (Gc (cs:=(aA.cells l)) Tryz.isAgg60 Tryz.sizeOf60 ((f.ro h).elem aA.len s f3))) (Mz rfl ?_))
 refine WL.do rfl (Gp Tryz.call133 rfl rfl ?_ (fun _ _ k=>k))
 refine cb Tryz.func133 ?_
 refine sr ?_
 refine dM (aA.cells l) 60 f ?_
 intro ag aN N
 refine Ar rfl (Kz (vP ag 0) (Lz (vU l.bi) N 0 E1 (Mz rfl ?_)))
 obtain⟨I,t⟩:∃ q,ib l.bi n=q:=⟨_,rfl⟩
 obtain⟨aO,O,aG,P,aH⟩:=FY N
 refine cl O8 (lW _ _ l.bi n I O t) ?_
 rintro _ aP ⟨rfl,Q⟩
 have R:=P _ _ Q
 refine An rfl (rt (rs (Kz (.bool (decide (I < 0))) (nt ?_))))
 by_cases z:I < 0
 refine jT (dT z) (FT (Mz rfl (fw (vI ((((a+b) / 2)+1:Nat):Int)) (FV (e:=C7.wrap ((((a+b) / 2:Nat):Int)+1)) yk f1) (Az rfl (D0 (bN ?_))))))
 have ah:=R.pk []
 exact F9 (((a+b) / 2)+1,b,j) ⟨rfl,rfl,rfl,rfl,rfl,rfl,rfl,rfl,trivial⟩ (g.2 ⟨ah,e6,e6,e6,et (p) (et (ip r) (et (ai (bJ C)) (et (ai t) (ip z))))⟩) (by show j < j+1; omega)
 refine jF (dF z) (FT (Mz rfl (Az rfl (D0 (bN ?_)))))
 have aj:=R.pk []
 exact F9 (a,(a+b) / 2,j) ⟨rfl,rfl,rfl,rfl,rfl,rfl,rfl,rfl,trivial⟩ (g.2 ⟨aj,e6,e6,e6,et (p) (et (ip r) (et (ai (bJ C)) (et (ai t) (iN z))))⟩) (by show j < j+1; omega)
 refine jF (dF r) (D1 (F4 ?_))
 have E:dH l0 n ((l0.length - 0)+1) 0 l0.length=a:=et (p) (iN r)
 refine F4 (Gg (FW (sr (Mz rfl (Mz rfl (Mz rfl (Kz (.bool (decide (((a:Nat):Int) < ((l0.length:Nat):Int)))) (Mz rfl ?_))))))))
 by_cases d:((a:Nat):Int) < ((l0.length:Nat):Int)
 refine gw (.func (.func 133) #[] #[]) (dT d) (F7 rfl) (gw (.slice y l0.length X) (dT d) (F7 rfl) (gw (vJ a) (dT d) (F7 rfl) ?_))
 obtain⟨m,u⟩:=dK (ls:=d0) (i:=a) aA.len f3 (f.ro h) e9
 have S:=fo G u
 have aI:=(K _ (E0 u)).2
 refine gw (.pointer (some ⟨ab y,ao y+a *5,none⟩)) (dT d) (FZ (kG) rfl rfl ((f.ro h).addr (i:=a) e6) e6) (gw (.agg (aA.cells m).toArray) (dT d) (F5 rfl (Gc (cs:=(aA.cells m)) Tryz.isAgg60 Tryz.sizeOf60 ((f.ro h).elem aA.len u f3))) (gw (vU n) (dT d) (F7 rfl) ?_))
 refine Ha rfl rfl (dT d) rfl (Gp Tryz.call133 rfl rfl ?_ (fun _ _ k=>k))
 refine cb Tryz.func133 ?_
 refine sr ?_
 refine dM (aA.cells m) 60 f ?_
 intro ak aQ T
 refine Ar rfl (Kz (vP ak 0) (Lz (vU m.bi) T 0 E1 (Mz rfl ?_)))
 obtain⟨B,F⟩:∃ q,ib m.bi n=q:=⟨_,rfl⟩
 obtain⟨aR,U,aJ,V,aK⟩:=FY T
 refine cl O8 (lW _ _ m.bi n B U F) ?_
 rintro _ aS ⟨rfl,W⟩
 have au:=V _ _ W
 refine An rfl (rt (rs (Gz (.bool (decide (B=0))) (dT d) (fw (.bool (decide (B=0))) (Gb rfl (dT d) rfl) (Az rfl (An rfl (rt (Fin.res (lY rfl rfl rfl) ?_))))))))
 have av:=au.pk []
 obtain⟨rfl,rfl⟩:=gm (hr.symm.trans (show _=(((a:Nat):Int),decide (B=0)) from et (ai E) (et (ip d) (et (ai (bJ S)) (ai F)))))
 exact⟨rfl,av,e6,i7⟩
 refine Sz (dF d) (Sz (dF d) (Sz (dF d) (Sz (dF d) (Sz (dF d) (Sz (dF d) (Sz (dF d) (Sz (dF d) (fw (.bool false) (FX rfl (dF d) rfl) (Az rfl (An rfl (rt (Fin.res (lY rfl rfl rfl) ?_))))))))))))
 have ax:=f.pk []
 obtain⟨rfl,rfl⟩:=gm (hr.symm.trans (show _=(((a:Nat):Int),false) from et (ai E) (iN d)))
 exact⟨rfl,ax,e6,i7⟩
def eX (l0:List dE) (f:Nat):Nat→Nat→Nat→Nat
  | 0,a,b=>default
  | c+1,a,b=>if((a:Nat):Int) < ((b:Nat):Int) then bnd (C2 l0 ((a+b) / 2) default) fun d=>bnd (ib d.aX f) fun e=>if e < 0 then eX l0 f c (((a+b) / 2)+1) b else eX l0 f c a ((a+b) / 2) else a
def df (l0:List dE) (c:Nat):Int × Bool:=
 bnd (eX l0 c ((l0.length - 0)+1) 0 l0.length) fun sLrL=>if((sLrL:Nat):Int) < ((l0.length:Nat):Int) then bnd (C2 l0 sLrL default) fun a=>bnd (ib a.aX c) fun b=>(((sLrL:Nat):Int),decide (b=0)) else(((sLrL:Nat):Int),false)
theorem iF (w:World) (D:Nat→Prop) (B:Option Addr) (n0 Z:Nat) (d0:List bA) (l0:List dE) (s:Nat) (M:Int) (r1:Bool) (H:Own w D w []) (J:s8 bA.abs d0=l0) (p:Ro w D fun w'=>bD w' 9 B n0 (q6 bA.cells d0)) (n:∀ x ∈ d0,Ro w D (fun w'=>bD w' 6 x.bS.A x.bS.ls.length (q6 bC.cells x.bS.ls))∧(x.bS.ls.length≤x.bS.c∧x.bS.ls.length≤9223372036854775807)∧Ro w D (fun w'=>bD w' 3 x.aD.A x.aD.ls.length (q6 bG.cells x.aD.ls))∧(x.aD.ls.length≤x.aD.c∧x.aD.ls.length≤9223372036854775807)∧(∀ h ∈ x.aD.ls,Ro w D (fun w'=>bD w' 6 h.aG.A h.aG.ls.length (q6 bC.cells h.aG.ls))∧(h.aG.ls.length≤h.aG.c∧h.aG.ls.length≤9223372036854775807)∧Ro w D (fun w'=>bD w' 1 h.aJ.A h.aJ.ls.length (q6 (eI .i64) h.aJ.ls))∧(h.aJ.ls.length≤h.aJ.c∧h.aJ.ls.length≤9223372036854775807))∧Ro w D (fun w'=>bD w' 1 x.bE.A x.bE.ls.length (q6 eL x.bE.ls))∧(x.bE.ls.length≤x.bE.c∧x.bE.ls.length≤9223372036854775807)∧Ro w D (fun w'=>bD w' 1 x.ae.A x.ae.ls.length (q6 (Gy (β:=af)) x.ae.ls))∧(x.ae.ls.length≤x.ae.c∧x.ae.ls.length≤9223372036854775807)∧(∀ h ∈ x.ae.ls,Ro w D (fun w'=>bD w' 3 h.A h.ls.length (q6 af.cells h.ls))∧(h.ls.length≤h.c∧h.ls.length≤9223372036854775807)∧(∀ L ∈ h.ls,Ro w D (fun w'=>bD w' 2 L.au.A L.au.ls.length (q6 aL.cells L.au.ls))∧(L.au.ls.length≤L.au.c∧L.au.ls.length≤9223372036854775807)))) (ag:n0=l0.length) (aY:l0.length *136≤211106232532992) (hr:df l0 s=(M,r1)):
    Calls y4 102 #[.slice B n0 Z,vU s, .func (.func 103) #[] #[]] w (dR fun v w'=>v= .tuple #[vI M, .bool r1]∧Own w D w' []∧(0≤M∧M≤((l0.length:Nat):Int))∧(Bool.toNat r1=0∨M < ((l0.length:Nat):Int))):=by
 subst ag
 have aC:=az J
 refine cb Tryz.func102 ?_
 refine sr (Az rfl (Ar rfl (Mz rfl (Kz (vJ l0.length) (Ar rfl (Mz rfl (Az rfl (An rfl (FU (bo ?_))))))))))
 have ah:=H.pk []
 obtain⟨aj,o⟩:=qI fun(a:Nat) (b:Nat) (t:Nat) (w':World)=>Own w D w' []∧a≤b∧b≤l0.length∧b - a < t∧eX l0 s ((l0.length - 0)+1) 0 l0.length=eX l0 s t a b
 refine C5 (fun i:Nat × Nat × Nat=> [(9,vJ i.1),(10,vJ i.2.1),(8,vJ l0.length),(7, .bool false),(6,vI 0),(0, .slice B l0.length Z),(1,vU s),(2, .func (.func 103) #[] #[])]) aj (fun i=>i.2.2) (0,l0.length,(l0.length - 0)+1) ⟨rfl,rfl,rfl,rfl,rfl,rfl,rfl,rfl,trivial⟩ (o.2 ⟨ah,e6,e6,e6,rfl⟩) ?_
 rintro ⟨a,b,t⟩ aZ N
 obtain⟨m,aD,aF,aG,u⟩:=o.1 N
 obtain⟨r,O⟩:∃ q,t=q+1:=⟨t - 1,e6⟩
 subst O
 refine FU (sr (Mz rfl (Mz rfl (Kz (.bool (decide (((a:Nat):Int) < ((b:Nat):Int)))) (nt ?_)))))
 by_cases y:((a:Nat):Int) < ((b:Nat):Int)
 refine jT (dT y) (sk (bo (sr (Mz rfl (Mz rfl (fw (vJ (a+b)) (FV (e:=C7.wrap (((a:Nat):Int)+((b:Nat):Int))) yk f1) (fw (vU (a+b)) (FV (e:=IntKind.u64.wrap ((a+b:Nat):Int)) yk (IntWalk.u64_in _ e6)) (fw (vU ((a+b) / 2)) (FV (e:=Int.fdiv ((a+b:Nat):Int) 2) yk (mV _ 1 _ f3)) (fw (vJ ((a+b) / 2)) (FV (e:=C7.wrap (((a+b) / 2:Nat):Int)) yk (JN _ e6)) (Ar rfl (Mz rfl (Mz rfl (Mz rfl ?_)))))))))))))
 obtain⟨f,j⟩:=dK (ls:=d0) (i:=(a+b) / 2) bA.len f3 (m.ro p) e9
 have F:=fo J j
 have aH:=(n _ (E0 j)).2.1
 have aI:=(n _ (E0 j)).2.2.2.1
 have aJ:s2 (s8 bG.abs f.aD.ls)=f.aD.ls.length:=s6 ..
 have aK:=(n _ (E0 j)).2.2.2.2.2.2.1
 have aM:=(n _ (E0 j)).2.2.2.2.2.2.2.2.1
 have aN:s2 (s8 bO.abs f.ae.ls)=f.ae.ls.length:=s6 ..
 refine fw (.pointer (some ⟨ab B,ao B+((a+b) / 2) *9,none⟩)) (FZ (pg) rfl rfl ((m.ro p).addr (i:=(a+b) / 2) e6) e6) (fw (.agg (bA.cells f).toArray) (F5 rfl (Gc (cs:=(bA.cells f)) O9 P0 ((m.ro p).elem bA.len j f3))) (Mz rfl ?_))
 refine WL.do rfl (Gp Tryz.call103 rfl rfl ?_ (fun _ _ k=>k))
 refine cb Tryz.func103 ?_
 refine sr ?_
 refine dM (bA.cells f) 107 m ?_
 intro ak bf P
 refine Ar rfl (Kz (vP ak 0) (Lz (vU f.aX) P 0 E1 (Mz rfl ?_)))
 obtain⟨K,z⟩:∃ q,ib f.aX s=q:=⟨_,rfl⟩
 obtain⟨bg,Q,aO,R,aP⟩:=FY P
 refine cl O8 (lW _ _ f.aX s K Q z) ?_
 rintro _ bi ⟨rfl,S⟩
 have T:=R _ _ S
 refine An rfl (rt (rs (Kz (.bool (decide (K < 0))) (nt ?_))))
 by_cases C:K < 0
 refine jT (dT C) (FT (Mz rfl (fw (vI ((((a+b) / 2)+1:Nat):Int)) (FV (e:=C7.wrap ((((a+b) / 2:Nat):Int)+1)) yk f1) (Az rfl (D0 (bN ?_))))))
 have au:=T.pk []
 exact F9 (((a+b) / 2)+1,b,r) ⟨rfl,rfl,rfl,rfl,rfl,rfl,rfl,rfl,trivial⟩ (o.2 ⟨au,e6,e6,e6,et (u) (et (ip y) (et (ai (bJ F)) (et (ai z) (ip C))))⟩) (by show r < r+1; omega)
 refine jF (dF C) (FT (Mz rfl (Az rfl (D0 (bN ?_)))))
 have av:=T.pk []
 exact F9 (a,(a+b) / 2,r) ⟨rfl,rfl,rfl,rfl,rfl,rfl,rfl,rfl,trivial⟩ (o.2 ⟨av,e6,e6,e6,et (u) (et (ip y) (et (ai (bJ F)) (et (ai z) (iN C))))⟩) (by show r < r+1; omega)
 refine jF (dF y) (D1 (F4 ?_))
 have G:eX l0 s ((l0.length - 0)+1) 0 l0.length=a:=et (u) (iN y)
 refine F4 (Gg (FW (sr (Mz rfl (Mz rfl (Mz rfl (Kz (.bool (decide (((a:Nat):Int) < ((l0.length:Nat):Int)))) (Mz rfl ?_))))))))
 by_cases d:((a:Nat):Int) < ((l0.length:Nat):Int)
 refine gw (.func (.func 103) #[] #[]) (dT d) (F7 rfl) (gw (.slice B l0.length Z) (dT d) (F7 rfl) (gw (vJ a) (dT d) (F7 rfl) ?_))
 obtain⟨g,l⟩:=dK (ls:=d0) (i:=a) bA.len f3 (m.ro p) e9
 have U:=fo J l
 have aQ:=(n _ (E0 l)).2.1
 have aR:=(n _ (E0 l)).2.2.2.1
 have aS:s2 (s8 bG.abs g.aD.ls)=g.aD.ls.length:=s6 ..
 have aT:=(n _ (E0 l)).2.2.2.2.2.2.1
 have aU:=(n _ (E0 l)).2.2.2.2.2.2.2.2.1
 have aV:s2 (s8 bO.abs g.ae.ls)=g.ae.ls.length:=s6 ..
 refine gw (.pointer (some ⟨ab B,ao B+a *9,none⟩)) (dT d) (FZ (pg) rfl rfl ((m.ro p).addr (i:=a) e6) e6) (gw (.agg (bA.cells g).toArray) (dT d) (F5 rfl (Gc (cs:=(bA.cells g)) O9 P0 ((m.ro p).elem bA.len l f3))) (gw (vU s) (dT d) (F7 rfl) ?_))
 refine Ha rfl rfl (dT d) rfl (Gp Tryz.call103 rfl rfl ?_ (fun _ _ k=>k))
 refine cb Tryz.func103 ?_
 refine sr ?_
 refine dM (bA.cells g) 107 m ?_
 intro ax bn V
 refine Ar rfl (Kz (vP ax 0) (Lz (vU g.aX) V 0 E1 (Mz rfl ?_)))
 obtain⟨E,I⟩:∃ q,ib g.aX s=q:=⟨_,rfl⟩
 obtain⟨bq,W,aW,X,aX⟩:=FY V
 refine cl O8 (lW _ _ g.aX s E W I) ?_
 rintro _ bu ⟨rfl,Y⟩
 have ay:=X _ _ Y
 refine An rfl (rt (rs (Gz (.bool (decide (E=0))) (dT d) (fw (.bool (decide (E=0))) (Gb rfl (dT d) rfl) (Az rfl (An rfl (rt (Fin.res (lY rfl rfl rfl) ?_))))))))
 have aA:=ay.pk []
 obtain⟨rfl,rfl⟩:=gm (hr.symm.trans (show _=(((a:Nat):Int),decide (E=0)) from et (ai G) (et (ip d) (et (ai (bJ U)) (ai I)))))
 exact⟨rfl,aA,e6,i7⟩
 refine Sz (dF d) (Sz (dF d) (Sz (dF d) (Sz (dF d) (Sz (dF d) (Sz (dF d) (Sz (dF d) (Sz (dF d) (fw (.bool false) (FX rfl (dF d) rfl) (Az rfl (An rfl (rt (Fin.res (lY rfl rfl rfl) ?_))))))))))))
 have aB:=m.pk []
 obtain⟨rfl,rfl⟩:=gm (hr.symm.trans (show _=(((a:Nat):Int),false) from et (ai G) (iN d)))
 exact⟨rfl,aB,e6,i7⟩
def kW (g:bH) (c:bQ) (b:aB):bH:=
 bnd (bT b.aa.aj.ls c.bi) fun a=>bnd (df b.ak.ls c.bi) fun d=>if a.2=true then bnd (eG g c.bi ([c.aJ]) a.2) fun e=>e else if d.2=true then g else bnd (eG g c.bi ([c.aJ]) a.2) fun f=>f
set_option maxHeartbeats 4000000 in
theorem wD (w:World) (D:Nat→Prop) (g0:Nat) (p0:bH) (C:Option Addr) (E:Nat) (t:List bF) (d:bQ) (aj:Option Addr) (aK ak:Nat) (au:Option Addr) (aM av:Nat) (ax:List af) (ay:Option Addr) (aN aC:Nat) (e:Nat) (a:aB) (L:Option Addr) (M:Nat) (g:Option Addr) (h:Nat) (o:List aA) (N:Option Addr) (O:Nat) (j:Option Addr) (l:Nat) (p:List bA) (P:Option Addr) (Q:Nat) (R:Option Addr) (S:Nat) (T:Option Addr) (U:Nat) (V:Option Addr) (W:Nat) (X:Option Addr) (Y:Nat) (r0:bH) (H:Own w D w [blk g0 [.pointer (some ⟨e,0,none⟩), .slice C p0.bB.ls.length E] 98,row C p0.bB.ls.length E (q6 bF.cells t) 42 21,sepL (q6 bF.own t),blk e [.int .i64 a.aa.av, .int .u64 ((a.aa.ax:Nat):Int), .int .u64 ((a.aa.bf:Nat):Int), .int .u64 ((a.aa.aK:Nat):Int), .slice L a.aa.ag.ls.length M, .slice g a.aa.aj.ls.length h, .slice N a.aa.aI.ls.length O, .int .u64 ((a.bI:Nat):Int), .slice j a.ak.ls.length l, .bool a.aR.aT, .int .u64 ((a.aR.aF:Nat):Int), .int .i64 a.aR.bn, .slice P a.aR.ae.ls.length Q, .bool a.aN.aT, .int .u64 ((a.aN.aF:Nat):Int), .int .i64 a.aN.bn, .slice R a.aN.ae.ls.length S, .bool a.aO.aT, .int .u64 ((a.aO.aF:Nat):Int), .int .i64 a.aO.bn, .slice T a.aO.ae.ls.length U, .bool a.aP.aT, .int .u64 ((a.aP.aF:Nat):Int), .int .i64 a.aP.bn, .slice V a.aP.ae.ls.length W, .bool a.aM.aT, .int .u64 ((a.aM.aF:Nat):Int), .int .i64 a.aM.bn, .slice X a.aM.ae.ls.length Y, .int .u64 ((a.di:Nat):Int), .int .u64 ((a.cz:Nat):Int), .int .u64 ((a.cK:Nat):Int), .int .u64 ((a.cB:Nat):Int), .int .u64 ((a.cu:Nat):Int), .pointer none] 86]) (u:s8 bF.abs t=p0.bB.ls) (aY:aK=d.aG.ls.length) (dn:Ro w D fun w'=>bD w' 6 aj d.aG.ls.length (q6 bC.cells d.aG.ls)) (dw:d.aG.ls.length≤ak∧d.aG.ls.length≤9223372036854775807) (aZ:s8 af.abs ax=d.ah.ls) (bf:aM=d.ah.ls.length) (dx:Ro w D fun w'=>bD w' 3 au d.ah.ls.length (q6 af.cells ax)) (dz:d.ah.ls.length≤av∧d.ah.ls.length≤9223372036854775807) (dA:∀ x ∈ ax,Ro w D (fun w'=>bD w' 2 x.au.A x.au.ls.length (q6 aL.cells x.au.ls))∧(x.au.ls.length≤x.au.c∧x.au.ls.length≤9223372036854775807)) (bg:aN=d.ag.ls.length) (dB:Ro w D fun w'=>bD w' 2 ay d.ag.ls.length (q6 bv.cells d.ag.ls)) (dC:d.ag.ls.length≤aC∧d.ag.ls.length≤9223372036854775807) (F:s8 aA.abs o=a.aa.aj.ls) (aD:Ro w D fun w'=>bD w' 5 g a.aa.aj.ls.length (q6 aA.cells o)) (bz:a.aa.aj.ls.length≤h∧a.aa.aj.ls.length≤9223372036854775807) (G:∀ x ∈ o,Ro w D (fun w'=>bD w' 1 x.av.A x.av.ls.length (q6 (eI .i64) x.av.ls))∧(x.av.ls.length≤x.av.c∧x.av.ls.length≤9223372036854775807)) (I:s8 bA.abs p=a.ak.ls) (aF:Ro w D fun w'=>bD w' 9 j a.ak.ls.length (q6 bA.cells p)) (bB:a.ak.ls.length≤l∧a.ak.ls.length≤9223372036854775807) (b:∀ x ∈ p,Ro w D (fun w'=>bD w' 6 x.bS.A x.bS.ls.length (q6 bC.cells x.bS.ls))∧(x.bS.ls.length≤x.bS.c∧x.bS.ls.length≤9223372036854775807)∧Ro w D (fun w'=>bD w' 3 x.aD.A x.aD.ls.length (q6 bG.cells x.aD.ls))∧(x.aD.ls.length≤x.aD.c∧x.aD.ls.length≤9223372036854775807)∧(∀ f ∈ x.aD.ls,Ro w D (fun w'=>bD w' 6 f.aG.A f.aG.ls.length (q6 bC.cells f.aG.ls))∧(f.aG.ls.length≤f.aG.c∧f.aG.ls.length≤9223372036854775807)∧Ro w D (fun w'=>bD w' 1 f.aJ.A f.aJ.ls.length (q6 (eI .i64) f.aJ.ls))∧(f.aJ.ls.length≤f.aJ.c∧f.aJ.ls.length≤9223372036854775807))∧Ro w D (fun w'=>bD w' 1 x.bE.A x.bE.ls.length (q6 eL x.bE.ls))∧(x.bE.ls.length≤x.bE.c∧x.bE.ls.length≤9223372036854775807)∧Ro w D (fun w'=>bD w' 1 x.ae.A x.ae.ls.length (q6 (Gy (β:=af)) x.ae.ls))∧(x.ae.ls.length≤x.ae.c∧x.ae.ls.length≤9223372036854775807)∧(∀ f ∈ x.ae.ls,Ro w D (fun w'=>bD w' 3 f.A f.ls.length (q6 af.cells f.ls))∧(f.ls.length≤f.c∧f.ls.length≤9223372036854775807)∧(∀ y2 ∈ f.ls,Ro w D (fun w'=>bD w' 2 y2.au.A y2.au.ls.length (q6 aL.cells y2.au.ls))∧(y2.au.ls.length≤y2.au.c∧y2.au.ls.length≤9223372036854775807)))) (ed:a.aa.ag.ls.length≤1000∧a.aa.aj.ls.length≤1000∧a.aa.aI.ls.length≤1000∧a.ak.ls.length≤1000∧p0.bB.ls.length≤100000) (hr:kW p0 d a=r0):
    Calls y4 59 #[vP g0 0, .agg (gD d.aH d.aJ d.eO d.aS d.dz d.eu d.aU d.ax d.bi d.dW d.bf d.aK d.dI d.cZ d.xN d.d9 d.bV.bK d.bV.bW aj aK ak au aM av ay aN aC).toArray] w (dR fun v w'=> ∃ (B0ox0:Option Addr) (b0ox0:Nat) (e0ox0:List bF),v= .tuple #[]∧Own w D w' [blk g0 [vP e 0, .slice B0ox0 r0.bB.ls.length b0ox0] 98,row B0ox0 r0.bB.ls.length b0ox0 (q6 bF.cells e0ox0) 42 21,sepL (q6 bF.own e0ox0),blk e [vI a.aa.av,vU a.aa.ax,vU a.aa.bf,vU a.aa.aK, .slice L a.aa.ag.ls.length M, .slice g a.aa.aj.ls.length h, .slice N a.aa.aI.ls.length O,vU a.bI, .slice j a.ak.ls.length l, .bool a.aR.aT,vU a.aR.aF,vI a.aR.bn, .slice P a.aR.ae.ls.length Q, .bool a.aN.aT,vU a.aN.aF,vI a.aN.bn, .slice R a.aN.ae.ls.length S, .bool a.aO.aT,vU a.aO.aF,vI a.aO.bn, .slice T a.aO.ae.ls.length U, .bool a.aP.aT,vU a.aP.aF,vI a.aP.bn, .slice V a.aP.ae.ls.length W, .bool a.aM.aT,vU a.aM.aF,vI a.aM.bn, .slice X a.aM.ae.ls.length Y,vU a.di,vU a.cz,vU a.cK,vU a.cB,vU a.cu, .pointer none] 86]∧(s8 bF.abs e0ox0=r0.bB.ls)):=by
 subst aY bf bg
 have di:=az u
 have dm:=az aZ
 have bq:=az F
 have bu:=az I
 have dD:=H.rowC (i:=1) rfl
 refine cb Tryz.func59 ?_
 refine sr ?_
 refine dM (gT d aj ak au av ay aC) 42 H ?_
 intro ae ek dE
 refine nt (FU ?_)
 refine xx [] (F8 Gh) dE ?_
 intro eu bE
 refine qv 0 rfl rfl (qp g0 0 1 rfl (qp g0 0 2 rfl (ql 3 rfl 1 O3 rfl rfl rfl (qp ae 8 4 rfl (ql 5 rfl 0 E1 rfl rfl rfl ?_)))))
 refine GX.do 6 rfl e7 (Gd Tryz.call95 rfl ?_ (fun _ _ k=>k))
 refine cb Tryz.func95 ?_
 refine sr (Az rfl (Ar rfl (Mz rfl (Kz (vP e 0) (Kz (vP e 0) (Kz (vP e 5) (Lz (.slice g a.aa.aj.ls.length h) bE 4 D4 (Mz rfl ?_))))))))
 obtain⟨⟨ag,r⟩,Z⟩:∃ q:Int × Bool,bT a.aa.aj.ls d.bi=q:=⟨_,rfl⟩
 obtain⟨eB,bI,aO,bJ,dS⟩:=FY bE
 refine cl Tryz.call132 (gW _ _ g a.aa.aj.ls.length h o a.aa.aj.ls d.bi ag r bI F (aO _ aD) (fun z B=>⟨aO _ (G z B).1,(G z B).2⟩) rfl e6 Z) ?_
 rintro _ eD ⟨rfl,bK,aP,aQ⟩
 have bL:=bJ _ _ bK
 replace aP:0≤ag∧ag≤((a.aa.aj.ls.length:Nat):Int):=aP
 replace aQ:Bool.toNat r=0∨ag < ((a.aa.aj.ls.length:Nat):Int):=aQ
 refine Kz (vI ag) (Kz (.bool r) (Az rfl (An rfl (rt (Fin.res (lY rfl rfl rfl) ?_)))))
 refine⟨.inr ⟨_,bL⟩, ?_⟩
 refine qv 7 rfl rfl (qk (vI ag) 8 rfl (qk (.bool r) 9 rfl (qa 10 rfl rfl (qa 11 rfl rfl (qn (FW (FU ?_)))))))
 refine xx [] (F8 Gh) bL ?_
 intro eF bM
 refine qv 0 rfl rfl (qp g0 0 1 rfl (qp g0 0 2 rfl (ql 3 rfl 1 O3 rfl rfl rfl (qp ae 8 4 rfl (ql 5 rfl 0 E1 rfl rfl rfl ?_)))))
 refine GX.do 6 rfl e7 (Gd Tryz.call62 rfl ?_ (fun _ _ k=>k))
 refine cb Tryz.func62 ?_
 refine sr (Az rfl (Ar rfl (Mz rfl (Kz (vP e 0) (Kz (vP e 8) (Lz (.slice j a.ak.ls.length l) bM 4 P1 (Mz rfl ?_)))))))
 obtain⟨⟨ah,s⟩,aa⟩:∃ q:Int × Bool,df a.ak.ls d.bi=q:=⟨_,rfl⟩
 obtain⟨eH,bN,m,bO,dU⟩:=FY bM
 refine cl Tryz.call102 (iF _ _ j a.ak.ls.length l p a.ak.ls d.bi ah s bN I (m _ aF) (fun z B=>⟨m _ (b z B).1,(b z B).2.1,m _ (b z B).2.2.1,(b z B).2.2.2.1,(fun f k1=>⟨m _ ((b z B).2.2.2.2.1 f k1).1,((b z B).2.2.2.2.1 f k1).2.1,m _ ((b z B).2.2.2.2.1 f k1).2.2.1,((b z B).2.2.2.2.1 f k1).2.2.2⟩),m _ (b z B).2.2.2.2.2.1,(b z B).2.2.2.2.2.2.1,m _ (b z B).2.2.2.2.2.2.2.1,(b z B).2.2.2.2.2.2.2.2.1,(fun f k1=>⟨m _ ((b z B).2.2.2.2.2.2.2.2.2 f k1).1,((b z B).2.2.2.2.2.2.2.2.2 f k1).2.1,(fun y2 k2=>⟨m _ (((b z B).2.2.2.2.2.2.2.2.2 f k1).2.2 y2 k2).1,(((b z B).2.2.2.2.2.2.2.2.2 f k1).2.2 y2 k2).2⟩)⟩)⟩) rfl e6 aa) ?_
 rintro _ eO ⟨rfl,bP,aR,aS⟩
 have J:=bO _ _ bP
 replace aR:0≤ah∧ah≤((a.ak.ls.length:Nat):Int):=aR
 replace aS:Bool.toNat s=0∨ah < ((a.ak.ls.length:Nat):Int):=aS
 refine Kz (vI ah) (Kz (.bool s) (Az rfl (An rfl (rt (Fin.res (lY rfl rfl rfl) ?_)))))
 refine⟨.inr ⟨_,J⟩, ?_⟩
 refine qv 7 rfl rfl (qk (vI ah) 8 rfl (qk (.bool s) 9 rfl (qa 10 rfl rfl (qa 11 rfl rfl (qn (FW (sr (Mz rfl (Mz rfl ?_)))))))))
 rcases JQ (r) with n | n
 have h54t:Bool.toNat r=1:=by rw [n]; rfl
 refine Sz n (Sz n (fw (.bool true) (Gb rfl n rfl) (nt (jt (FT (Mz rfl (Kz (vP ae 8) (Lz (vU d.bi) J 0 E1 (Kz (vP ae 1) (Lz (vI d.aJ) J 0 C6 ?_))))))))))
 refine kL [vI d.aJ] 3 1 1 J ?_
 intro bR eP bi
 replace bi:=Gq (y:=row bR 1 1 (q6 (eI .i64) ([d.aJ])) 3 1) rfl bi
 refine Mz rfl ?_
 have dF:=bi.pb [0,1,5]
 obtain⟨bS,aT⟩:∃ q,eG p0 d.bi ([d.aJ]) r=q:=⟨_,rfl⟩
 obtain⟨eQ,bU,dV,bV,bW⟩:=Gv dF
 refine cl P2 (kF _ _ g0 p0 C E t e d.bi bR 1 1 ([d.aJ]) r bS bU u (bW _ 0 _ rfl aV) rfl i8 g7 aT) ?_
 rintro _ eT ⟨dG,dH,dI,rfl,bX,aU⟩
 have bY:=bV _ _ bX
 have dW:=az aU
 have dX:=bY.rowC (i:=1) rfl
 refine D0 (Gf (res0 rfl) ?_)
 have dJ:=bY.pk [0,1,2,5]
 obtain rfl:_=bS:=hr.symm.trans (et (ai Z) (et (ai aa) (et (ip n) (ai aT))))
 exact⟨dG,dH,dI,rfl,dJ,aU⟩
 have h54t:Bool.toNat r=0:=by rw [n]; rfl
 refine GK (v:= .bool s) rfl rfl n rfl (F7 rfl) (Gz (.bool (!s)) n (fw (.bool (!s)) (FX rfl n rfl) (nt ?_)))
 rcases JQ (s) with K | K
 have h76t:Bool.toNat s=1:=by rw [K]; rfl
 refine jF (cn K) (Gj (Gf (res0 rfl) ?_))
 have dK:=J.px [] [0] []
 obtain rfl:_=p0:=hr.symm.trans (et (ai Z) (et (ai aa) (et (gB n) (ip K))))
 exact⟨C,E,t,rfl,dK,u⟩
 have h76t:Bool.toNat s=0:=by rw [K]; rfl
 refine jT (cn K) (FT (Mz rfl (Kz (vP ae 8) (Lz (vU d.bi) J 0 E1 (Kz (vP ae 1) (Lz (vI d.aJ) J 0 C6 ?_))))))
 refine kL [vI d.aJ] 3 1 1 J ?_
 intro bZ eU bn
 replace bn:=Gq (y:=row bZ 1 1 (q6 (eI .i64) ([d.aJ])) 3 1) rfl bn
 refine Mz rfl ?_
 have dL:=bn.pb [0,1,5]
 obtain⟨cu,aW⟩:∃ q,eG p0 d.bi ([d.aJ]) r=q:=⟨_,rfl⟩
 obtain⟨eX,cz,dY,cB,cK⟩:=Gv dL
 refine cl P2 (kF _ _ g0 p0 C E t e d.bi bZ 1 1 ([d.aJ]) r cu cz u (cK _ 0 _ rfl aV) rfl i8 g7 aW) ?_
 rintro _ eY ⟨dN,dO,dP,rfl,cO,aX⟩
 have cZ:=cB _ _ cO
 have dZ:=az aX
 have d9:=cZ.rowC (i:=1) rfl
 refine D0 (Gf (res0 rfl) ?_)
 have dQ:=cZ.pk [0,1,2,5]
 obtain rfl:_=cu:=hr.symm.trans (et (ai Z) (et (ai aa) (et (gB n) (et (gB K) (ai aW)))))
 exact⟨dN,dO,dP,rfl,dQ,aX⟩
def gU (p1c0:bQ):List Int→Nat→Unit ⊕ Int
  | [],a=>Sum.inl ()
  | b::c,a=>if b=p1c0.aJ then Sum.inr ((a:Nat):Int) else gU p1c0 c (a+1)
def mK (l0:List Int) (p1c0:bQ):Int:=
 lp (gU p1c0 l0 0) fun _=>(-1)
theorem rF (w:World) (D:Nat→Prop) (n:Option Addr) (t u:Nat) (l0:List Int) (g1c0:Nat) (p1c0:bQ) (A1c0x0:Option Addr) (c1c0x0:Nat) (A1c0x1:Option Addr) (c1c0x1:Nat) (d1c0x1:List af) (A1c0x2:Option Addr) (c1c0x2:Nat) (s:Int) (H:Own w D w [blk g1c0 (gT p1c0 A1c0x0 c1c0x0 A1c0x1 c1c0x1 A1c0x2 c1c0x2) 42]) (l:Ro w D fun w'=>bD w' 1 n t (q6 (eI .i64) l0)) (y:t=l0.length) (I:l0.length≤9223372036854775807) (hx1c0x0:Ro w D fun w'=>bD w' 6 A1c0x0 p1c0.aG.ls.length (q6 bC.cells p1c0.aG.ls)) (hb1c0x0:p1c0.aG.ls.length≤c1c0x0∧p1c0.aG.ls.length≤9223372036854775807) (hd1c0x1:s8 af.abs d1c0x1=p1c0.ah.ls) (hx1c0x1:Ro w D fun w'=>bD w' 3 A1c0x1 p1c0.ah.ls.length (q6 af.cells d1c0x1)) (hb1c0x1:p1c0.ah.ls.length≤c1c0x1∧p1c0.ah.ls.length≤9223372036854775807) (hm1c0x1:∀ x ∈ d1c0x1,Ro w D (fun w'=>bD w' 2 x.au.A x.au.ls.length (q6 aL.cells x.au.ls))∧(x.au.ls.length≤x.au.c∧x.au.ls.length≤9223372036854775807)) (hx1c0x2:Ro w D fun w'=>bD w' 2 A1c0x2 p1c0.ag.ls.length (q6 bv.cells p1c0.ag.ls)) (hb1c0x2:p1c0.ag.ls.length≤c1c0x2∧p1c0.ag.ls.length≤9223372036854775807) (hr:mK l0 p1c0=s):
    Calls y4 134 #[.slice n t u, .func (.func 97) #[] #[vP g1c0 0]] w (dR fun v w'=>v=vI s∧Own w D w' [blk g1c0 (gT p1c0 A1c0x0 c1c0x0 A1c0x1 c1c0x1 A1c0x2 c1c0x2) 42]∧(-1≤s∧s < ((l0.length:Nat):Int))):=by
 subst y
 have hdl1c0x1:=az hd1c0x1
 refine cb Tryz.func134 ?_
 refine sr (An rfl (FU (sr (Mz rfl (Kz (vJ l0.length) (Mn rfl (bo ?_)))))))
 have z:=H.pf []
 obtain⟨B,d⟩:=mX fun(a:Nat) (w':World)=>Own w D w' [blk g1c0 (gT p1c0 A1c0x0 c1c0x0 A1c0x1 c1c0x1 A1c0x2 c1c0x2) 42]∧a≤l0.length∧gU p1c0 l0 0=gU p1c0 (r6 a l0) a
 refine C5 (fun i:Nat=> [(4,vI 0),(8,vJ i),(7,vJ l0.length),(0, .slice n l0.length u),(1, .func (.func 97) #[] #[vP g1c0 0])]) B (fun i=>l0.length - i) 0 ⟨rfl,rfl,rfl,rfl,rfl,trivial⟩ (d.2 ⟨z,e6,rfl⟩) ?_
 rintro a J o
 obtain⟨b,G,f⟩:=d.1 o
 refine sr (Kz (.bool (decide (((a:Nat):Int) < ((l0.length:Nat):Int)))) (nt (FU ?_)))
 by_cases p:((a:Nat):Int) < ((l0.length:Nat):Int)
 obtain⟨m,h⟩:=dK (ls:=l0) (i:=a) iI f3 (b.ro l) e9
 have j:=drop_at h
 refine jT (dT p) (sk (FU (bo (sr (Mz rfl (Ar rfl (Mz rfl (Mz rfl (Mz rfl (fw (.pointer (some ⟨ab n,ao n+a *1,none⟩)) (FZ (ng) rfl rfl ((b.ro l).addr (i:=a) e6) e6) (fw (vI m) (F5 rfl (bZ.one C6 (((b.ro l).elem iI h f3).at_ (k:=0) rfl))) ?_)))))))))))
 refine WL.do rfl (Gp Tryz.call97 rfl rfl ?_ (fun _ _ k=>k))
 refine cb Tryz.func97 ?_
 refine sr (Ar rfl (Mz rfl (Kz (vP g1c0 1) (Lz (vI p1c0.aJ) b 0 C6 (Kz (.bool (decide (m=p1c0.aJ))) (An rfl (rt (rs (nt ?_)))))))))
 by_cases g:m=p1c0.aJ
 refine jT (dT g) (sr (Mz rfl (An rfl (rt (bR (tR (tR (bR (tR (rs ?_))))))))))
 have C:=b.pf []
 obtain rfl:_=((a:Nat):Int):=hr.symm.trans (jq (et (f) (et (congrArg (fun q=>gU p1c0 q a) j) (ip g))))
 exact⟨rfl,C,e6⟩
 refine jF (dF g) (Gj (bN (FW (FT (fw (vJ (a+1)) (FV (e:=C7.wrap (((a:Nat):Int)+1)) yk f1) (Mz rfl (D0 ?_)))))))
 have E:=b.pf []
 exact F9 (a+1) ⟨rfl,rfl,rfl,rfl,rfl,trivial⟩ (d.2 ⟨E,e6,et (f) (et (congrArg (fun q=>gU p1c0 q a) j) (iN g))⟩) (by show l0.length - (a+1) < l0.length - a; omega)
 refine jF (dF p) (D1 (F4 ?_))
 have r:gU p1c0 l0 0=Sum.inl ():=et (f) (et (congrArg (fun q=>gU p1c0 q a) (eZ (ls:=l0) (i:=a) e6)) rfl)
 refine F4 (Gg (FW (sr (An rfl (rt (rs ?_))))))
 have F:=b.pf []
 obtain rfl:_=(-1):=hr.symm.trans (nS r)
 exact⟨rfl,F,e6⟩
def gQ (l0:List Int) (p1c0:bQ):Nat→Int→Int→List Int→Int × (List Int)
  | 0,a,b,c=>default
  | e+1,a,b,c=>if b < ((l0.length:Nat):Int) then bnd (C2 c (D2 b) default) fun d=>if d=p1c0.aJ then gQ l0 p1c0 e a (b+1) c else gQ l0 p1c0 e (a+1) (b+1) (u5 c (D2 a) d) else(a,c)
def iq (l0:List Int) (p1c0:bQ):(List Int):=
 bnd (mK l0 p1c0) fun a=>if a=(-1) then l0 else bnd (gQ l0 p1c0 ((D2 (((l0.length:Nat):Int) - (a+1)))+1) a (a+1) l0) fun sLrbfL=>(r5 (D2 sLrbfL.1) sLrbfL.2)
theorem qU (w:World) (D:Nat→Prop) (h:Option Addr) (T n:Nat) (l0:List Int) (g1c0:Nat) (p1c0:bQ) (A1c0x0:Option Addr) (c1c0x0:Nat) (A1c0x1:Option Addr) (c1c0x1:Nat) (d1c0x1:List af) (A1c0x2:Option Addr) (c1c0x2:Nat) (I:List Int) (H:Own w D w [row h T n (q6 (eI .i64) l0) 3 1,blk g1c0 (gT p1c0 A1c0x0 c1c0x0 A1c0x1 c1c0x1 A1c0x2 c1c0x2) 42]) (U:T=l0.length) (aM:l0.length *8≤211106232532992) (hx1c0x0:Ro w D fun w'=>bD w' 6 A1c0x0 p1c0.aG.ls.length (q6 bC.cells p1c0.aG.ls)) (hb1c0x0:p1c0.aG.ls.length≤c1c0x0∧p1c0.aG.ls.length≤9223372036854775807) (hd1c0x1:s8 af.abs d1c0x1=p1c0.ah.ls) (hx1c0x1:Ro w D fun w'=>bD w' 3 A1c0x1 p1c0.ah.ls.length (q6 af.cells d1c0x1)) (hb1c0x1:p1c0.ah.ls.length≤c1c0x1∧p1c0.ah.ls.length≤9223372036854775807) (hm1c0x1:∀ x ∈ d1c0x1,Ro w D (fun w'=>bD w' 2 x.au.A x.au.ls.length (q6 aL.cells x.au.ls))∧(x.au.ls.length≤x.au.c∧x.au.ls.length≤9223372036854775807)) (hx1c0x2:Ro w D fun w'=>bD w' 2 A1c0x2 p1c0.ag.ls.length (q6 bv.cells p1c0.ag.ls)) (hb1c0x2:p1c0.ag.ls.length≤c1c0x2∧p1c0.ag.ls.length≤9223372036854775807) (aN:l0.length≤1000000) (hr:iq l0 p1c0=I):
    Calls y4 96 #[.slice h T n, .func (.func 97) #[] #[vP g1c0 0]] w (dR fun v w'=> ∃ (B0:Option Addr) (b0:Nat),v= .slice B0 I.length b0∧Own w D w' [row B0 I.length b0 (q6 (eI .i64) I) 3 1,blk g1c0 (gT p1c0 A1c0x0 c1c0x0 A1c0x1 c1c0x1 A1c0x2 c1c0x2) 42]∧(I.length≤l0.length)):=by
 subst U
 have hdl1c0x1:=az hd1c0x1
 have aO:=H.rowC (i:=0) rfl
 refine cb Tryz.func96 ?_
 refine sr (Ar rfl (Mz rfl (Mz rfl ?_)))
 have V:=H.pb [0]
 obtain⟨d,r⟩:∃ q,mK l0 p1c0=q:=⟨_,rfl⟩
 obtain⟨aP,J,l,K,L⟩:=Gn V
 refine cl Tryz.call134 (rF _ _ h l0.length n l0 g1c0 p1c0 A1c0x0 c1c0x0 A1c0x1 c1c0x1 d1c0x1 A1c0x2 c1c0x2 d J (L _ 0 _ rfl aV) rfl e6 (l _ hx1c0x0) (show p1c0.aG.ls.length≤c1c0x0∧p1c0.aG.ls.length≤9223372036854775807 from by omega) hd1c0x1 (l _ hx1c0x1) (show p1c0.ah.ls.length≤c1c0x1∧p1c0.ah.ls.length≤9223372036854775807 from by omega) (fun x9 h9=>⟨l _ (hm1c0x1 x9 h9).1,(hm1c0x1 x9 h9).2⟩) (l _ hx1c0x2) (show p1c0.ag.ls.length≤c1c0x2∧p1c0.ag.ls.length≤9223372036854775807 from by omega) r) ?_
 rintro _ aQ ⟨rfl,M,F⟩
 have N:=K _ _ M
 replace F: -1≤d∧d < ((l0.length:Nat):Int):=F
 refine An rfl (FU (sr (Mz rfl (Kz (.bool (decide (d=(-1)))) (nt ?_)))))
 by_cases C:d=(-1)
 refine jT (dT C) (sr (Mz rfl (An rfl (rt (tR (rs ?_))))))
 have W:=N.pb [0]
 obtain rfl:_=l0:=hr.symm.trans (et (ai r) (ip C))
 exact⟨h,n,rfl,W,j7⟩
 refine jF (dF C) (sk (FU (sr (Mz rfl (fw (vI (d+1)) (FV (e:=C7.wrap (d+1)) yk g2) (An rfl (bo ?_)))))))
 have X:=N.pf []
 obtain⟨Y,m⟩:=rX fun(a:Int) (b:Int) (f:List Int) (s:Nat) (w':World)=>Own w D w' [blk g1c0 (gT p1c0 A1c0x0 c1c0x0 A1c0x1 c1c0x1 A1c0x2 c1c0x2) 42,row h l0.length n (q6 (eI .i64) f) 3 1]∧f.length=l0.length∧(0≤a∧a≤b∧b≤((l0.length:Nat):Int))∧D2 (((l0.length:Nat):Int) - b) < s∧gQ l0 p1c0 ((D2 (((l0.length:Nat):Int) - (d+1)))+1) d (d+1) l0=gQ l0 p1c0 s a b f
 refine C5 (fun i:Int × Int × (List Int) × Nat=> [(5,vI i.1),(6,vI i.2.1),(4, .slice none 0 0),(0, .slice h l0.length n),(1, .func (.func 97) #[] #[vP g1c0 0])]) Y (fun i=>i.2.2.2) (d,d+1,l0,(D2 (((l0.length:Nat):Int) - (d+1)))+1) ⟨rfl,rfl,rfl,rfl,rfl,trivial⟩ (m.2 ⟨X,by first | omega | (simp only [H6] <;> omega) | (simp only [H7]),e6,e6,rfl⟩) ?_
 rintro ⟨a,b,f,s⟩ aR O
 obtain⟨g,aD,aF,aG,t⟩:=m.1 O
 obtain⟨p,P⟩:∃ q,s=q+1:=⟨s - 1,e6⟩
 subst P
 refine FU (sr (Mz rfl (Mz rfl (Kz (vJ l0.length) (Kz (.bool (decide (b < ((l0.length:Nat):Int)))) (nt ?_))))))
 by_cases u:b < ((l0.length:Nat):Int)
 refine jT (dT u) (sk (FU (bo (sr (Mz rfl (fw (vJ (D2 b)) (FV (e:=b) (F7 rfl) e6) ?_))))))
 obtain⟨j,z⟩:=dK (ls:=f) (i:=D2 b) iI f3 (g.rds (i:=1) rfl) e9
 refine fw (.pointer (some ⟨ab h,ao h+(D2 b) *1,none⟩)) (FZ (ng) rfl rfl ((g.rds (i:=1) rfl).addr (i:=D2 b) e6) e6) (fw (vI j) (F5 rfl (bZ.one C6 (((g.rds (i:=1) rfl).elem iI z f3).at_ (k:=0) rfl))) (Ar rfl (Mz rfl (Mz rfl ?_))))
 refine WL.do rfl (Gp Tryz.call97 rfl rfl ?_ (fun _ _ k=>k))
 refine cb Tryz.func97 ?_
 refine sr (Ar rfl (Mz rfl (Kz (vP g1c0 1) (Lz (vI p1c0.aJ) g 0 C6 (Kz (.bool (decide (j=p1c0.aJ))) (An rfl (rt (rs (fw (.bool (decide (¬ (j=p1c0.aJ)))) (Gi (e:= !(decide (j=p1c0.aJ))) yk decide_not.symm) (nt ?_))))))))))
 by_cases E:j=p1c0.aJ
 refine jF (dF (JP E)) (Gj (bN (FW (FT (Mz rfl (fw (vI (b+1)) (FV (e:=C7.wrap (b+1)) yk g2) (Az rfl (D0 ?_))))))))
 have Z:=g.pf []
 exact F9 (a,b+1,f,p) ⟨rfl,rfl,rfl,rfl,rfl,trivial⟩ (m.2 ⟨Z,by first | omega | (simp only [H6] <;> omega) | (simp only [H7]),e6,e6,Eq.trans (t) (Eq.trans (if_pos u) (Eq.trans (ai (bJ z)) (if_pos E)))⟩) (by show p < p+1; omega)
 refine jT (dT E) (sr (Mz rfl (fw (vJ (D2 a)) (FV (e:=a) (F7 rfl) e6) (Mz rfl ?_))))
 obtain⟨aS,G⟩:=dK (ls:=f) (i:=D2 a) iI f3 (g.rds (i:=1) rfl) e9
 refine fw (.pointer (some ⟨ab h,ao h+(D2 a) *1,none⟩)) (FZ (ng) rfl rfl ((g.rds (i:=1) rfl).addr (i:=D2 a) e6) e6) ?_
 have aa:=g.pb [0]
 refine GV (Do.storeRow (vs:= [vI j]) (o:=(D2 a) *1+0) (q:=ao h+(D2 a) *1) aa rfl e6 rfl Tryz.sizeOf3 rfl rfl (JM rfl) (iK iI G (JM rfl)) (jE (y:=j) iI rfl (JM rfl) G) ?_)
 intro aT ae
 refine nt (FT (Mz rfl (fw (vI (a+1)) (FV (e:=C7.wrap (a+1)) yk g2) (Az rfl (D0 (bN (FW (FT (Mz rfl (fw (vI (b+1)) (FV (e:=C7.wrap (b+1)) yk g2) (Az rfl (D0 ?_))))))))))))
 have ag:=ae.pb [0]
 exact F9 (a+1,b+1,(u5 f (D2 a) j),p) ⟨rfl,rfl,rfl,rfl,rfl,trivial⟩ (m.2 ⟨ag,by first | omega | (simp only [H6] <;> omega) | (simp only [H7]),e6,e6,Eq.trans (t) (Eq.trans (if_pos u) (Eq.trans (ai (bJ z)) (if_neg E)))⟩) (by show p < p+1; omega)
 refine jF (dF u) (D1 (F4 ?_))
 have Q:gQ l0 p1c0 ((D2 (((l0.length:Nat):Int) - (d+1)))+1) d (d+1) l0=(a,f):=et (t) (iN u)
 refine F4 (Gg (FW (sr (Mz rfl (fw (vJ (D2 a)) (FV (e:=a) (F7 rfl) e6) (fw (.slice (jC h (D2 a) 1 n) (l0.length - (D2 a)) (n - (D2 a))) (Gw (ng) rfl rfl e6) ?_))))))
 have ah:=g.pb [0]
 obtain⟨aH,aj,R⟩:=ah.rowFull
 refine GV (Ii (z0:=(vI 0)) (lo:=D2 a) (nd:=(l0.length - (D2 a))) e7 rfl (ng) R rfl (fun _=>kR ((R.rds (i:=0) rfl).isSome e6) e6) e6 ?_)
 intro S aI aJ ak
 refine ns (Mz rfl (fw (vJ (D2 a)) (FV (e:=a) (F7 rfl) e6) (fw (.slice h (D2 a) n) (GQ (ng) rfl rfl e6) (An rfl (rt (rs ?_))))))
 have au:Own w D S [row h (D2 a) n (q6 (eI .i64) (r5 (D2 a) f)) 3 1,blk g1c0 (gT p1c0 A1c0x0 c1c0x0 A1c0x1 c1c0x1 A1c0x2 c1c0x2) 42]:=ak.rowPart e6 (De iI e6)
 have aK:s2 (r5 (D2 a) f)=D2 a:=by rw [p3]; omega
 have B:D2 a=s2 (r5 (D2 a) f):=by first | omega | (simp only [H6]; done) | (simp only [H6,p5,s3,G1,p3,p4,H7]; omega)
 have av:Own w D S [row h (s2 (r5 (D2 a) f)) n (q6 (eI .i64) (r5 (D2 a) f)) 3 1,blk g1c0 (gT p1c0 A1c0x0 c1c0x0 A1c0x1 c1c0x1 A1c0x2 c1c0x2) 42]:=by rw [← B]; exact au
 have ax:=av.pf []
 obtain rfl:_=(r5 (D2 a) f):=hr.symm.trans (et (ai r) (et (iN C) (ai Q)))
 exact⟨h,n,(by first | rfl | (rw [← B]; done) | (rw [← B]; rfl)),ax,j7⟩
def jY (f:bH) (g:bQ) (a:aB):bH × aB:=
 bnd (bT a.aa.aj.ls g.bi) fun c=>if c.2=true then bnd (C2 a.aa.aj.ls (D2 c.1) default) fun b=>bnd (iq b.av.ls g) fun d=>bnd (C2 (u5 a.aa.aj.ls (D2 c.1) (bM.mk b.bi b.aS b.ax b.aU (E4 d))) (D2 c.1) default) fun e=>if((e.av.ls.length:Nat):Int)=0 then(f,aB.mk (dC.mk a.aa.av a.aa.ax a.aa.bf a.aa.aK (E4 a.aa.ag.ls) (E4 (r5 (D2 c.1) (u5 a.aa.aj.ls (D2 c.1) (bM.mk b.bi b.aS b.ax b.aU (E4 d)))++r6 ((D2 c.1)+1) (u5 a.aa.aj.ls (D2 c.1) (bM.mk b.bi b.aS b.ax b.aU (E4 d))))) (E4 a.aa.aI.ls)) a.bI (E4 a.ak.ls) a.aR a.aN a.aO a.aP a.aM a.di a.cz a.cK a.cB a.cu) else(f,aB.mk (dC.mk a.aa.av a.aa.ax a.aa.bf a.aa.aK (E4 a.aa.ag.ls) (E4 (u5 a.aa.aj.ls (D2 c.1) (bM.mk b.bi b.aS b.ax b.aU (E4 d)))) (E4 a.aa.aI.ls)) a.bI (E4 a.ak.ls) a.aR a.aN a.aO a.aP a.aM a.di a.cz a.cK a.cB a.cu) else(f,a)
set_option maxHeartbeats 4000000 in
theorem wE (w:World) (D:Nat→Prop) (g0:Nat) (p0:bH) (u:Option Addr) (z:Nat) (t:List bF) (p:bQ) (aj:Option Addr) (aP Y:Nat) (ak:Option Addr) (aQ Z:Nat) (au:List af) (av:Option Addr) (aR aa:Nat) (l:Nat) (a:aB) (C:Option Addr) (E:Nat) (g:Option Addr) (n:Nat) (h:List aA) (F:Option Addr) (G:Nat) (I:Option Addr) (J:Nat) (K:Option Addr) (L:Nat) (M:Option Addr) (N:Nat) (O:Option Addr) (P:Nat) (Q:Option Addr) (R:Nat) (S:Option Addr) (T:Nat) (r0:bH) (B:aB) (H:Own w D w [blk g0 [.pointer (some ⟨l,0,none⟩), .slice u p0.bB.ls.length z] 98,row u p0.bB.ls.length z (q6 bF.cells t) 42 21,sepL (q6 bF.own t),blk l [.int .i64 a.aa.av, .int .u64 ((a.aa.ax:Nat):Int), .int .u64 ((a.aa.bf:Nat):Int), .int .u64 ((a.aa.aK:Nat):Int), .slice C a.aa.ag.ls.length E, .slice g a.aa.aj.ls.length n, .slice F a.aa.aI.ls.length G, .int .u64 ((a.bI:Nat):Int), .slice I a.ak.ls.length J, .bool a.aR.aT, .int .u64 ((a.aR.aF:Nat):Int), .int .i64 a.aR.bn, .slice K a.aR.ae.ls.length L, .bool a.aN.aT, .int .u64 ((a.aN.aF:Nat):Int), .int .i64 a.aN.bn, .slice M a.aN.ae.ls.length N, .bool a.aO.aT, .int .u64 ((a.aO.aF:Nat):Int), .int .i64 a.aO.bn, .slice O a.aO.ae.ls.length P, .bool a.aP.aT, .int .u64 ((a.aP.aF:Nat):Int), .int .i64 a.aP.bn, .slice Q a.aP.ae.ls.length R, .bool a.aM.aT, .int .u64 ((a.aM.aF:Nat):Int), .int .i64 a.aM.bn, .slice S a.aM.ae.ls.length T, .int .u64 ((a.di:Nat):Int), .int .u64 ((a.cz:Nat):Int), .int .u64 ((a.cK:Nat):Int), .int .u64 ((a.cB:Nat):Int), .int .u64 ((a.cu:Nat):Int), .pointer none] 86,row g a.aa.aj.ls.length n (q6 aA.cells h) 60 5,sepL (q6 aA.own h)]) (W:s8 bF.abs t=p0.bB.ls) (aY:aP=p.aG.ls.length) (aZ:Ro w D fun w'=>bD w' 6 aj p.aG.ls.length (q6 bC.cells p.aG.ls)) (dn:p.aG.ls.length≤Y∧p.aG.ls.length≤9223372036854775807) (aH:s8 af.abs au=p.ah.ls) (bf:aQ=p.ah.ls.length) (bg:Ro w D fun w'=>bD w' 3 ak p.ah.ls.length (q6 af.cells au)) (dw:p.ah.ls.length≤Z∧p.ah.ls.length≤9223372036854775807) (aI:∀ x ∈ au,Ro w D (fun w'=>bD w' 2 x.au.A x.au.ls.length (q6 aL.cells x.au.ls))∧(x.au.ls.length≤x.au.c∧x.au.ls.length≤9223372036854775807)) (bi:aR=p.ag.ls.length) (bn:Ro w D fun w'=>bD w' 2 av p.ag.ls.length (q6 bv.cells p.ag.ls)) (dx:p.ag.ls.length≤aa∧p.ag.ls.length≤9223372036854775807) (m:s8 aA.abs h=a.aa.aj.ls) (eP:a.aa.ag.ls.length≤1000∧a.aa.aj.ls.length≤1000∧a.aa.aI.ls.length≤1000∧a.ak.ls.length≤1000∧p0.bB.ls.length≤100000) (eQ:Dk a.aa.aj.ls) (hr:jY p0 p a=(r0,B)):
    Calls y4 58 #[vP g0 0, .agg (gD p.aH p.aJ p.eO p.aS p.dz p.eu p.aU p.ax p.bi p.dW p.bf p.aK p.dI p.cZ p.xN p.d9 p.bV.bK p.bV.bW aj aP Y ak aQ Z av aR aa).toArray] w (dR fun v w'=> ∃ (B0ox0:Option Addr) (b0ox0:Nat) (e0ox0:List bF) (B1ox1:Option Addr) (b1ox1:Nat) (e1ox1:List aA),v= .tuple #[]∧Own w D w' [blk g0 [vP l 0, .slice B0ox0 r0.bB.ls.length b0ox0] 98,row B0ox0 r0.bB.ls.length b0ox0 (q6 bF.cells e0ox0) 42 21,sepL (q6 bF.own e0ox0),blk l [vI B.aa.av,vU B.aa.ax,vU B.aa.bf,vU B.aa.aK, .slice C a.aa.ag.ls.length E, .slice B1ox1 B.aa.aj.ls.length b1ox1, .slice F a.aa.aI.ls.length G,vU B.bI, .slice I a.ak.ls.length J, .bool B.aR.aT,vU B.aR.aF,vI B.aR.bn, .slice K a.aR.ae.ls.length L, .bool B.aN.aT,vU B.aN.aF,vI B.aN.bn, .slice M a.aN.ae.ls.length N, .bool B.aO.aT,vU B.aO.aF,vI B.aO.bn, .slice O a.aO.ae.ls.length P, .bool B.aP.aT,vU B.aP.aF,vI B.aP.bn, .slice Q a.aP.ae.ls.length R, .bool B.aM.aT,vU B.aM.aF,vI B.aM.bn, .slice S a.aM.ae.ls.length T,vU B.di,vU B.cz,vU B.cK,vU B.cB,vU B.cu, .pointer none] 86,row B1ox1 B.aa.aj.ls.length b1ox1 (q6 aA.cells e1ox1) 60 5,sepL (q6 aA.own e1ox1)]∧(s8 bF.abs e0ox0=r0.bB.ls)∧(s8 aA.abs e1ox1=B.aa.aj.ls)):=by
 subst aY bf bi
 have di:=az W
 have dm:=az aH
 have bB:=az m
 have dz:=H.rowC (i:=1) rfl
 have bE:=H.rowC (i:=4) rfl
 refine cb Tryz.func58 ?_
 refine sr ?_
 refine dM (gT p aj Y ak Z av aa) 42 H ?_
 intro bu eT dA
 refine nt (FU ?_)
 refine xx [] (F8 Gh) dA ?_
 intro eU bA
 refine qv 0 rfl rfl (qp g0 0 1 rfl (qp g0 0 2 rfl (ql 3 rfl 1 O3 rfl rfl rfl (qp bu 8 4 rfl (ql 5 rfl 0 E1 rfl rfl rfl ?_)))))
 refine GX.do 6 rfl e7 (Gd Tryz.call95 rfl ?_ (fun _ _ k=>k))
 refine cb Tryz.func95 ?_
 refine sr (Az rfl (Ar rfl (Mz rfl (Kz (vP l 0) (Kz (vP l 0) (Kz (vP l 5) (Lz (.slice g a.aa.aj.ls.length n) bA 4 D4 (Mz rfl ?_))))))))
 obtain⟨⟨d,ae⟩,ax⟩:∃ q:Int × Bool,bT a.aa.aj.ls p.bi=q:=⟨_,rfl⟩
 obtain⟨eX,bG,dW,bI,aS⟩:=FY bA
 refine cl Tryz.call132 (gW _ _ g a.aa.aj.ls.length n h a.aa.aj.ls p.bi d ae bG m (aS _ 5 _ rfl aV) (fun x9 h9=>⟨aS _ 6 _ rfl (ay (P3.2 ⟨x9,h9,b1⟩) aV),bz (φ:=fun _=>_) bA (i:=6) rfl (ay (P3.2 ⟨x9,h9,b1⟩) bq)⟩) rfl e6 ax) ?_
 rintro _ dB ⟨rfl,bN,aT,aU⟩
 have X:=bI _ _ bN
 replace aT:0≤d∧d≤((a.aa.aj.ls.length:Nat):Int):=aT
 replace aU:Bool.toNat ae=0∨d < ((a.aa.aj.ls.length:Nat):Int):=aU
 refine Kz (vI d) (Kz (.bool ae) (Az rfl (An rfl (rt (Fin.res (lY rfl rfl rfl) ?_)))))
 refine⟨.inr ⟨_,X⟩, ?_⟩
 refine qv 7 rfl rfl (qk (vI d) 8 rfl (qk (.bool ae) 9 rfl (qa 10 rfl rfl (qa 11 rfl rfl (qn (FW (FU (sr (Mz rfl (Kz (.bool (!ae)) (nt ?_)))))))))))
 rcases JQ (ae) with ag | ag
 have h39t:Bool.toNat ae=1:=by rw [ag]; rfl
 refine jF (cn ag) (sk (sr (Mz rfl (Kz (vP g0 0) (Kz (vP g0 0) (Lz (vP l 0) X 1 O3 (Kz (vP l 0) (Kz (vP l 0) (Kz (vP l 5) (Lz (.slice g a.aa.aj.ls.length n) X 4 D4 (fw (vJ (D2 d)) (FV (e:=d) (F7 rfl) e6) ?_)))))))))))
 obtain⟨b,U⟩:=dK (ls:=h) (i:=D2 d) aA.len f3 (X.rds (i:=5) rfl) e9
 have aJ:=fo m U
 have dX:b.av.ls.length≤b.av.c∧b.av.ls.length≤9223372036854775807:=bz X (i:=6) rfl (φ:=fun _=>_) (ay (P3.2 ⟨b,E0 U,b1⟩) bq)
 have dY:b.av.ls.length≤1000:=DJ f4 aJ
 refine fw (.pointer (some ⟨ab g,ao g+(D2 d) *5,none⟩)) (FZ (kG) rfl rfl ((X.rds (i:=5) rfl).addr (i:=D2 d) e6) e6) (Ar rfl (Mz rfl (Mz rfl (Kz (.pointer (some ⟨ab g,ao g+(D2 d) *5,none⟩)) (Kz (.pointer (some ⟨ab g,ao g+(D2 d) *5+4,none⟩)) (fw (.slice b.av.A b.av.ls.length b.av.c) (F5 rfl (bZ.one Tryz.isAgg58 (((X.rds (i:=5) rfl).elem aA.len U f3).at_ (k:=4) rfl))) (Kz (.func (.func 97) #[] #[vP bu 0]) ?_)))))))
 have dD:=X.pf [6]
 have bO:Own w D dB (row b.av.A b.av.ls.length b.av.c (q6 (eI .i64) b.av.ls) 3 1::sepL (q6 aA.own (r5 (D2 d) h)++q6 aA.own (r6 (D2 d+1) h))::_):=GR (f:=aA.own) (i:=D2 d) U dD
 have dZ:=bO.rowC (i:=0) rfl
 have dE:=bO.pf [0,2]
 obtain⟨j,aK⟩:∃ q,iq b.av.ls p=q:=⟨_,rfl⟩
 obtain⟨eY,bP,aC,bR,d9⟩:=Gm dE
 refine cl Tryz.call96 (qU _ _ b.av.A b.av.ls.length b.av.c b.av.ls bu p aj Y ak Z au av aa j bP rfl e6 (aC _ aZ) (show p.aG.ls.length≤Y∧p.aG.ls.length≤9223372036854775807 from by omega) aH (aC _ bg) (show p.ah.ls.length≤Z∧p.ah.ls.length≤9223372036854775807 from by omega) (fun x9 h9=>⟨aC _ (aI x9 h9).1,(aI x9 h9).2⟩) (aC _ bn) (show p.ag.ls.length≤aa∧p.ag.ls.length≤9223372036854775807 from by omega) e6 aK) ?_
 rintro _ dG ⟨r,s,rfl,bS,aW⟩
 have bU:=bR _ _ bS
 have ed:=bU.rowC (i:=0) rfl
 replace aW:j.length≤b.av.ls.length:=aW
 refine Kz (.pointer (some ⟨ab g,ao g+(D2 d) *5,none⟩)) (Kz (.pointer (some ⟨ab g,ao g+(D2 d) *5+4,none⟩)) ?_)
 have dH:=bU.pf [0,2]
 have dI:Own w D dG (sepL (q6 aA.own (u5 h (D2 d) (aA.mk b.bi b.aS b.ax b.aU (H5 r s j))))::_):=GJ (f:=aA.own) (y:=(aA.mk b.bi b.aS b.ax b.aU (H5 r s j))) U dH
 have dJ:=dI.pf [6]
 refine GV (Do.storeRow (vs:= [.slice r j.length s]) (o:=(D2 d) *5+4) (q:=ao g+(D2 d) *5+4) dJ rfl e6 rfl Tryz.sizeOf58 rfl rfl (JM rfl) (iK aA.len U (JM rfl)) (jE (y:=(aA.mk b.bi b.aS b.ax b.aU (H5 r s j))) aA.len rfl (JM rfl) U) ?_)
 intro bV dL
 have ek:s2 (u5 h (D2 d) (aA.mk b.bi b.aS b.ax b.aU (H5 r s j)))=s2 (u5 a.aa.aj.ls (D2 d) (bM.mk b.bi b.aS b.ax b.aU (E4 j))):=az (iB m rfl)
 have eu:s2 (u5 a.aa.aj.ls (D2 d) (bM.mk b.bi b.aS b.ax b.aU (E4 j)))=a.aa.aj.ls.length:=H6
 refine nt (FU ?_)
 have aM:=dL.px [] [2] []
 refine FT (Mz rfl (Kz (.pointer (some ⟨ab g,ao g+(D2 d) *5,none⟩)) (Kz (.pointer (some ⟨ab g,ao g+(D2 d) *5+4,none⟩)) ?_)))
 obtain⟨V,aD⟩:=dK (ls:=(u5 h (D2 d) (aA.mk b.bi b.aS b.ax b.aU (H5 r s j)))) (i:=D2 d) aA.len f3 (aM.rds (i:=0) rfl) e9
 have aX:=fo (iB m rfl) aD
 have eB:V.av.ls.length≤V.av.c∧V.av.ls.length≤9223372036854775807:=bz aM (i:=1) rfl (φ:=fun _=>_) (ay (P3.2 ⟨V,E0 aD,b1⟩) bq)
 refine fw (.slice V.av.A V.av.ls.length V.av.c) (F5 rfl (bZ.one Tryz.isAgg58 (((aM.rds (i:=0) rfl).elem aA.len aD f3).at_ (k:=4) rfl))) (Kz (vJ V.av.ls.length) (Kz (.bool (decide (((V.av.ls.length:Nat):Int)=0))) (nt ?_)))
 by_cases aO:((V.av.ls.length:Nat):Int)=0
 refine jT (dT aO) ?_
 have aN:a.aa.aj.ls.length=s2 (u5 a.aa.aj.ls (D2 d) (bM.mk b.bi b.aS b.ax b.aU (E4 j))):=by first | omega | (simp only [H6]; done) | (simp only [H6,p5,s3,G1,p3,p4,H7]; omega)
 have dN:Own w D bV [row g (s2 (u5 a.aa.aj.ls (D2 d) (bM.mk b.bi b.aS b.ax b.aU (E4 j)))) n (q6 aA.cells (u5 h (D2 d) (aA.mk b.bi b.aS b.ax b.aU (H5 r s j)))) 60 5,sepL (q6 aA.own (u5 h (D2 d) (aA.mk b.bi b.aS b.ax b.aU (H5 r s j)))),blk g0 [vP l 0, .slice u p0.bB.ls.length z] 98,row u p0.bB.ls.length z (q6 bF.cells t) 42 21,sepL (q6 bF.own t),blk l [vI a.aa.av,vU a.aa.ax,vU a.aa.bf,vU a.aa.aK, .slice C a.aa.ag.ls.length E, .slice g (s2 (u5 a.aa.aj.ls (D2 d) (bM.mk b.bi b.aS b.ax b.aU (E4 j)))) n, .slice F a.aa.aI.ls.length G,vU a.bI, .slice I a.ak.ls.length J, .bool a.aR.aT,vU a.aR.aF,vI a.aR.bn, .slice K a.aR.ae.ls.length L, .bool a.aN.aT,vU a.aN.aF,vI a.aN.bn, .slice M a.aN.ae.ls.length N, .bool a.aO.aT,vU a.aO.aF,vI a.aO.bn, .slice O a.aO.ae.ls.length P, .bool a.aP.aT,vU a.aP.aF,vI a.aP.bn, .slice Q a.aP.ae.ls.length R, .bool a.aM.aT,vU a.aM.aF,vI a.aM.bn, .slice S a.aM.ae.ls.length T,vU a.di,vU a.cz,vU a.cK,vU a.cB,vU a.cu, .pointer none] 86]:=by rw [← aN]; exact aM
 have dO:=dN.pf [2,5]
 refine pG [19] Gh dO ?_
 intro eZ dP
 refine qv 0 rfl rfl (qp g0 0 1 rfl (qp g0 0 2 rfl (ql 3 rfl 0 O3 rfl rfl rfl (qv 4 rfl rfl (qp g0 0 5 rfl (qp g0 0 6 rfl (ql 7 rfl 0 O3 rfl rfl rfl (qp l 0 8 rfl (qp l 0 9 rfl (qp l 5 10 rfl (ql 11 rfl 1 D4 rfl rfl rfl (qv 12 rfl rfl (qv 13 rfl rfl (qt (v:=vI (d+1)) 14 rfl (fun _ _=>FV (e:=C7.wrap (d+1)) yk g2) ?_))))))))))))))
 have dQ:=dP.pf [2,3]
 obtain⟨fe,bW,eD,bX,eF⟩:=Gm dQ
 refine qd 15 rfl (Gd Tryz.call98 rfl (vw _ _ g (s2 (u5 a.aa.aj.ls (D2 d) (bM.mk b.bi b.aS b.ax b.aU (E4 j)))) n (u5 h (D2 d) (aA.mk b.bi b.aS b.ax b.aU (H5 r s j))) (u5 a.aa.aj.ls (D2 d) (bM.mk b.bi b.aS b.ax b.aU (E4 j))) d (d+1) (D2 d) V bW e6 (iB m rfl) e6 e6 e6 aD) ?_)
 rintro _ fq ⟨bY,cu,rfl,cz⟩
 have cB:=bX _ _ cz
 have eG:s2 (r5 (D2 d) (u5 h (D2 d) (aA.mk b.bi b.aS b.ax b.aU (H5 r s j)))++r6 ((D2 d)+1) (u5 h (D2 d) (aA.mk b.bi b.aS b.ax b.aU (H5 r s j))))=s2 (r5 (D2 d) (u5 a.aa.aj.ls (D2 d) (bM.mk b.bi b.aS b.ax b.aU (E4 j)))++r6 ((D2 d)+1) (u5 a.aa.aj.ls (D2 d) (bM.mk b.bi b.aS b.ax b.aU (E4 j)))):=by exact az (oZ (iB m rfl))
 have eH:s2 (r5 (D2 d) (u5 a.aa.aj.ls (D2 d) (bM.mk b.bi b.aS b.ax b.aU (E4 j)))++r6 ((D2 d)+1) (u5 a.aa.aj.ls (D2 d) (bM.mk b.bi b.aS b.ax b.aU (E4 j))))+1=s2 (u5 a.aa.aj.ls (D2 d) (bM.mk b.bi b.aS b.ax b.aU (E4 j))):=by simp only [p5,p3,p4]; omega
 have eO:=cB.rowC (i:=2) rfl
 have cK:=cB.pf [3,4]
 refine⟨.inr ⟨_,cK⟩, ?_⟩
 refine qp l 0 16 rfl (qp l 0 17 rfl (qp l 5 18 rfl ?_))
 have dS:=cK.pf [1]
 refine qe 19 rfl (Do.store (vs:= [.slice bY (s2 (r5 (D2 d) (u5 a.aa.aj.ls (D2 d) (bM.mk b.bi b.aS b.ax b.aU (E4 j)))++r6 ((D2 d)+1) (u5 a.aa.aj.ls (D2 d) (bM.mk b.bi b.aS b.ax b.aU (E4 j))))) cu]) (o:=5) dS rfl rfl Tryz.sizeOf30 rfl rfl rfl rfl ?_)
 intro fu dU
 refine⟨.inl e7, ?_⟩
 refine qn (Gf (res0 rfl) ?_)
 have dV:=dU.px [] [4] [0,2,3]
 obtain⟨rfl,rfl⟩:=gm (hr.symm.trans (show _=(p0,aB.mk (dC.mk a.aa.av a.aa.ax a.aa.bf a.aa.aK (E4 a.aa.ag.ls) (E4 (r5 (D2 d) (u5 a.aa.aj.ls (D2 d) (bM.mk b.bi b.aS b.ax b.aU (E4 j)))++r6 ((D2 d)+1) (u5 a.aa.aj.ls (D2 d) (bM.mk b.bi b.aS b.ax b.aU (E4 j))))) (E4 a.aa.aI.ls)) a.bI (E4 a.ak.ls) a.aR a.aN a.aO a.aP a.aM a.di a.cz a.cK a.cB a.cu) from et (ai ax) (et (ip ag) (et (ai (bJ aJ)) (et (ai aK) (et (ai (bJ aX)) (ip aO)))))))
 exact⟨u,z,t,bY,cu,(r5 (D2 d) (u5 h (D2 d) (aA.mk b.bi b.aS b.ax b.aU (H5 r s j)))++r6 ((D2 d)+1) (u5 h (D2 d) (aA.mk b.bi b.aS b.ax b.aU (H5 r s j)))),(by first | rfl | (rw [← aN]; done) | (rw [← aN]; rfl)),dV,W,(oZ (iB m rfl))⟩
 refine jF (dF aO) (Gj (Gf (res0 rfl) ?_))
 have ah:a.aa.aj.ls.length=s2 (u5 a.aa.aj.ls (D2 d) (bM.mk b.bi b.aS b.ax b.aU (E4 j))):=by first | omega | (simp only [H6]; done) | (simp only [H6,p5,s3,G1,p3,p4,H7]; omega)
 have cO:Own w D bV [row g (s2 (u5 a.aa.aj.ls (D2 d) (bM.mk b.bi b.aS b.ax b.aU (E4 j)))) n (q6 aA.cells (u5 h (D2 d) (aA.mk b.bi b.aS b.ax b.aU (H5 r s j)))) 60 5,sepL (q6 aA.own (u5 h (D2 d) (aA.mk b.bi b.aS b.ax b.aU (H5 r s j)))),blk g0 [vP l 0, .slice u p0.bB.ls.length z] 98,row u p0.bB.ls.length z (q6 bF.cells t) 42 21,sepL (q6 bF.own t),blk l [vI a.aa.av,vU a.aa.ax,vU a.aa.bf,vU a.aa.aK, .slice C a.aa.ag.ls.length E, .slice g (s2 (u5 a.aa.aj.ls (D2 d) (bM.mk b.bi b.aS b.ax b.aU (E4 j)))) n, .slice F a.aa.aI.ls.length G,vU a.bI, .slice I a.ak.ls.length J, .bool a.aR.aT,vU a.aR.aF,vI a.aR.bn, .slice K a.aR.ae.ls.length L, .bool a.aN.aT,vU a.aN.aF,vI a.aN.bn, .slice M a.aN.ae.ls.length N, .bool a.aO.aT,vU a.aO.aF,vI a.aO.bn, .slice O a.aO.ae.ls.length P, .bool a.aP.aT,vU a.aP.aF,vI a.aP.bn, .slice Q a.aP.ae.ls.length R, .bool a.aM.aT,vU a.aM.aF,vI a.aM.bn, .slice S a.aM.ae.ls.length T,vU a.di,vU a.cz,vU a.cK,vU a.cB,vU a.cu, .pointer none] 86]:=by rw [← ah]; exact aM
 have cZ:=cO.pb [0,1]
 obtain⟨rfl,rfl⟩:=gm (hr.symm.trans (show _=(p0,aB.mk (dC.mk a.aa.av a.aa.ax a.aa.bf a.aa.aK (E4 a.aa.ag.ls) (E4 (u5 a.aa.aj.ls (D2 d) (bM.mk b.bi b.aS b.ax b.aU (E4 j)))) (E4 a.aa.aI.ls)) a.bI (E4 a.ak.ls) a.aR a.aN a.aO a.aP a.aM a.di a.cz a.cK a.cB a.cu) from et (ai ax) (et (ip ag) (et (ai (bJ aJ)) (et (ai aK) (et (ai (bJ aX)) (iN aO)))))))
 exact⟨u,z,t,g,n,(u5 h (D2 d) (aA.mk b.bi b.aS b.ax b.aU (H5 r s j))),(by first | rfl | (rw [← ah]; done) | (rw [← ah]; rfl)),cZ,W,(iB m rfl)⟩
 have h39t:Bool.toNat ae=0:=by rw [ag]; rfl
 refine jT (cn ag) (rt (tR (Fin.res (res0 rfl) ?_)))
 have df:=X.px [] [0] []
 obtain⟨rfl,rfl⟩:=gm (hr.symm.trans (show _=(p0,a) from et (ai ax) (gB ag)))
 exact⟨u,z,t,g,n,h,rfl,df,W,m⟩
def gp:List gq→List Int→(List Int)
  | [],a=>a
  | b::c,a=>gp c (a++ [b.dV])
def jQ (a:dE):(List Int):=
 bnd (gp a.aD.ls ([])) fun sLrL=>sLrL
theorem qL (w:World) (D:Nat→Prop) (L:Nat) (a:dE) (j:Option Addr) (l:Nat) (f:Option Addr) (g:Nat) (u:List bG) (n:Option Addr) (o:Nat) (p:Option Addr) (r:Nat) (B:List bO) (W:List Int) (H:Own w D w [blk L (BC a j l f g n o p r) 107]) (Z:Ro w D fun w'=>bD w' 6 j a.bS.ls.length (q6 bC.cells a.bS.ls)) (aa:a.bS.ls.length≤l∧a.bS.ls.length≤9223372036854775807) (C:s8 bG.abs u=a.aD.ls) (t:Ro w D fun w'=>bD w' 3 f a.aD.ls.length (q6 bG.cells u)) (ae:a.aD.ls.length≤g∧a.aD.ls.length≤9223372036854775807) (E:∀ x ∈ u,Ro w D (fun w'=>bD w' 6 x.aG.A x.aG.ls.length (q6 bC.cells x.aG.ls))∧(x.aG.ls.length≤x.aG.c∧x.aG.ls.length≤9223372036854775807)∧Ro w D (fun w'=>bD w' 1 x.aJ.A x.aJ.ls.length (q6 (eI .i64) x.aJ.ls))∧(x.aJ.ls.length≤x.aJ.c∧x.aJ.ls.length≤9223372036854775807)) (ag:Ro w D fun w'=>bD w' 1 n a.bE.ls.length (q6 eL a.bE.ls)) (ah:a.bE.ls.length≤o∧a.bE.ls.length≤9223372036854775807) (M:s8 bO.abs B=a.ae.ls) (aj:Ro w D fun w'=>bD w' 1 p a.ae.ls.length (q6 (Gy (β:=af)) B)) (ak:a.ae.ls.length≤r∧a.ae.ls.length≤9223372036854775807) (au:∀ x ∈ B,Ro w D (fun w'=>bD w' 3 x.A x.ls.length (q6 af.cells x.ls))∧(x.ls.length≤x.c∧x.ls.length≤9223372036854775807)∧(∀ O ∈ x.ls,Ro w D (fun w'=>bD w' 2 O.au.A O.au.ls.length (q6 aL.cells O.au.ls))∧(O.au.ls.length≤O.au.c∧O.au.ls.length≤9223372036854775807))) (aS:a.aD.ls.length≤1000) (hr:jQ a=W):
    Calls y4 107 #[vP L 0] w (dR fun v w'=> ∃ (B0:Option Addr) (b0:Nat),v= .slice B0 W.length b0∧Own w D w' [row B0 W.length b0 (q6 (eI .i64) W) 3 1,blk L (BC a j l f g n o p r) 107]):=by
 have X:=az C
 have Y:=az M
 refine cb Tryz.func107 ?_
 refine sr (Ar rfl (An rfl (FU (sr (Mz rfl (Kz (vP L 0) (Kz (vP L 5) (Lz (.slice f a.aD.ls.length g) H 0 Tryz.isAgg103 (Kz (vJ a.aD.ls.length) (Mn rfl (bo ?_)))))))))))
 have av:Own w D w [row none 0 0 (q6 (eI .i64) ([])) 3 1,blk L (BC a j l f g n o p r) 107]:=H.free (fB 3 1)
 have ax:=av.pb [0]
 obtain⟨ay,F⟩:=rX fun(I:Option Addr) (J:Nat) (d:List Int) (b:Nat) (w':World)=>Own w D w' [blk L (BC a j l f g n o p r) 107,row I d.length J (q6 (eI .i64) d) 3 1]∧b≤a.aD.ls.length∧d.length=b∧d.length≤b∧gp a.aD.ls ([])=gp (r6 b a.aD.ls) d
 refine C5 (fun i:(Option Addr) × Nat × (List Int) × Nat=> [(3, .slice i.1 i.2.2.1.length i.2.1),(11,vJ i.2.2.2),(10,vJ a.aD.ls.length),(9, .slice f a.aD.ls.length g),(2, .slice none 0 0)]) ay (fun i=>a.aD.ls.length - i.2.2.2) (none,0, [],0) ⟨rfl,rfl,rfl,rfl,rfl,trivial⟩ (F.2 ⟨ax,(show 0≤a.aD.ls.length∧0=0∧0≤0∧gp a.aD.ls ([])=gp (r6 0 a.aD.ls) ([]) from ⟨e6,e6,e6,rfl⟩)⟩) ?_
 rintro ⟨I,J,d,b⟩ aT P
 obtain⟨G,aM,aN,aO,K⟩:=F.1 P
 refine sr (Kz (.bool (decide (((b:Nat):Int) < ((a.aD.ls.length:Nat):Int)))) (nt (FU ?_)))
 by_cases Q:((b:Nat):Int) < ((a.aD.ls.length:Nat):Int)
 obtain⟨h,z⟩:=dK (ls:=u) (i:=b) bG.len f3 (G.ro t) e9
 have R:=fo C z
 have aP:=(E _ (E0 z)).2.1
 have aQ:=(E _ (E0 z)).2.2.2
 have S:=drop_at R
 refine jT (dT Q) (sk (FU (bo (sr (fw (.pointer (some ⟨ab f,ao f+b *3,none⟩)) (FZ (tH) rfl rfl ((G.ro t).addr (i:=b) e6) e6) (fw (.agg (bG.cells h).toArray) (F5 rfl (Gc (cs:=(bG.cells h)) Tryz.isAgg172 Tryz.sizeOf172 ((G.ro t).elem bG.len z f3))) ?_))))))
 refine dM [vI 0, .slice none 0 0, .slice none 0 0] 172 G ?_
 intro aA aU aB
 refine dN (bG.cells h) 0 aB Tryz.sizeOf172 ?_
 intro aV T
 refine nt (FT (Mz rfl (Kz (vP aA 0) (Lz (vI h.dV) T 0 C6 ?_))))
 refine kL [vI h.dV] 3 1 1 T ?_
 intro aC aW N
 replace N:=Gq (y:=row aC 1 1 (q6 (eI .i64) ([h.dV])) 3 1) rfl N
 have U:=N.pf [3]
 refine WL.do rfl (Gr (k:=d.length) (m:=1) (ng) U rfl rfl (iU Tryz.underlying58 (U.rds (i:=1) rfl) (fF uV ([h.dV]))) rfl e6 (s:=s2 (d++ [h.dV])) f7 (List.flatMap_append).symm ?_)
 intro aD aF aX aG
 have aR:s2 (d++ [h.dV])=d.length+1:=by simp only [p5,s3,G1]
 refine Az rfl (D0 (bN (FW (FT (fw (vJ (b+1)) (FV (e:=C7.wrap (((b:Nat):Int)+1)) yk f1) (Mz rfl (D0 ?_)))))))
 have aH:=aG.pk [3,0]
 exact F9 (aD,aF,(d++ [h.dV]),b+1) ⟨rfl,rfl,rfl,rfl,rfl,trivial⟩ (F.2 ⟨aH,e6,e6,e6,et (K) (et (congrArg (fun q=>gp q d) S) rfl)⟩) (by show a.aD.ls.length - (b+1) < a.aD.ls.length - b; omega)
 refine jF (dF Q) (D1 (F4 ?_))
 have V:gp a.aD.ls ([])=d:=et (K) (et (congrArg (fun q=>gp q d) (eZ (ls:=a.aD.ls) (i:=b) e6)) rfl)
 refine F4 (Gg (FW (sr (Mz rfl (An rfl (rt (rs ?_)))))))
 have aI:=G.pb [0]
 obtain rfl:_=d:=hr.symm.trans (ai V)
 exact⟨I,J,rfl,aI⟩
theorem zZ:∀ (l:List gq) (o:List Int),s2 (gp l o)=o.length+l.length
  | [],o=>rfl
  | x::q,o=>by
    simp only [gp]
    rw [zZ q]
    simp only [p5,s3,G1]; omega
theorem xQ {x:dE} {r:List Int} (h:jQ x=r):r.length=x.aD.ls.length:=by
 rw [← h]; exact(zZ x.aD.ls []).trans (Nat.zero_add _)
def eH (g:bH) (f:Int) (a:aB):bH × aB:=
 bnd (C2 a.ak.ls (D2 f) default) fun c=>bnd (dB g c.aQ c.aF 2 ([]) (aB.mk a.aa a.bI (E4 (r5 (D2 f) a.ak.ls++r6 ((D2 f)+1) a.ak.ls)) a.aR a.aN a.aO a.aP a.aM a.di a.cz a.cK a.cB a.cu)) fun b=>bnd (jQ (dE.mk c.aX c.aQ c.aF c.dh (E4 c.bS.ls) (E4 c.aD.ls) (E4 c.bE.ls) (E4 c.ae.ls) c.dO)) fun d=>bnd (eG b.1 c.aX d false) fun e=>(e,aB.mk (dC.mk b.2.aa.av b.2.aa.ax b.2.aa.bf b.2.aa.aK (E4 a.aa.ag.ls) (E4 a.aa.aj.ls) (E4 a.aa.aI.ls)) b.2.bI (E4 (r5 (D2 f) a.ak.ls++r6 ((D2 f)+1) a.ak.ls)) b.2.aR b.2.aN b.2.aO b.2.aP b.2.aM b.2.di b.2.cz b.2.cK b.2.cB b.2.cu)
set_option maxHeartbeats 4000000 in
theorem mQ (w:World) (D:Nat→Prop) (g0:Nat) (p0:bH) (ak:Option Addr) (au:Nat) (ah:List bF) (m:Int) (g:Nat) (a:aB) (z:Option Addr) (B:Nat) (C:Option Addr) (E:Nat) (F:Option Addr) (G:Nat) (k:Option Addr) (p:Nat) (d:List bA) (I:Option Addr) (J:Nat) (r:List af) (K:Option Addr) (L:Nat) (s:List af) (M:Option Addr) (N:Nat) (t:List af) (O:Option Addr) (P:Nat) (u:List af) (Q:Option Addr) (R:Nat) (x:List af) (r0:bH) (f:aB) (H:Own w D w [blk g0 [.pointer (some ⟨g,0,none⟩), .slice ak p0.bB.ls.length au] 98,row ak p0.bB.ls.length au (q6 bF.cells ah) 42 21,sepL (q6 bF.own ah),blk g [.int .i64 a.aa.av, .int .u64 ((a.aa.ax:Nat):Int), .int .u64 ((a.aa.bf:Nat):Int), .int .u64 ((a.aa.aK:Nat):Int), .slice z a.aa.ag.ls.length B, .slice C a.aa.aj.ls.length E, .slice F a.aa.aI.ls.length G, .int .u64 ((a.bI:Nat):Int), .slice k a.ak.ls.length p, .bool a.aR.aT, .int .u64 ((a.aR.aF:Nat):Int), .int .i64 a.aR.bn, .slice I a.aR.ae.ls.length J, .bool a.aN.aT, .int .u64 ((a.aN.aF:Nat):Int), .int .i64 a.aN.bn, .slice K a.aN.ae.ls.length L, .bool a.aO.aT, .int .u64 ((a.aO.aF:Nat):Int), .int .i64 a.aO.bn, .slice M a.aO.ae.ls.length N, .bool a.aP.aT, .int .u64 ((a.aP.aF:Nat):Int), .int .i64 a.aP.bn, .slice O a.aP.ae.ls.length P, .bool a.aM.aT, .int .u64 ((a.aM.aF:Nat):Int), .int .i64 a.aM.bn, .slice Q a.aM.ae.ls.length R, .int .u64 ((a.di:Nat):Int), .int .u64 ((a.cz:Nat):Int), .int .u64 ((a.cK:Nat):Int), .int .u64 ((a.cB:Nat):Int), .int .u64 ((a.cu:Nat):Int), .pointer none] 86,row k a.ak.ls.length p (q6 bA.cells d) 107 9,sepL (q6 bA.own d),row I a.aR.ae.ls.length J (q6 af.cells r) 149 3,sepL (q6 af.own r),row K a.aN.ae.ls.length L (q6 af.cells s) 149 3,sepL (q6 af.own s),row M a.aO.ae.ls.length N (q6 af.cells t) 149 3,sepL (q6 af.own t),row O a.aP.ae.ls.length P (q6 af.cells u) 149 3,sepL (q6 af.own u),row Q a.aM.ae.ls.length R (q6 af.cells x) 149 3,sepL (q6 af.own x)]) (av:s8 bF.abs ah=p0.bB.ls) (h:s8 bA.abs d=a.ak.ls) (S:s8 af.abs r=a.aR.ae.ls) (T:s8 af.abs s=a.aN.ae.ls) (U:s8 af.abs t=a.aO.ae.ls) (V:s8 af.abs u=a.aP.ae.ls) (W:s8 af.abs x=a.aM.ae.ls) (iw:a.aa.ag.ls.length≤1000∧a.aa.aj.ls.length≤1000∧a.aa.aI.ls.length≤1000∧a.ak.ls.length≤1000∧p0.bB.ls.length≤100000) (iy:Ak a.ak.ls) (iA:0≤m∧m < ((a.ak.ls.length:Nat):Int)) (hr:eH p0 m a=(r0,f)):
    Calls y4 63 #[vP g0 0,vI m] w (dR fun v w'=> ∃ (B0ox0:Option Addr) (b0ox0:Nat) (e0ox0:List bF) (B1ox3:Option Addr) (b1ox3:Nat) (e1ox3:List bA) (B1ox4:Option Addr) (b1ox4:Nat) (e1ox4:List af) (B1ox5:Option Addr) (b1ox5:Nat) (e1ox5:List af) (B1ox6:Option Addr) (b1ox6:Nat) (e1ox6:List af) (B1ox7:Option Addr) (b1ox7:Nat) (e1ox7:List af) (B1ox8:Option Addr) (b1ox8:Nat) (e1ox8:List af),v= .tuple #[]∧Own w D w' [blk g0 [vP g 0, .slice B0ox0 r0.bB.ls.length b0ox0] 98,row B0ox0 r0.bB.ls.length b0ox0 (q6 bF.cells e0ox0) 42 21,sepL (q6 bF.own e0ox0),blk g [vI f.aa.av,vU f.aa.ax,vU f.aa.bf,vU f.aa.aK, .slice z a.aa.ag.ls.length B, .slice C a.aa.aj.ls.length E, .slice F a.aa.aI.ls.length G,vU f.bI, .slice B1ox3 f.ak.ls.length b1ox3, .bool f.aR.aT,vU f.aR.aF,vI f.aR.bn, .slice B1ox4 f.aR.ae.ls.length b1ox4, .bool f.aN.aT,vU f.aN.aF,vI f.aN.bn, .slice B1ox5 f.aN.ae.ls.length b1ox5, .bool f.aO.aT,vU f.aO.aF,vI f.aO.bn, .slice B1ox6 f.aO.ae.ls.length b1ox6, .bool f.aP.aT,vU f.aP.aF,vI f.aP.bn, .slice B1ox7 f.aP.ae.ls.length b1ox7, .bool f.aM.aT,vU f.aM.aF,vI f.aM.bn, .slice B1ox8 f.aM.ae.ls.length b1ox8,vU f.di,vU f.cz,vU f.cK,vU f.cB,vU f.cu, .pointer none] 86,row B1ox3 f.ak.ls.length b1ox3 (q6 bA.cells e1ox3) 107 9,sepL (q6 bA.own e1ox3),row B1ox4 f.aR.ae.ls.length b1ox4 (q6 af.cells e1ox4) 149 3,sepL (q6 af.own e1ox4),row B1ox5 f.aN.ae.ls.length b1ox5 (q6 af.cells e1ox5) 149 3,sepL (q6 af.own e1ox5),row B1ox6 f.aO.ae.ls.length b1ox6 (q6 af.cells e1ox6) 149 3,sepL (q6 af.own e1ox6),row B1ox7 f.aP.ae.ls.length b1ox7 (q6 af.cells e1ox7) 149 3,sepL (q6 af.own e1ox7),row B1ox8 f.aM.ae.ls.length b1ox8 (q6 af.cells e1ox8) 149 3,sepL (q6 af.own e1ox8)]∧(s8 bF.abs e0ox0=r0.bB.ls)∧(s8 bA.abs e1ox3=f.ak.ls)∧(s8 af.abs e1ox4=f.aR.ae.ls)∧(s8 af.abs e1ox5=f.aN.ae.ls)∧(s8 af.abs e1ox6=f.aO.ae.ls)∧(s8 af.abs e1ox7=f.aP.ae.ls)∧(s8 af.abs e1ox8=f.aM.ae.ls)):=by
 have dV:=az av
 have bI:=az h
 have bK:=az S
 have bL:=az T
 have bM:=az U
 have bN:=az V
 have bP:=az W
 have dW:=H.rowC (i:=1) rfl
 have bQ:=H.rowC (i:=4) rfl
 have bR:=H.rowC (i:=6) rfl
 have bS:=H.rowC (i:=8) rfl
 have bT:=H.rowC (i:=10) rfl
 have bU:=H.rowC (i:=12) rfl
 have bV:=H.rowC (i:=14) rfl
 refine cb Tryz.func63 ?_
 refine sr (Mz rfl (Kz (vP g0 0) (Kz (vP g0 0) (Lz (vP g 0) H 0 O3 (Kz (vP g 0) (Kz (vP g 8) (Lz (.slice k a.ak.ls.length p) H 3 P1 (fw (vJ (D2 m)) (FV (e:=m) (F7 rfl) e6) ?_))))))))
 obtain⟨b,y⟩:=dK (ls:=d) (i:=D2 m) bA.len f3 (H.rds (i:=4) rfl) e9
 have aQ:=fo h y
 have gy:b.bS.ls.length≤b.bS.c∧b.bS.ls.length≤9223372036854775807:=bz H (i:=5) rfl (φ:=fun _=>_) (ay (P3.2 ⟨b,E0 y,b1⟩) bq)
 have gz:b.aD.ls.length≤b.aD.c∧b.aD.ls.length≤9223372036854775807:=bz H (i:=5) rfl (φ:=fun _=>_) (ay (P3.2 ⟨b,E0 y, .tail _ b1⟩) bq)
 have gB:b.bE.ls.length≤b.bE.c∧b.bE.ls.length≤9223372036854775807:=bz H (i:=5) rfl (φ:=fun _=>_) (ay (P3.2 ⟨b,E0 y, .tail _ b2⟩) bq)
 have gD:b.ae.ls.length≤b.ae.c∧b.ae.ls.length≤9223372036854775807:=bz H (i:=5) rfl (φ:=fun _=>_) (ay (P3.2 ⟨b,E0 y, .tail _ b3⟩) bq)
 have X:Tok (bA.abs b):=xM f8 aQ
 have gF:1≤b.aQ∧b.aQ≤4:=X.Aq
 have gG:b.bE.ls.length=b.aD.ls.length:=by have q9:=X.yes; simp only [bA.abs,s6] at q9; exact q9
 have gH:b.ae.ls.length=b.aD.ls.length:=by have q9:=X.res; simp only [bA.abs,s6] at q9; exact q9
 have gI:b.aD.ls.length≤5:=by have q9:=X.len; simp only [bA.abs,s6] at q9; exact q9
 have gJ:b.bS.ls.length≤24:=X.ops.1
 refine fw (.pointer (some ⟨ab k,ao k+(D2 m) *9,none⟩)) (FZ (pg) rfl rfl ((H.rds (i:=4) rfl).addr (i:=D2 m) e6) e6) (fw (.agg (bA.cells b).toArray) (F5 rfl (Gc (cs:=(bA.cells b)) O9 P0 ((H.rds (i:=4) rfl).elem bA.len y f3))) ?_)
 refine dM (qP 0 0 0 0 none 0 0 none 0 0 none 0 0 none 0 0 0) 107 H ?_
 intro aM iB dX
 refine dN (bA.cells b) 0 dX P0 ?_
 intro iC dY
 refine nt (FU ?_)
 have dZ:=dY.pf [1,4]
 refine pG [17] (F8 Gh) dZ ?_
 intro iD d9
 refine qv 0 rfl rfl (qp g0 0 1 rfl (qp g0 0 2 rfl (ql 3 rfl 0 O3 rfl rfl rfl (qv 4 rfl rfl (qp g0 0 5 rfl (qp g0 0 6 rfl (ql 7 rfl 0 O3 rfl rfl rfl (qp g 0 8 rfl (qp g 8 9 rfl (ql 10 rfl 1 P1 rfl rfl rfl (qv 11 rfl rfl (qv 12 rfl rfl (qt (v:=vI (m+1)) 13 rfl (fun _ _=>FV (e:=C7.wrap (m+1)) yk g2) ?_)))))))))))))
 have ed:=d9.pf [5,6]
 obtain⟨iE,bW,gK,bX,gL⟩:=Gm ed
 refine qd 14 rfl (Gd Tryz.call105 rfl (uQ _ _ k a.ak.ls.length p d a.ak.ls m (m+1) (D2 m) b bW e6 h e6 e6 e6 y) ?_)
 rintro _ iF ⟨aZ,bf,rfl,bY⟩
 have ax:=bX _ _ bY
 have gM:s2 (r5 (D2 m) d++r6 ((D2 m)+1) d)=s2 (r5 (D2 m) a.ak.ls++r6 ((D2 m)+1) a.ak.ls):=by exact az (oZ h)
 have gN:s2 (r5 (D2 m) a.ak.ls++r6 ((D2 m)+1) a.ak.ls)+1=a.ak.ls.length:=by simp only [p5,p3,p4]; omega
 have gP:b.aD.ls.length=s2 (s8 bG.abs b.aD.ls):=by exact(s6 _).symm
 have gQ:b.ae.ls.length=s2 (s8 bO.abs b.ae.ls):=by exact(s6 _).symm
 have gT:=ax.rowC (i:=2) rfl
 have gU:=ax.rowC (i:=3) rfl
 have gV:=ax.rowC (i:=4) rfl
 have gW:=ax.rowC (i:=5) rfl
 have bZ:=ax.pf [8,9]
 refine⟨.inr ⟨_,bZ⟩, ?_⟩
 refine qp g 0 15 rfl (qp g 8 16 rfl ?_)
 have ek:=bZ.pf [1]
 refine qe 17 rfl (Do.store (vs:= [.slice aZ (s2 (r5 (D2 m) a.ak.ls++r6 ((D2 m)+1) a.ak.ls)) bf]) (o:=8) ek rfl rfl Tryz.sizeOf79 rfl rfl rfl rfl ?_)
 intro iG bg
 refine⟨.inl e7, ?_⟩
 refine qn (FW (sr (Mz rfl (Kz (vP aM 1) (Lz (vI b.aQ) bg 10 C6 (Kz (vP aM 2) (Lz (vU b.aF) bg 10 E1 ?_)))))))
 have eu:=bg.px [1,11,12] [] [2,3,4,5,6,7,8,9,10]
 obtain⟨⟨aN,l⟩,aR⟩:∃ q:bH × aB,dB p0 b.aQ b.aF 2 ([]) (aB.mk a.aa a.bI (E4 (r5 (D2 m) a.ak.ls++r6 ((D2 m)+1) a.ak.ls)) a.aR a.aN a.aO a.aP a.aM a.di a.cz a.cK a.cB a.cu)=q:=⟨_,rfl⟩
 obtain⟨iH,cu,gX,cz,gY⟩:=GN eu
 refine cl Tryz.call106 (jP _ _ g0 p0 ak au ah b.aQ b.aF 2 none 0 0 [] ([]) g (aB.mk a.aa a.bI (E4 (r5 (D2 m) a.ak.ls++r6 ((D2 m)+1) a.ak.ls)) a.aR a.aN a.aO a.aP a.aM a.di a.cz a.cK a.cB a.cu) z B C E F G aZ bf I J r K L s M N t O P u Q R x aN l cu av rfl (fun _ _=>bD.nil _ _ _) (fun _ h9=>absurd h9 List.not_mem_nil) rfl i8 g6 S T U V W e8 g3 g3 i2 aR) ?_
 rintro _ iI ⟨eB,eD,eF,eO,eP,eQ,eT,eU,cB,eX,eY,cK,eZ,fe,cO,fq,fu,cZ,rfl,df,aS,aC,aD,aF,aG,aH,aI⟩
 have Z:=cz _ _ df
 have fA:=az aS
 have fB:=az aC
 have fC:=az aD
 have fD:=az aF
 have fE:=az aG
 have fF:=az aH
 have fG:=Z.rowC (i:=1) rfl
 have fH:=Z.rowC (i:=4) rfl
 have fI:=Z.rowC (i:=6) rfl
 have fJ:=Z.rowC (i:=8) rfl
 have fK:=Z.rowC (i:=10) rfl
 have fM:=Z.rowC (i:=12) rfl
 replace aI:aN.bB.ls.length=p0.bB.ls.length+1:=aI
 refine nt ?_
 have aa:b.aD.ls.length=s2 (s8 bG.abs b.aD.ls):=by first | omega | (simp only [H6]; done) | (simp only [H6,p5,s3,G1,p3,p4,H7]; omega)
 have dh:=Z.pf [17]
 have di:=GG aa dh
 have dm:=di.pf [22]
 have dn:=G5 5 aa dm
 have dw:=dn.pb [1,19,20,21,22,0]
 have ae:b.ae.ls.length=s2 (s8 bO.abs b.ae.ls):=by first | omega | (simp only [H6]; done) | (simp only [H6,p5,s3,G1,p3,p4,H7]; omega)
 have dx:=dw.pf [19]
 have dz:=GG ae dx
 have dA:=dz.pf [22]
 have dD:=G5 7 ae dA
 have dF:=dD.pb [1,21,22,0]
 have dG:=dF.pf [0,3]
 refine pG [4] Gh dG ?_
 intro gZ dH
 refine qv 0 rfl rfl (qp aM 0 1 rfl ?_)
 have aT:=dH.pf [0,1,22]
 refine AV aT (ql 2 rfl 2 E1 rfl rfl rfl ?_)
 have n:=aT.pf [2]
 have fO:=n.rowC (i:=17) rfl
 have fP:=n.rowC (i:=18) rfl
 have fQ:=n.rowC (i:=19) rfl
 have fT:=n.rowC (i:=20) rfl
 obtain⟨Y,ag⟩:∃ q,jQ (dE.mk b.aX b.aQ b.aF b.dh (E4 b.bS.ls) (E4 (s8 bG.abs b.aD.ls)) (E4 b.bE.ls) (E4 (s8 bO.abs b.ae.ls)) b.dO)=q:=⟨_,rfl⟩
 obtain⟨ib,bi,fU,bn,j⟩:=Gn n
 refine qd 3 rfl (Gd Tryz.call107 rfl (qL _ _ aM (dE.mk b.aX b.aQ b.aF b.dh (E4 b.bS.ls) (E4 (s8 bG.abs b.aD.ls)) (E4 b.bE.ls) (E4 (s8 bO.abs b.ae.ls)) b.dO) b.bS.A b.bS.c b.aD.A b.aD.c b.aD.ls b.bE.A b.bE.c b.ae.A b.ae.c b.ae.ls Y bi (j _ 16 _ rfl aV) (show b.bS.ls.length≤b.bS.c∧b.bS.ls.length≤9223372036854775807 from by omega) (rfl:s8 bG.abs b.aD.ls=s8 bG.abs b.aD.ls) (j _ 17 _ rfl aV) (show s2 (s8 bG.abs b.aD.ls)≤b.aD.c∧s2 (s8 bG.abs b.aD.ls)≤9223372036854775807 from by omega) (fun x9 h9=>⟨j _ 20 _ rfl (ay (P3.2 ⟨x9,h9,b1⟩) aV),bz (φ:=fun _=>_) n (i:=21) rfl (ay (P3.2 ⟨x9,h9,b1⟩) bq),j _ 20 _ rfl (ay (P3.2 ⟨x9,h9, .tail _ b1⟩) aV),bz (φ:=fun _=>_) n (i:=21) rfl (ay (P3.2 ⟨x9,h9, .tail _ b1⟩) bq)⟩) (j _ 18 _ rfl aV) (show b.bE.ls.length≤b.bE.c∧b.bE.ls.length≤9223372036854775807 from by omega) (rfl:s8 bO.abs b.ae.ls=s8 bO.abs b.ae.ls) (j _ 19 _ rfl aV) (show s2 (s8 bO.abs b.ae.ls)≤b.ae.c∧s2 (s8 bO.abs b.ae.ls)≤9223372036854775807 from by omega) (fun x9 h9=>⟨j _ 21 _ rfl (ay (P3.2 ⟨x9,h9,b1⟩) aV),bz (φ:=fun _=>_) n (i:=22) rfl (ay (P3.2 ⟨x9,h9,b1⟩) bq),(fun y1 k1=>⟨j _ 21 _ rfl (ay (P3.2 ⟨x9,h9, .tail _ b1⟩) (ay (P3.2 ⟨y1,k1,b1⟩) aV)),bz (φ:=fun _=>_) n (i:=22) rfl (ay (P3.2 ⟨x9,h9, .tail _ b1⟩) (ay (P3.2 ⟨y1,k1,b1⟩) bq))⟩)⟩) e8 ag) ?_)
 rintro _ ik ⟨dI,dJ,rfl,bu⟩
 have aU:=bn _ _ bu
 have fV:=aU.rowC (i:=0) rfl
 have fZ:Y.length≤5:=by have q9:=xQ ag; simp only [s6] at q9; omega
 have aW:=aU.pf [2,3,1]
 refine⟨.inr ⟨_,aW⟩, ?_⟩
 have dL:=aW.pf [0,4,5]
 obtain⟨aX,aJ⟩:∃ q,eG aN b.aX Y false=q:=⟨_,rfl⟩
 obtain⟨il,bv,gp,bB,bC⟩:=Gv dL
 refine qd 4 rfl (Gd P2 rfl (kF _ _ g0 aN eB eD eF g b.aX dI Y.length dJ Y false aX bv aS (bC _ 2 _ rfl aV) rfl e6 g7 aJ) ?_)
 rintro _ iq ⟨dO,dP,dQ,rfl,bE,aK⟩
 have aY:=bB _ _ bE
 have gq:=az aK
 have gu:=aY.rowC (i:=1) rfl
 refine⟨.inl e7, ?_⟩
 refine qn (Gf (res0 rfl) ?_)
 have dS:=aY.px [0,1,2,3,16,17] [4,5,18,19,20,21,22,23] []
 obtain⟨rfl,rfl⟩:=gm (hr.symm.trans (show _=(aX,aB.mk (dC.mk l.aa.av l.aa.ax l.aa.bf l.aa.aK (E4 a.aa.ag.ls) (E4 a.aa.aj.ls) (E4 a.aa.aI.ls)) l.bI (E4 (r5 (D2 m) a.ak.ls++r6 ((D2 m)+1) a.ak.ls)) l.aR l.aN l.aO l.aP l.aM l.di l.cz l.cK l.cB l.cu) from et (ai (bJ aQ)) (et (ai aR) (et (ai ag) (ai aJ)))))
 exact⟨dO,dP,dQ,aZ,bf,(r5 (D2 m) d++r6 ((D2 m)+1) d),eO,eP,eQ,eT,eU,cB,eX,eY,cK,eZ,fe,cO,fq,fu,cZ,(by(first | rw [← aa] | skip); (first | rw [← ae] | skip); first | done | rfl),dS,aK,(oZ h),aC,aD,aF,aG,aH⟩
end Go.Proofs.YtbkagebjhbphaaaGreat
