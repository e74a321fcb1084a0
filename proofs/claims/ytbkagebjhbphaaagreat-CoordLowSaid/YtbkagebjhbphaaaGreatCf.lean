/-
 coord: asked, acknowledged, given up.
-/
import Derived.Test.YtbkagebjhbphaaaGreatCc
namespace Go.Proofs.YtbkagebjhbphaaaGreat
open Int renaming toNat→D2
open IntKind renaming i64→C7
open List renaming drop→r6,flatMap→q6,getD→C2,length→s2,length_append→p5,length_cons→s3,length_drop→p4,length_map→s6,length_nil→G1,length_replicate→H4,length_set→H3,length_take→p3,map→s8,mem_flatMap→O7,mem_of_getElem?→E0,set→u5,take→r5
open Ll renaming mk→E4
open Sv renaming mk→H2
open _root_.Go.Proofs.Tryz renaming call104→O2,call27→O6,isAgg107→O3,isAgg24→N7,isAgg28→E1,isAgg3→C6,isAgg30→D4,isAgg79→O5,prog→y4,sizeOf107→O4
open WL renaming nil→D0
open Wp renaming exit→D1,loop→C5
set_option maxRecDepth 100000
open Go.RowKit
set_option linter.unusedVariables false
set_option linter.unusedSectionVars false
set_option linter.unusedSimpArgs false
def lF (a:Nat):Bool:=
 false
theorem qx (w:World) (D:Nat→Prop) (a:Nat) (c:Bool) (H:Own w D w []) (hr:lF a=c):
    Calls y4 136 #[vU a] w (dS fun v w'=>v= .bool c∧Own w D w' []):=by
 refine cb Tryz.func136 ?_
 refine sr (Ar rfl (Mz rfl (Mz rfl (fw (.bool false) (Fs (e:= !(decide (((a:Nat):Int)=((a:Nat):Int)))) yk i8) (An rfl (rt (rs ?_)))))))
 have b:=H.pk []
 obtain rfl:_=false:=hr.symm.trans rfl
 exact⟨rfl,b⟩
def gY (c:Nat) (d:Nat):Int:=
 bnd (lF c) fun b=>bnd (lF d) fun a=>if b=true then if a=true then 0 else(-1) else if a=true then 1 else if((c:Nat):Int) < ((d:Nat):Int) then(-1) else if((c:Nat):Int) > ((d:Nat):Int) then 1 else 0
theorem lQ (w:World) (D:Nat→Prop) (i:Nat) (j:Nat) (C:Int) (H:Own w D w []) (hr:gY i j=C):
    Calls y4 104 #[vU i,vU j] w (dS fun v w'=>v=vI C∧Own w D w' []):=by
 refine cb Tryz.func104 ?_
 refine sr (Ar rfl (Mz rfl ?_))
 obtain⟨l,a⟩:∃ q,lF i=q:=⟨_,rfl⟩
 obtain⟨J,m,E,n,F⟩:=EU H
 refine cl Tryz.call136 (qx _ _ i l m a) ?_
 rintro _ K ⟨rfl,o⟩
 have t:=n _ _ o
 refine Ar rfl (Mz rfl ?_)
 obtain⟨k,b⟩:∃ q,lF j=q:=⟨_,rfl⟩
 obtain⟨L,p,G,r,I⟩:=EU t
 refine cl Tryz.call136 (qx _ _ j k p b) ?_
 rintro _ M ⟨rfl,s⟩
 have e:=r _ _ s
 refine An rfl (EP (sr (Mn rfl ?_)))
 rcases IW (l) with c | c
 refine jT c (EP (sr (Mn rfl ?_)))
 rcases IW (k) with f | f
 refine jT f (sr (An rfl (rt (tR (tR (rs ?_))))))
 have u:=e.pk []
 obtain rfl:_=0:=hr.symm.trans (et (ah a) (et (ah b) (et (ip c) (ip f))))
 exact⟨rfl,u⟩
 refine jF f (sk (sr (An rfl (rt (tR (rs ?_))))))
 have x:=e.pk []
 obtain rfl:_=(-1):=hr.symm.trans (et (ah a) (et (ah b) (et (ip c) (fU f))))
 exact⟨rfl,x⟩
 refine jF c (sk (EP (sr (Mn rfl ?_))))
 rcases IW (k) with d | d
 refine jT d (sr (An rfl (rt (tR (rs ?_)))))
 have y:=e.pk []
 obtain rfl:_=1:=hr.symm.trans (et (ah a) (et (ah b) (et (fU c) (ip d))))
 exact⟨rfl,y⟩
 refine jF d (sk (EP (sr (Mz rfl (Mz rfl (Kz (.bool (decide (((i:Nat):Int) < ((j:Nat):Int)))) (nt ?_)))))))
 by_cases g:((i:Nat):Int) < ((j:Nat):Int)
 refine jT (dT g) (sr (An rfl (rt (tR (rs ?_)))))
 have z:=e.pk []
 obtain rfl:_=(-1):=hr.symm.trans (et (ah a) (et (ah b) (et (fU c) (et (fU d) (ip g)))))
 exact⟨rfl,z⟩
 refine jF (dF g) (sk (EP (sr (Mz rfl (Mz rfl (Kz (.bool (decide (((i:Nat):Int) > ((j:Nat):Int)))) (nt ?_)))))))
 by_cases h:((i:Nat):Int) > ((j:Nat):Int)
 refine jT (dT h) (sr (An rfl (rt (tR (rs ?_)))))
 have A:=e.pk []
 obtain rfl:_=1:=hr.symm.trans (et (ah a) (et (ah b) (et (fU c) (et (fU d) (et (iN g) (ip h))))))
 exact⟨rfl,A⟩
 refine jF (dF h) (sk (sr (An rfl (rt (rs ?_)))))
 have B:=e.pk []
 obtain rfl:_=0:=hr.symm.trans (et (ah a) (et (ah b) (et (fU c) (et (fU d) (et (iN g) (iN h))))))
 exact⟨rfl,B⟩
def dE (l0:List bL) (f:Nat):Nat→Nat→Nat→Nat
  | 0,a,b=>default
  | c+1,a,b=>if((a:Nat):Int) < ((b:Nat):Int) then bnd (C2 l0 ((a+b) / 2) default) fun d=>bnd (gY d.bf f) fun e=>if e < 0 then dE l0 f c (((a+b) / 2)+1) b else dE l0 f c a ((a+b) / 2) else a
def bU (l0:List bL) (c:Nat):Int × Bool:=
 bnd (dE l0 c ((l0.length - 0)+1) 0 l0.length) fun sLrL=>if((sLrL:Nat):Int) < ((l0.length:Nat):Int) then bnd (C2 l0 sLrL default) fun a=>bnd (gY a.bf c) fun b=>(((sLrL:Nat):Int),decide (b=0)) else(((sLrL:Nat):Int),false)
theorem gT (w:World) (D:Nat→Prop) (y:Option Addr) (Z Y:Nat) (J:List ay) (l0:List bL) (n:Nat) (K:Int) (r1:Bool) (H:Own w D w []) (G:s8 ay.abs J=l0) (h:Ro w D fun w'=>bD w' 5 y Z (q6 ay.cells J)) (L:∀ x ∈ J,Ro w D (fun w'=>bD w' 1 x.ak.A x.ak.ls.length (q6 (eI .i64) x.ak.ls))∧(x.ak.ls.length≤x.ak.c∧x.ak.ls.length≤9223372036854775807)) (ae:Z=l0.length) (aM:l0.length *56≤211106232532992) (hr:bU l0 n=(K,r1)):
    Calls y4 132 #[.slice y Z Y,vU n, .func (.func 133) #[] #[]] w (dS fun v w'=>v= .tuple #[vI K, .bool r1]∧Own w D w' []∧(0≤K∧K≤((l0.length:Nat):Int))∧(Bool.toNat r1=0∨K < ((l0.length:Nat):Int))):=by
 subst ae
 have aB:=az G
 refine cb Tryz.func132 ?_
 refine sr (Az rfl (Ar rfl (Mz rfl (Kz (vJ l0.length) (Ar rfl (Mz rfl (Az rfl (An rfl (EP (bo ?_))))))))))
 have af:=H.pk []
 obtain⟨ag,g⟩:=qo fun(a:Nat) (b:Nat) (o:Nat) (w':World)=>Own w D w' []∧a≤b∧b≤l0.length∧b - a < o∧dE l0 n ((l0.length - 0)+1) 0 l0.length=dE l0 n o a b
 refine C5 (fun i:Nat × Nat × Nat=> [(9,vJ i.1),(10,vJ i.2.1),(8,vJ l0.length),(7, .bool false),(6,vI 0),(0, .slice y l0.length Y),(1,vU n),(2, .func (.func 133) #[] #[])]) ag (fun i=>i.2.2) (0,l0.length,(l0.length - 0)+1) ⟨rfl,rfl,rfl,rfl,rfl,rfl,rfl,rfl,trivial⟩ (g.2 ⟨af,e6,e6,e6,rfl⟩) ?_
 rintro ⟨a,b,o⟩ aN M
 obtain⟨f,aC,aD,aF,p⟩:=g.1 M
 obtain⟨j,N⟩:∃ q,o=q+1:=⟨o - 1,e6⟩
 subst N
 refine EP (sr (Mz rfl (Mz rfl (Kz (.bool (decide (((a:Nat):Int) < ((b:Nat):Int)))) (nt ?_)))))
 by_cases r:((a:Nat):Int) < ((b:Nat):Int)
 refine jT (dT r) (sk (bo (sr (Mz rfl (Mz rfl (fw (vJ (a+b)) (EQ (e:=C7.wrap (((a:Nat):Int)+((b:Nat):Int))) yk f1) (fw (vU (a+b)) (EQ (e:=IntKind.u64.wrap ((a+b:Nat):Int)) yk (IntWalk.u64_in _ e6)) (fw (vU ((a+b) / 2)) (EQ (e:=Int.fdiv ((a+b:Nat):Int) 2) yk (mK _ 1 _ f3)) (fw (vJ ((a+b) / 2)) (EQ (e:=C7.wrap (((a+b) / 2:Nat):Int)) yk (IR _ e6)) (Ar rfl (Mz rfl (Mz rfl (Mz rfl ?_)))))))))))))
 obtain⟨l,s⟩:=dG (ls:=J) (i:=(a+b) / 2) ay.len f3 (f.ro h) e9
 have C:=eP G s
 have aG:=(L _ (E0 s)).2
 refine fw (.pointer (some ⟨ab y,ao y+((a+b) / 2) *5,none⟩)) (ET (kv) rfl rfl ((f.ro h).addr (i:=(a+b) / 2) e6) e6) (fw (.agg (ay.cells l).toArray) (EY rfl (Fb (cs:=(ay.cells l)) Tryz.isAgg60 Tryz.sizeOf60 ((f.ro h).elem ay.len s f3))) (Mz rfl ?_))
 refine WL.do rfl (Fw Tryz.call133 rfl rfl ?_ (fun _ _ k=>k))
 refine cb Tryz.func133 ?_
 refine sr ?_
 refine dK (ay.cells l) 60 f ?_
 intro ai aO O
 refine Ar rfl (Kz (vP ai 0) (Lz (vU l.bf) O 0 E1 (Mz rfl ?_)))
 obtain⟨I,t⟩:∃ q,gY l.bf n=q:=⟨_,rfl⟩
 obtain⟨aP,P,aH,Q,aI⟩:=EU O
 refine cl O2 (lQ _ _ l.bf n I P t) ?_
 rintro _ aQ ⟨rfl,R⟩
 have S:=Q _ _ R
 refine An rfl (rt (rs (Kz (.bool (decide (I < 0))) (nt ?_))))
 by_cases z:I < 0
 refine jT (dT z) (EO (Mz rfl (fw (vI ((((a+b) / 2)+1:Nat):Int)) (EQ (e:=C7.wrap ((((a+b) / 2:Nat):Int)+1)) yk f1) (Az rfl (D0 (bN ?_))))))
 have aj:=S.pk []
 exact E8 (((a+b) / 2)+1,b,j) ⟨rfl,rfl,rfl,rfl,rfl,rfl,rfl,rfl,trivial⟩ (g.2 ⟨aj,e6,e6,e6,et (p) (et (ip r) (et (ah (bI C)) (et (ah t) (ip z))))⟩) (by show j < j+1; omega)
 refine jF (dF z) (EO (Mz rfl (Az rfl (D0 (bN ?_)))))
 have ak:=S.pk []
 exact E8 (a,(a+b) / 2,j) ⟨rfl,rfl,rfl,rfl,rfl,rfl,rfl,rfl,trivial⟩ (g.2 ⟨ak,e6,e6,e6,et (p) (et (ip r) (et (ah (bI C)) (et (ah t) (iN z))))⟩) (by show j < j+1; omega)
 refine jF (dF r) (D1 (EX ?_))
 have E:dE l0 n ((l0.length - 0)+1) 0 l0.length=a:=et (p) (iN r)
 refine EX (Fg (ER (sr (Mz rfl (Mz rfl (Mz rfl (Kz (.bool (decide (((a:Nat):Int) < ((l0.length:Nat):Int)))) (Mz rfl ?_))))))))
 by_cases d:((a:Nat):Int) < ((l0.length:Nat):Int)
 refine gw (.func (.func 133) #[] #[]) (dT d) (E5 rfl) (gw (.slice y l0.length Y) (dT d) (E5 rfl) (gw (vJ a) (dT d) (E5 rfl) ?_))
 obtain⟨m,u⟩:=dG (ls:=J) (i:=a) ay.len f3 (f.ro h) e9
 have T:=eP G u
 have aJ:=(L _ (E0 u)).2
 refine gw (.pointer (some ⟨ab y,ao y+a *5,none⟩)) (dT d) (ET (kv) rfl rfl ((f.ro h).addr (i:=a) e6) e6) (gw (.agg (ay.cells m).toArray) (dT d) (EY rfl (Fb (cs:=(ay.cells m)) Tryz.isAgg60 Tryz.sizeOf60 ((f.ro h).elem ay.len u f3))) (gw (vU n) (dT d) (E5 rfl) ?_))
 refine F7 rfl rfl (dT d) rfl (Fw Tryz.call133 rfl rfl ?_ (fun _ _ k=>k))
 refine cb Tryz.func133 ?_
 refine sr ?_
 refine dK (ay.cells m) 60 f ?_
 intro au aR U
 refine Ar rfl (Kz (vP au 0) (Lz (vU m.bf) U 0 E1 (Mz rfl ?_)))
 obtain⟨B,F⟩:∃ q,gY m.bf n=q:=⟨_,rfl⟩
 obtain⟨aS,V,aK,W,aL⟩:=EU U
 refine cl O2 (lQ _ _ m.bf n B V F) ?_
 rintro _ aT ⟨rfl,X⟩
 have av:=W _ _ X
 refine An rfl (rt (rs (Gz (.bool (decide (B=0))) (dT d) (fw (.bool (decide (B=0))) (Fa rfl (dT d) rfl) (Az rfl (An rfl (rt (Fin.res (lT rfl rfl rfl) ?_))))))))
 have ax:=av.pk []
 obtain⟨rfl,rfl⟩:=fT (hr.symm.trans (show _=(((a:Nat):Int),decide (B=0)) from et (ah E) (et (ip d) (et (ah (bI T)) (ah F)))))
 exact⟨rfl,ax,e6,i7⟩
 refine Sz (dF d) (Sz (dF d) (Sz (dF d) (Sz (dF d) (Sz (dF d) (Sz (dF d) (Sz (dF d) (Sz (dF d) (fw (.bool false) (ES rfl (dF d) rfl) (Az rfl (An rfl (rt (Fin.res (lT rfl rfl rfl) ?_))))))))))))
 have aA:=f.pk []
 obtain⟨rfl,rfl⟩:=fT (hr.symm.trans (show _=(((a:Nat):Int),false) from et (ah E) (iN d)))
 exact⟨rfl,aA,e6,i7⟩
def eG (l0:List dH) (f:Nat):Nat→Nat→Nat→Nat
  | 0,a,b=>default
  | c+1,a,b=>if((a:Nat):Int) < ((b:Nat):Int) then bnd (C2 l0 ((a+b) / 2) default) fun d=>bnd (gY d.bq f) fun e=>if e < 0 then eG l0 f c (((a+b) / 2)+1) b else eG l0 f c a ((a+b) / 2) else a
def dz (l0:List dH) (c:Nat):Int × Bool:=
 bnd (eG l0 c ((l0.length - 0)+1) 0 l0.length) fun sLrL=>if((sLrL:Nat):Int) < ((l0.length:Nat):Int) then bnd (C2 l0 sLrL default) fun a=>bnd (gY a.bq c) fun b=>(((sLrL:Nat):Int),decide (b=0)) else(((sLrL:Nat):Int),false)
theorem iF (w:World) (D:Nat→Prop) (B:Option Addr) (n0 c0:Nat) (M:List bB) (l0:List dH) (s:Nat) (N:Int) (r1:Bool) (H:Own w D w []) (J:s8 bB.abs M=l0) (p:Ro w D fun w'=>bD w' 9 B n0 (q6 bB.cells M)) (n:∀ x ∈ M,Ro w D (fun w'=>bD w' 6 x.bS.A x.bS.ls.length (q6 bC.cells x.bS.ls))∧(x.bS.ls.length≤x.bS.c∧x.bS.ls.length≤9223372036854775807)∧Ro w D (fun w'=>bD w' 3 x.aC.A x.aC.ls.length (q6 bG.cells x.aC.ls))∧(x.aC.ls.length≤x.aC.c∧x.aC.ls.length≤9223372036854775807)∧(∀ h ∈ x.aC.ls,Ro w D (fun w'=>bD w' 6 h.aD.A h.aD.ls.length (q6 bC.cells h.aD.ls))∧(h.aD.ls.length≤h.aD.c∧h.aD.ls.length≤9223372036854775807)∧Ro w D (fun w'=>bD w' 1 h.aP.A h.aP.ls.length (q6 (eI .i64) h.aP.ls))∧(h.aP.ls.length≤h.aP.c∧h.aP.ls.length≤9223372036854775807))∧Ro w D (fun w'=>bD w' 1 x.bF.A x.bF.ls.length (q6 eL x.bF.ls))∧(x.bF.ls.length≤x.bF.c∧x.bF.ls.length≤9223372036854775807)∧Ro w D (fun w'=>bD w' 1 x.ae.A x.ae.ls.length (q6 (FJ (β:=af)) x.ae.ls))∧(x.ae.ls.length≤x.ae.c∧x.ae.ls.length≤9223372036854775807)∧(∀ h ∈ x.ae.ls,Ro w D (fun w'=>bD w' 3 h.A h.ls.length (q6 af.cells h.ls))∧(h.ls.length≤h.c∧h.ls.length≤9223372036854775807)∧(∀ L ∈ h.ls,Ro w D (fun w'=>bD w' 2 L.au.A L.au.ls.length (q6 aJ.cells L.au.ls))∧(L.au.ls.length≤L.au.c∧L.au.ls.length≤9223372036854775807)))) (ai:n0=l0.length) (aZ:l0.length *136≤211106232532992) (hr:dz l0 s=(N,r1)):
    Calls y4 102 #[.slice B n0 c0,vU s, .func (.func 103) #[] #[]] w (dS fun v w'=>v= .tuple #[vI N, .bool r1]∧Own w D w' []∧(0≤N∧N≤((l0.length:Nat):Int))∧(Bool.toNat r1=0∨N < ((l0.length:Nat):Int))):=by
 subst ai
 have aD:=az J
 refine cb Tryz.func102 ?_
 refine sr (Az rfl (Ar rfl (Mz rfl (Kz (vJ l0.length) (Ar rfl (Mz rfl (Az rfl (An rfl (EP (bo ?_))))))))))
 have aj:=H.pk []
 obtain⟨ak,o⟩:=qo fun(a:Nat) (b:Nat) (t:Nat) (w':World)=>Own w D w' []∧a≤b∧b≤l0.length∧b - a < t∧eG l0 s ((l0.length - 0)+1) 0 l0.length=eG l0 s t a b
 refine C5 (fun i:Nat × Nat × Nat=> [(9,vJ i.1),(10,vJ i.2.1),(8,vJ l0.length),(7, .bool false),(6,vI 0),(0, .slice B l0.length c0),(1,vU s),(2, .func (.func 103) #[] #[])]) ak (fun i=>i.2.2) (0,l0.length,(l0.length - 0)+1) ⟨rfl,rfl,rfl,rfl,rfl,rfl,rfl,rfl,trivial⟩ (o.2 ⟨aj,e6,e6,e6,rfl⟩) ?_
 rintro ⟨a,b,t⟩ bf O
 obtain⟨m,aF,aG,aH,u⟩:=o.1 O
 obtain⟨r,P⟩:∃ q,t=q+1:=⟨t - 1,e6⟩
 subst P
 refine EP (sr (Mz rfl (Mz rfl (Kz (.bool (decide (((a:Nat):Int) < ((b:Nat):Int)))) (nt ?_)))))
 by_cases y:((a:Nat):Int) < ((b:Nat):Int)
 refine jT (dT y) (sk (bo (sr (Mz rfl (Mz rfl (fw (vJ (a+b)) (EQ (e:=C7.wrap (((a:Nat):Int)+((b:Nat):Int))) yk f1) (fw (vU (a+b)) (EQ (e:=IntKind.u64.wrap ((a+b:Nat):Int)) yk (IntWalk.u64_in _ e6)) (fw (vU ((a+b) / 2)) (EQ (e:=Int.fdiv ((a+b:Nat):Int) 2) yk (mK _ 1 _ f3)) (fw (vJ ((a+b) / 2)) (EQ (e:=C7.wrap (((a+b) / 2:Nat):Int)) yk (IR _ e6)) (Ar rfl (Mz rfl (Mz rfl (Mz rfl ?_)))))))))))))
 obtain⟨f,j⟩:=dG (ls:=M) (i:=(a+b) / 2) bB.len f3 (m.ro p) e9
 have F:=eP J j
 have aI:=(n _ (E0 j)).2.1
 have aK:=(n _ (E0 j)).2.2.2.1
 have aL:s2 (s8 bG.abs f.aC.ls)=f.aC.ls.length:=s6 ..
 have aM:=(n _ (E0 j)).2.2.2.2.2.2.1
 have aN:=(n _ (E0 j)).2.2.2.2.2.2.2.2.1
 have aO:s2 (s8 bM.abs f.ae.ls)=f.ae.ls.length:=s6 ..
 refine fw (.pointer (some ⟨ab B,ao B+((a+b) / 2) *9,none⟩)) (ET (oQ) rfl rfl ((m.ro p).addr (i:=(a+b) / 2) e6) e6) (fw (.agg (bB.cells f).toArray) (EY rfl (Fb (cs:=(bB.cells f)) O3 O4 ((m.ro p).elem bB.len j f3))) (Mz rfl ?_))
 refine WL.do rfl (Fw Tryz.call103 rfl rfl ?_ (fun _ _ k=>k))
 refine cb Tryz.func103 ?_
 refine sr ?_
 refine dK (bB.cells f) 107 m ?_
 intro au bg Q
 refine Ar rfl (Kz (vP au 0) (Lz (vU f.bq) Q 0 E1 (Mz rfl ?_)))
 obtain⟨K,z⟩:∃ q,gY f.bq s=q:=⟨_,rfl⟩
 obtain⟨bi,R,aP,S,aQ⟩:=EU Q
 refine cl O2 (lQ _ _ f.bq s K R z) ?_
 rintro _ bn ⟨rfl,T⟩
 have U:=S _ _ T
 refine An rfl (rt (rs (Kz (.bool (decide (K < 0))) (nt ?_))))
 by_cases C:K < 0
 refine jT (dT C) (EO (Mz rfl (fw (vI ((((a+b) / 2)+1:Nat):Int)) (EQ (e:=C7.wrap ((((a+b) / 2:Nat):Int)+1)) yk f1) (Az rfl (D0 (bN ?_))))))
 have av:=U.pk []
 exact E8 (((a+b) / 2)+1,b,r) ⟨rfl,rfl,rfl,rfl,rfl,rfl,rfl,rfl,trivial⟩ (o.2 ⟨av,e6,e6,e6,et (u) (et (ip y) (et (ah (bI F)) (et (ah z) (ip C))))⟩) (by show r < r+1; omega)
 refine jF (dF C) (EO (Mz rfl (Az rfl (D0 (bN ?_)))))
 have ax:=U.pk []
 exact E8 (a,(a+b) / 2,r) ⟨rfl,rfl,rfl,rfl,rfl,rfl,rfl,rfl,trivial⟩ (o.2 ⟨ax,e6,e6,e6,et (u) (et (ip y) (et (ah (bI F)) (et (ah z) (iN C))))⟩) (by show r < r+1; omega)
 refine jF (dF y) (D1 (EX ?_))
 have G:eG l0 s ((l0.length - 0)+1) 0 l0.length=a:=et (u) (iN y)
 refine EX (Fg (ER (sr (Mz rfl (Mz rfl (Mz rfl (Kz (.bool (decide (((a:Nat):Int) < ((l0.length:Nat):Int)))) (Mz rfl ?_))))))))
 by_cases d:((a:Nat):Int) < ((l0.length:Nat):Int)
 refine gw (.func (.func 103) #[] #[]) (dT d) (E5 rfl) (gw (.slice B l0.length c0) (dT d) (E5 rfl) (gw (vJ a) (dT d) (E5 rfl) ?_))
 obtain⟨g,l⟩:=dG (ls:=M) (i:=a) bB.len f3 (m.ro p) e9
 have V:=eP J l
 have aR:=(n _ (E0 l)).2.1
 have aS:=(n _ (E0 l)).2.2.2.1
 have aT:s2 (s8 bG.abs g.aC.ls)=g.aC.ls.length:=s6 ..
 have aU:=(n _ (E0 l)).2.2.2.2.2.2.1
 have aV:=(n _ (E0 l)).2.2.2.2.2.2.2.2.1
 have aW:s2 (s8 bM.abs g.ae.ls)=g.ae.ls.length:=s6 ..
 refine gw (.pointer (some ⟨ab B,ao B+a *9,none⟩)) (dT d) (ET (oQ) rfl rfl ((m.ro p).addr (i:=a) e6) e6) (gw (.agg (bB.cells g).toArray) (dT d) (EY rfl (Fb (cs:=(bB.cells g)) O3 O4 ((m.ro p).elem bB.len l f3))) (gw (vU s) (dT d) (E5 rfl) ?_))
 refine F7 rfl rfl (dT d) rfl (Fw Tryz.call103 rfl rfl ?_ (fun _ _ k=>k))
 refine cb Tryz.func103 ?_
 refine sr ?_
 refine dK (bB.cells g) 107 m ?_
 intro ay bq W
 refine Ar rfl (Kz (vP ay 0) (Lz (vU g.bq) W 0 E1 (Mz rfl ?_)))
 obtain⟨E,I⟩:∃ q,gY g.bq s=q:=⟨_,rfl⟩
 obtain⟨bu,X,aX,Y,aY⟩:=EU W
 refine cl O2 (lQ _ _ g.bq s E X I) ?_
 rintro _ bv ⟨rfl,Z⟩
 have aA:=Y _ _ Z
 refine An rfl (rt (rs (Gz (.bool (decide (E=0))) (dT d) (fw (.bool (decide (E=0))) (Fa rfl (dT d) rfl) (Az rfl (An rfl (rt (Fin.res (lT rfl rfl rfl) ?_))))))))
 have aB:=aA.pk []
 obtain⟨rfl,rfl⟩:=fT (hr.symm.trans (show _=(((a:Nat):Int),decide (E=0)) from et (ah G) (et (ip d) (et (ah (bI V)) (ah I)))))
 exact⟨rfl,aB,e6,i7⟩
 refine Sz (dF d) (Sz (dF d) (Sz (dF d) (Sz (dF d) (Sz (dF d) (Sz (dF d) (Sz (dF d) (Sz (dF d) (fw (.bool false) (ES rfl (dF d) rfl) (Az rfl (An rfl (rt (Fin.res (lT rfl rfl rfl) ?_))))))))))))
 have aC:=m.pk []
 obtain⟨rfl,rfl⟩:=fT (hr.symm.trans (show _=(((a:Nat):Int),false) from et (ah G) (iN d)))
 exact⟨rfl,aC,e6,i7⟩
def mi (g:bO) (c:bQ) (b:aB):bO:=
 bnd (bU b.aa.aj.ls c.bf) fun a=>bnd (dz b.aA.ls c.bf) fun d=>if a.2=true then bnd (fq g c.bf ([c.aP]) a.2) fun e=>e else if d.2=true then g else bnd (fq g c.bf ([c.aP]) a.2) fun f=>f
set_option maxHeartbeats 4000000 in
theorem vV (w:World) (D:Nat→Prop) (g0:Nat) (p0:bO) (C:Option Addr) (E:Nat) (t:List bA) (d:bQ) (aj:Option Addr) (aL ak:Nat) (au:Option Addr) (aM av:Nat) (ax:List af) (aA:Option Addr) (aN aC:Nat) (e:Nat) (a:aB) (L:Option Addr) (M:Nat) (g:Option Addr) (h:Nat) (o:List ay) (N:Option Addr) (O:Nat) (j:Option Addr) (l:Nat) (p:List bB) (P:Option Addr) (Q:Nat) (R:Option Addr) (S:Nat) (T:Option Addr) (U:Nat) (V:Option Addr) (W:Nat) (X:Option Addr) (Y:Nat) (r0:bO) (H:Own w D w [blk g0 [.pointer (some ⟨e,0,none⟩), .slice C p0.bE.ls.length E] 98,row C p0.bE.ls.length E (q6 bA.cells t) 42 21,sepL (q6 bA.own t),blk e [.int .i64 a.aa.ak, .int .u64 ((a.aa.ax:Nat):Int), .int .u64 ((a.aa.bi:Nat):Int), .int .u64 ((a.aa.aI:Nat):Int), .slice L a.aa.ag.ls.length M, .slice g a.aa.aj.ls.length h, .slice N a.aa.aF.ls.length O, .int .u64 ((a.bH:Nat):Int), .slice j a.aA.ls.length l, .bool a.aQ.aR, .int .u64 ((a.aQ.aH:Nat):Int), .int .i64 a.aQ.aZ, .slice P a.aQ.ae.ls.length Q, .bool a.aO.aR, .int .u64 ((a.aO.aH:Nat):Int), .int .i64 a.aO.aZ, .slice R a.aO.ae.ls.length S, .bool a.aL.aR, .int .u64 ((a.aL.aH:Nat):Int), .int .i64 a.aL.aZ, .slice T a.aL.ae.ls.length U, .bool a.aN.aR, .int .u64 ((a.aN.aH:Nat):Int), .int .i64 a.aN.aZ, .slice V a.aN.ae.ls.length W, .bool a.aK.aR, .int .u64 ((a.aK.aH:Nat):Int), .int .i64 a.aK.aZ, .slice X a.aK.ae.ls.length Y, .int .u64 ((a.df:Nat):Int), .int .u64 ((a.cu:Nat):Int), .int .u64 ((a.cz:Nat):Int), .int .u64 ((a.cB:Nat):Int), .int .u64 ((a.cK:Nat):Int), .pointer none] 86]) (u:s8 bA.abs t=p0.bE.ls) (aY:aL=d.aD.ls.length) (dm:Ro w D fun w'=>bD w' 6 aj d.aD.ls.length (q6 bC.cells d.aD.ls)) (dn:d.aD.ls.length≤ak∧d.aD.ls.length≤9223372036854775807) (aZ:s8 af.abs ax=d.ai.ls) (bf:aM=d.ai.ls.length) (dw:Ro w D fun w'=>bD w' 3 au d.ai.ls.length (q6 af.cells ax)) (dx:d.ai.ls.length≤av∧d.ai.ls.length≤9223372036854775807) (dA:∀ x ∈ ax,Ro w D (fun w'=>bD w' 2 x.au.A x.au.ls.length (q6 aJ.cells x.au.ls))∧(x.au.ls.length≤x.au.c∧x.au.ls.length≤9223372036854775807)) (bg:aN=d.ag.ls.length) (dB:Ro w D fun w'=>bD w' 2 aA d.ag.ls.length (q6 bv.cells d.ag.ls)) (dC:d.ag.ls.length≤aC∧d.ag.ls.length≤9223372036854775807) (F:s8 ay.abs o=a.aa.aj.ls) (aD:Ro w D fun w'=>bD w' 5 g a.aa.aj.ls.length (q6 ay.cells o)) (bz:a.aa.aj.ls.length≤h∧a.aa.aj.ls.length≤9223372036854775807) (G:∀ x ∈ o,Ro w D (fun w'=>bD w' 1 x.ak.A x.ak.ls.length (q6 (eI .i64) x.ak.ls))∧(x.ak.ls.length≤x.ak.c∧x.ak.ls.length≤9223372036854775807)) (I:s8 bB.abs p=a.aA.ls) (aF:Ro w D fun w'=>bD w' 9 j a.aA.ls.length (q6 bB.cells p)) (bE:a.aA.ls.length≤l∧a.aA.ls.length≤9223372036854775807) (b:∀ x ∈ p,Ro w D (fun w'=>bD w' 6 x.bS.A x.bS.ls.length (q6 bC.cells x.bS.ls))∧(x.bS.ls.length≤x.bS.c∧x.bS.ls.length≤9223372036854775807)∧Ro w D (fun w'=>bD w' 3 x.aC.A x.aC.ls.length (q6 bG.cells x.aC.ls))∧(x.aC.ls.length≤x.aC.c∧x.aC.ls.length≤9223372036854775807)∧(∀ f ∈ x.aC.ls,Ro w D (fun w'=>bD w' 6 f.aD.A f.aD.ls.length (q6 bC.cells f.aD.ls))∧(f.aD.ls.length≤f.aD.c∧f.aD.ls.length≤9223372036854775807)∧Ro w D (fun w'=>bD w' 1 f.aP.A f.aP.ls.length (q6 (eI .i64) f.aP.ls))∧(f.aP.ls.length≤f.aP.c∧f.aP.ls.length≤9223372036854775807))∧Ro w D (fun w'=>bD w' 1 x.bF.A x.bF.ls.length (q6 eL x.bF.ls))∧(x.bF.ls.length≤x.bF.c∧x.bF.ls.length≤9223372036854775807)∧Ro w D (fun w'=>bD w' 1 x.ae.A x.ae.ls.length (q6 (FJ (β:=af)) x.ae.ls))∧(x.ae.ls.length≤x.ae.c∧x.ae.ls.length≤9223372036854775807)∧(∀ f ∈ x.ae.ls,Ro w D (fun w'=>bD w' 3 f.A f.ls.length (q6 af.cells f.ls))∧(f.ls.length≤f.c∧f.ls.length≤9223372036854775807)∧(∀ y2 ∈ f.ls,Ro w D (fun w'=>bD w' 2 y2.au.A y2.au.ls.length (q6 aJ.cells y2.au.ls))∧(y2.au.ls.length≤y2.au.c∧y2.au.ls.length≤9223372036854775807)))) (ed:a.aa.ag.ls.length≤1000∧a.aa.aj.ls.length≤1000∧a.aa.aF.ls.length≤1000∧a.aA.ls.length≤1000∧p0.bE.ls.length≤100000) (hr:mi p0 d a=r0):
    Calls y4 59 #[vP g0 0, .agg (gH d.aM d.aP d.fO d.aS d.dJ d.d9 d.aY d.ax d.bf d.di d.bi d.aI d.dM d.cZ d.xN d.dY d.bW.bJ d.bW.bX aj aL ak au aM av aA aN aC).toArray] w (dS fun v w'=> ∃ (B0ox0:Option Addr) (b0ox0:Nat) (e0ox0:List bA),v= .tuple #[]∧Own w D w' [blk g0 [vP e 0, .slice B0ox0 r0.bE.ls.length b0ox0] 98,row B0ox0 r0.bE.ls.length b0ox0 (q6 bA.cells e0ox0) 42 21,sepL (q6 bA.own e0ox0),blk e [vI a.aa.ak,vU a.aa.ax,vU a.aa.bi,vU a.aa.aI, .slice L a.aa.ag.ls.length M, .slice g a.aa.aj.ls.length h, .slice N a.aa.aF.ls.length O,vU a.bH, .slice j a.aA.ls.length l, .bool a.aQ.aR,vU a.aQ.aH,vI a.aQ.aZ, .slice P a.aQ.ae.ls.length Q, .bool a.aO.aR,vU a.aO.aH,vI a.aO.aZ, .slice R a.aO.ae.ls.length S, .bool a.aL.aR,vU a.aL.aH,vI a.aL.aZ, .slice T a.aL.ae.ls.length U, .bool a.aN.aR,vU a.aN.aH,vI a.aN.aZ, .slice V a.aN.ae.ls.length W, .bool a.aK.aR,vU a.aK.aH,vI a.aK.aZ, .slice X a.aK.ae.ls.length Y,vU a.df,vU a.cu,vU a.cz,vU a.cB,vU a.cK, .pointer none] 86]∧(s8 bA.abs e0ox0=r0.bE.ls)):=by
 subst aY bf bg
 have dh:=az u
 have di:=az aZ
 have bq:=az F
 have bu:=az I
 have dD:=H.rowC (i:=1) rfl
 refine cb Tryz.func59 ?_
 refine sr ?_
 refine dK (gM d aj ak au av aA aC) 42 H ?_
 intro ae ek dE
 refine nt (EP ?_)
 refine wR [] (E9 Fp) dE ?_
 intro eu bF
 refine qv 0 rfl rfl (qp g0 0 1 rfl (qp g0 0 2 rfl (ql 3 rfl 1 N7 rfl rfl rfl (qp ae 8 4 rfl (ql 5 rfl 0 E1 rfl rfl rfl ?_)))))
 refine GX.do 6 rfl e7 (Fe Tryz.call95 rfl ?_ (fun _ _ k=>k))
 refine cb Tryz.func95 ?_
 refine sr (Az rfl (Ar rfl (Mz rfl (Kz (vP e 0) (Kz (vP e 0) (Kz (vP e 5) (Lz (.slice g a.aa.aj.ls.length h) bF 4 D4 (Mz rfl ?_))))))))
 obtain⟨⟨ag,r⟩,Z⟩:∃ q:Int × Bool,bU a.aa.aj.ls d.bf=q:=⟨_,rfl⟩
 obtain⟨eB,bH,aO,bI,dR⟩:=EU bF
 refine cl Tryz.call132 (gT _ _ g a.aa.aj.ls.length h o a.aa.aj.ls d.bf ag r bH F (aO _ aD) (fun z B=>⟨aO _ (G z B).1,(G z B).2⟩) rfl e6 Z) ?_
 rintro _ eD ⟨rfl,bJ,aP,aQ⟩
 have bK:=bI _ _ bJ
 replace aP:0≤ag∧ag≤((a.aa.aj.ls.length:Nat):Int):=aP
 replace aQ:Bool.toNat r=0∨ag < ((a.aa.aj.ls.length:Nat):Int):=aQ
 refine Kz (vI ag) (Kz (.bool r) (Az rfl (An rfl (rt (Fin.res (lT rfl rfl rfl) ?_)))))
 refine⟨.inr ⟨_,bK⟩, ?_⟩
 refine qv 7 rfl rfl (qk (vI ag) 8 rfl (qk (.bool r) 9 rfl (qa 10 rfl rfl (qa 11 rfl rfl (qn (ER (EP ?_)))))))
 refine wR [] (E9 Fp) bK ?_
 intro eF bL
 refine qv 0 rfl rfl (qp g0 0 1 rfl (qp g0 0 2 rfl (ql 3 rfl 1 N7 rfl rfl rfl (qp ae 8 4 rfl (ql 5 rfl 0 E1 rfl rfl rfl ?_)))))
 refine GX.do 6 rfl e7 (Fe Tryz.call62 rfl ?_ (fun _ _ k=>k))
 refine cb Tryz.func62 ?_
 refine sr (Az rfl (Ar rfl (Mz rfl (Kz (vP e 0) (Kz (vP e 8) (Lz (.slice j a.aA.ls.length l) bL 4 O5 (Mz rfl ?_)))))))
 obtain⟨⟨ai,s⟩,aa⟩:∃ q:Int × Bool,dz a.aA.ls d.bf=q:=⟨_,rfl⟩
 obtain⟨eG,bM,m,bN,dU⟩:=EU bL
 refine cl Tryz.call102 (iF _ _ j a.aA.ls.length l p a.aA.ls d.bf ai s bM I (m _ aF) (fun z B=>⟨m _ (b z B).1,(b z B).2.1,m _ (b z B).2.2.1,(b z B).2.2.2.1,(fun f k1=>⟨m _ ((b z B).2.2.2.2.1 f k1).1,((b z B).2.2.2.2.1 f k1).2.1,m _ ((b z B).2.2.2.2.1 f k1).2.2.1,((b z B).2.2.2.2.1 f k1).2.2.2⟩),m _ (b z B).2.2.2.2.2.1,(b z B).2.2.2.2.2.2.1,m _ (b z B).2.2.2.2.2.2.2.1,(b z B).2.2.2.2.2.2.2.2.1,(fun f k1=>⟨m _ ((b z B).2.2.2.2.2.2.2.2.2 f k1).1,((b z B).2.2.2.2.2.2.2.2.2 f k1).2.1,(fun y2 k2=>⟨m _ (((b z B).2.2.2.2.2.2.2.2.2 f k1).2.2 y2 k2).1,(((b z B).2.2.2.2.2.2.2.2.2 f k1).2.2 y2 k2).2⟩)⟩)⟩) rfl e6 aa) ?_
 rintro _ eH ⟨rfl,bP,aR,aS⟩
 have J:=bN _ _ bP
 replace aR:0≤ai∧ai≤((a.aA.ls.length:Nat):Int):=aR
 replace aS:Bool.toNat s=0∨ai < ((a.aA.ls.length:Nat):Int):=aS
 refine Kz (vI ai) (Kz (.bool s) (Az rfl (An rfl (rt (Fin.res (lT rfl rfl rfl) ?_)))))
 refine⟨.inr ⟨_,J⟩, ?_⟩
 refine qv 7 rfl rfl (qk (vI ai) 8 rfl (qk (.bool s) 9 rfl (qa 10 rfl rfl (qa 11 rfl rfl (qn (ER (sr (Mz rfl (Mz rfl ?_)))))))))
 rcases IW (r) with n | n
 have h54t:Bool.toNat r=1:=by rw [n]; rfl
 refine Sz n (Sz n (fw (.bool true) (Fa rfl n rfl) (nt (jt (EO (Mz rfl (Kz (vP ae 8) (Lz (vU d.bf) J 0 E1 (Kz (vP ae 1) (Lz (vI d.aP) J 0 C6 ?_))))))))))
 refine kG [vI d.aP] 3 1 1 J ?_
 intro bR eO bi
 replace bi:=Fx (y:=row bR 1 1 (q6 (eI .i64) ([d.aP])) 3 1) rfl bi
 refine Mz rfl ?_
 have dF:=bi.pb [0,1,5]
 obtain⟨bS,aU⟩:∃ q,fq p0 d.bf ([d.aP]) r=q:=⟨_,rfl⟩
 obtain⟨eP,bT,dV,bV,bW⟩:=FC dF
 refine cl O6 (kz _ _ g0 p0 C E t e d.bf bR 1 1 ([d.aP]) r bS bT u (bW _ 0 _ rfl aT) rfl i8 g7 aU) ?_
 rintro _ eQ ⟨dG,dH,dI,rfl,bX,aV⟩
 have bY:=bV _ _ bX
 have dW:=az aV
 have dX:=bY.rowC (i:=1) rfl
 refine D0 (Ff (res0 rfl) ?_)
 have dJ:=bY.pk [0,1,2,5]
 obtain rfl:_=bS:=hr.symm.trans (et (ah Z) (et (ah aa) (et (ip n) (ah aU))))
 exact⟨dG,dH,dI,rfl,dJ,aV⟩
 have h54t:Bool.toNat r=0:=by rw [n]; rfl
 refine FP (v:= .bool s) rfl rfl n rfl (E5 rfl) (Gz (.bool (!s)) n (fw (.bool (!s)) (ES rfl n rfl) (nt ?_)))
 rcases IW (s) with K | K
 have h76t:Bool.toNat s=1:=by rw [K]; rfl
 refine jF (cn K) (Fq (Ff (res0 rfl) ?_))
 have dL:=J.px [] [0] []
 obtain rfl:_=p0:=hr.symm.trans (et (ah Z) (et (ah aa) (et (fU n) (ip K))))
 exact⟨C,E,t,rfl,dL,u⟩
 have h76t:Bool.toNat s=0:=by rw [K]; rfl
 refine jT (cn K) (EO (Mz rfl (Kz (vP ae 8) (Lz (vU d.bf) J 0 E1 (Kz (vP ae 1) (Lz (vI d.aP) J 0 C6 ?_))))))
 refine kG [vI d.aP] 3 1 1 J ?_
 intro bZ eT bn
 replace bn:=Fx (y:=row bZ 1 1 (q6 (eI .i64) ([d.aP])) 3 1) rfl bn
 refine Mz rfl ?_
 have dM:=bn.pb [0,1,5]
 obtain⟨cu,aW⟩:∃ q,fq p0 d.bf ([d.aP]) r=q:=⟨_,rfl⟩
 obtain⟨eU,cz,dY,cB,cK⟩:=FC dM
 refine cl O6 (kz _ _ g0 p0 C E t e d.bf bZ 1 1 ([d.aP]) r cu cz u (cK _ 0 _ rfl aT) rfl i8 g7 aW) ?_
 rintro _ eX ⟨dN,dO,dP,rfl,cO,aX⟩
 have cZ:=cB _ _ cO
 have dZ:=az aX
 have d9:=cZ.rowC (i:=1) rfl
 refine D0 (Ff (res0 rfl) ?_)
 have dQ:=cZ.pk [0,1,2,5]
 obtain rfl:_=cu:=hr.symm.trans (et (ah Z) (et (ah aa) (et (fU n) (et (fU K) (ah aW)))))
 exact⟨dN,dO,dP,rfl,dQ,aX⟩
def gN (p1c0:bQ):List Int→Nat→Unit ⊕ Int
  | [],a=>Sum.inl ()
  | b::c,a=>if b=p1c0.aP then Sum.inr ((a:Nat):Int) else gN p1c0 c (a+1)
def mF (l0:List Int) (p1c0:bQ):Int:=
 lp (gN p1c0 l0 0) fun _=>(-1)
theorem qX (w:World) (D:Nat→Prop) (n:Option Addr) (t u:Nat) (l0:List Int) (g1c0:Nat) (p1c0:bQ) (A1c0x0:Option Addr) (c1c0x0:Nat) (A1c0x1:Option Addr) (c1c0x1:Nat) (d1c0x1:List af) (A1c0x2:Option Addr) (c1c0x2:Nat) (s:Int) (H:Own w D w [blk g1c0 (gM p1c0 A1c0x0 c1c0x0 A1c0x1 c1c0x1 A1c0x2 c1c0x2) 42]) (l:Ro w D fun w'=>bD w' 1 n t (q6 (eI .i64) l0)) (y:t=l0.length) (I:l0.length≤9223372036854775807) (hx1c0x0:Ro w D fun w'=>bD w' 6 A1c0x0 p1c0.aD.ls.length (q6 bC.cells p1c0.aD.ls)) (hb1c0x0:p1c0.aD.ls.length≤c1c0x0∧p1c0.aD.ls.length≤9223372036854775807) (hd1c0x1:s8 af.abs d1c0x1=p1c0.ai.ls) (hx1c0x1:Ro w D fun w'=>bD w' 3 A1c0x1 p1c0.ai.ls.length (q6 af.cells d1c0x1)) (hb1c0x1:p1c0.ai.ls.length≤c1c0x1∧p1c0.ai.ls.length≤9223372036854775807) (hm1c0x1:∀ x ∈ d1c0x1,Ro w D (fun w'=>bD w' 2 x.au.A x.au.ls.length (q6 aJ.cells x.au.ls))∧(x.au.ls.length≤x.au.c∧x.au.ls.length≤9223372036854775807)) (hx1c0x2:Ro w D fun w'=>bD w' 2 A1c0x2 p1c0.ag.ls.length (q6 bv.cells p1c0.ag.ls)) (hb1c0x2:p1c0.ag.ls.length≤c1c0x2∧p1c0.ag.ls.length≤9223372036854775807) (hr:mF l0 p1c0=s):
    Calls y4 134 #[.slice n t u, .func (.func 97) #[] #[vP g1c0 0]] w (dS fun v w'=>v=vI s∧Own w D w' [blk g1c0 (gM p1c0 A1c0x0 c1c0x0 A1c0x1 c1c0x1 A1c0x2 c1c0x2) 42]∧(-1≤s∧s < ((l0.length:Nat):Int))):=by
 subst y
 have hdl1c0x1:=az hd1c0x1
 refine cb Tryz.func134 ?_
 refine sr (An rfl (EP (sr (Mz rfl (Kz (vJ l0.length) (Mn rfl (bo ?_)))))))
 have z:=H.pf []
 obtain⟨B,d⟩:=lK fun(a:Nat) (w':World)=>Own w D w' [blk g1c0 (gM p1c0 A1c0x0 c1c0x0 A1c0x1 c1c0x1 A1c0x2 c1c0x2) 42]∧a≤l0.length∧gN p1c0 l0 0=gN p1c0 (r6 a l0) a
 refine C5 (fun i:Nat=> [(4,vI 0),(8,vJ i),(7,vJ l0.length),(0, .slice n l0.length u),(1, .func (.func 97) #[] #[vP g1c0 0])]) B (fun i=>l0.length - i) 0 ⟨rfl,rfl,rfl,rfl,rfl,trivial⟩ (d.2 ⟨z,e6,rfl⟩) ?_
 rintro a J o
 obtain⟨b,G,f⟩:=d.1 o
 refine sr (Kz (.bool (decide (((a:Nat):Int) < ((l0.length:Nat):Int)))) (nt (EP ?_)))
 by_cases p:((a:Nat):Int) < ((l0.length:Nat):Int)
 obtain⟨m,h⟩:=dG (ls:=l0) (i:=a) iH f3 (b.ro l) e9
 have j:=drop_at h
 refine jT (dT p) (sk (EP (bo (sr (Mz rfl (Ar rfl (Mz rfl (Mz rfl (Mz rfl (fw (.pointer (some ⟨ab n,ao n+a *1,none⟩)) (ET (mQ) rfl rfl ((b.ro l).addr (i:=a) e6) e6) (fw (vI m) (EY rfl (bZ.one C6 (((b.ro l).elem iH h f3).at_ (k:=0) rfl))) ?_)))))))))))
 refine WL.do rfl (Fw Tryz.call97 rfl rfl ?_ (fun _ _ k=>k))
 refine cb Tryz.func97 ?_
 refine sr (Ar rfl (Mz rfl (Kz (vP g1c0 1) (Lz (vI p1c0.aP) b 0 C6 (Kz (.bool (decide (m=p1c0.aP))) (An rfl (rt (rs (nt ?_)))))))))
 by_cases g:m=p1c0.aP
 refine jT (dT g) (sr (Mz rfl (An rfl (rt (bR (tR (tR (bR (tR (rs ?_))))))))))
 have C:=b.pf []
 obtain rfl:_=((a:Nat):Int):=hr.symm.trans (iY (et (f) (et (congrArg (fun q=>gN p1c0 q a) j) (ip g))))
 exact⟨rfl,C,e6⟩
 refine jF (dF g) (Fq (bN (ER (EO (fw (vJ (a+1)) (EQ (e:=C7.wrap (((a:Nat):Int)+1)) yk f1) (Mz rfl (D0 ?_)))))))
 have E:=b.pf []
 exact E8 (a+1) ⟨rfl,rfl,rfl,rfl,rfl,trivial⟩ (d.2 ⟨E,e6,et (f) (et (congrArg (fun q=>gN p1c0 q a) j) (iN g))⟩) (by show l0.length - (a+1) < l0.length - a; omega)
 refine jF (dF p) (D1 (EX ?_))
 have r:gN p1c0 l0 0=Sum.inl ():=et (f) (et (congrArg (fun q=>gN p1c0 q a) (eD (ls:=l0) (i:=a) e6)) rfl)
 refine EX (Fg (ER (sr (An rfl (rt (rs ?_))))))
 have F:=b.pf []
 obtain rfl:_=(-1):=hr.symm.trans (nI r)
 exact⟨rfl,F,e6⟩
def gL (l0:List Int) (p1c0:bQ):Nat→Int→Int→List Int→Int × (List Int)
  | 0,a,b,c=>default
  | e+1,a,b,c=>if b < ((l0.length:Nat):Int) then bnd (C2 c (D2 b) default) fun d=>if d=p1c0.aP then gL l0 p1c0 e a (b+1) c else gL l0 p1c0 e (a+1) (b+1) (u5 c (D2 a) d) else(a,c)
def ik (l0:List Int) (p1c0:bQ):(List Int):=
 bnd (mF l0 p1c0) fun a=>if a=(-1) then l0 else bnd (gL l0 p1c0 ((D2 (((l0.length:Nat):Int) - (a+1)))+1) a (a+1) l0) fun sLrbfL=>(r5 (D2 sLrbfL.1) sLrbfL.2)
theorem qF (w:World) (D:Nat→Prop) (h:Option Addr) (T n:Nat) (l0:List Int) (g1c0:Nat) (p1c0:bQ) (A1c0x0:Option Addr) (c1c0x0:Nat) (A1c0x1:Option Addr) (c1c0x1:Nat) (d1c0x1:List af) (A1c0x2:Option Addr) (c1c0x2:Nat) (I:List Int) (H:Own w D w [row h T n (q6 (eI .i64) l0) 3 1,blk g1c0 (gM p1c0 A1c0x0 c1c0x0 A1c0x1 c1c0x1 A1c0x2 c1c0x2) 42]) (U:T=l0.length) (aM:l0.length *8≤211106232532992) (hx1c0x0:Ro w D fun w'=>bD w' 6 A1c0x0 p1c0.aD.ls.length (q6 bC.cells p1c0.aD.ls)) (hb1c0x0:p1c0.aD.ls.length≤c1c0x0∧p1c0.aD.ls.length≤9223372036854775807) (hd1c0x1:s8 af.abs d1c0x1=p1c0.ai.ls) (hx1c0x1:Ro w D fun w'=>bD w' 3 A1c0x1 p1c0.ai.ls.length (q6 af.cells d1c0x1)) (hb1c0x1:p1c0.ai.ls.length≤c1c0x1∧p1c0.ai.ls.length≤9223372036854775807) (hm1c0x1:∀ x ∈ d1c0x1,Ro w D (fun w'=>bD w' 2 x.au.A x.au.ls.length (q6 aJ.cells x.au.ls))∧(x.au.ls.length≤x.au.c∧x.au.ls.length≤9223372036854775807)) (hx1c0x2:Ro w D fun w'=>bD w' 2 A1c0x2 p1c0.ag.ls.length (q6 bv.cells p1c0.ag.ls)) (hb1c0x2:p1c0.ag.ls.length≤c1c0x2∧p1c0.ag.ls.length≤9223372036854775807) (aN:l0.length≤1000000) (hr:ik l0 p1c0=I):
    Calls y4 96 #[.slice h T n, .func (.func 97) #[] #[vP g1c0 0]] w (dS fun v w'=> ∃ (B0:Option Addr) (b0:Nat),v= .slice B0 I.length b0∧Own w D w' [row B0 I.length b0 (q6 (eI .i64) I) 3 1,blk g1c0 (gM p1c0 A1c0x0 c1c0x0 A1c0x1 c1c0x1 A1c0x2 c1c0x2) 42]∧(I.length≤l0.length)):=by
 subst U
 have hdl1c0x1:=az hd1c0x1
 have aO:=H.rowC (i:=0) rfl
 refine cb Tryz.func96 ?_
 refine sr (Ar rfl (Mz rfl (Mz rfl ?_)))
 have V:=H.pb [0]
 obtain⟨d,r⟩:∃ q,mF l0 p1c0=q:=⟨_,rfl⟩
 obtain⟨aP,J,l,K,L⟩:=Fu V
 refine cl Tryz.call134 (qX _ _ h l0.length n l0 g1c0 p1c0 A1c0x0 c1c0x0 A1c0x1 c1c0x1 d1c0x1 A1c0x2 c1c0x2 d J (L _ 0 _ rfl aT) rfl e6 (l _ hx1c0x0) (show p1c0.aD.ls.length≤c1c0x0∧p1c0.aD.ls.length≤9223372036854775807 from by omega) hd1c0x1 (l _ hx1c0x1) (show p1c0.ai.ls.length≤c1c0x1∧p1c0.ai.ls.length≤9223372036854775807 from by omega) (fun x9 h9=>⟨l _ (hm1c0x1 x9 h9).1,(hm1c0x1 x9 h9).2⟩) (l _ hx1c0x2) (show p1c0.ag.ls.length≤c1c0x2∧p1c0.ag.ls.length≤9223372036854775807 from by omega) r) ?_
 rintro _ aQ ⟨rfl,M,F⟩
 have N:=K _ _ M
 replace F: -1≤d∧d < ((l0.length:Nat):Int):=F
 refine An rfl (EP (sr (Mz rfl (Kz (.bool (decide (d=(-1)))) (nt ?_)))))
 by_cases C:d=(-1)
 refine jT (dT C) (sr (Mz rfl (An rfl (rt (tR (rs ?_))))))
 have W:=N.pb [0]
 obtain rfl:_=l0:=hr.symm.trans (et (ah r) (ip C))
 exact⟨h,n,rfl,W,j7⟩
 refine jF (dF C) (sk (EP (sr (Mz rfl (fw (vI (d+1)) (EQ (e:=C7.wrap (d+1)) yk g2) (An rfl (bo ?_)))))))
 have X:=N.pf []
 obtain⟨Y,m⟩:=rD fun(a:Int) (b:Int) (f:List Int) (s:Nat) (w':World)=>Own w D w' [blk g1c0 (gM p1c0 A1c0x0 c1c0x0 A1c0x1 c1c0x1 A1c0x2 c1c0x2) 42,row h l0.length n (q6 (eI .i64) f) 3 1]∧f.length=l0.length∧(0≤a∧a≤b∧b≤((l0.length:Nat):Int))∧D2 (((l0.length:Nat):Int) - b) < s∧gL l0 p1c0 ((D2 (((l0.length:Nat):Int) - (d+1)))+1) d (d+1) l0=gL l0 p1c0 s a b f
 refine C5 (fun i:Int × Int × (List Int) × Nat=> [(5,vI i.1),(6,vI i.2.1),(4, .slice none 0 0),(0, .slice h l0.length n),(1, .func (.func 97) #[] #[vP g1c0 0])]) Y (fun i=>i.2.2.2) (d,d+1,l0,(D2 (((l0.length:Nat):Int) - (d+1)))+1) ⟨rfl,rfl,rfl,rfl,rfl,trivial⟩ (m.2 ⟨X,by first | omega | (simp only [H3] <;> omega) | (simp only [H4]),e6,e6,rfl⟩) ?_
 rintro ⟨a,b,f,s⟩ aR O
 obtain⟨g,aD,aF,aG,t⟩:=m.1 O
 obtain⟨p,P⟩:∃ q,s=q+1:=⟨s - 1,e6⟩
 subst P
 refine EP (sr (Mz rfl (Mz rfl (Kz (vJ l0.length) (Kz (.bool (decide (b < ((l0.length:Nat):Int)))) (nt ?_))))))
 by_cases u:b < ((l0.length:Nat):Int)
 refine jT (dT u) (sk (EP (bo (sr (Mz rfl (fw (vJ (D2 b)) (EQ (e:=b) (E5 rfl) e6) ?_))))))
 obtain⟨j,z⟩:=dG (ls:=f) (i:=D2 b) iH f3 (g.rds (i:=1) rfl) e9
 refine fw (.pointer (some ⟨ab h,ao h+(D2 b) *1,none⟩)) (ET (mQ) rfl rfl ((g.rds (i:=1) rfl).addr (i:=D2 b) e6) e6) (fw (vI j) (EY rfl (bZ.one C6 (((g.rds (i:=1) rfl).elem iH z f3).at_ (k:=0) rfl))) (Ar rfl (Mz rfl (Mz rfl ?_))))
 refine WL.do rfl (Fw Tryz.call97 rfl rfl ?_ (fun _ _ k=>k))
 refine cb Tryz.func97 ?_
 refine sr (Ar rfl (Mz rfl (Kz (vP g1c0 1) (Lz (vI p1c0.aP) g 0 C6 (Kz (.bool (decide (j=p1c0.aP))) (An rfl (rt (rs (fw (.bool (decide (¬ (j=p1c0.aP)))) (Fs (e:= !(decide (j=p1c0.aP))) yk decide_not.symm) (nt ?_))))))))))
 by_cases E:j=p1c0.aP
 refine jF (dF (IV E)) (Fq (bN (ER (EO (Mz rfl (fw (vI (b+1)) (EQ (e:=C7.wrap (b+1)) yk g2) (Az rfl (D0 ?_))))))))
 have Z:=g.pf []
 exact E8 (a,b+1,f,p) ⟨rfl,rfl,rfl,rfl,rfl,trivial⟩ (m.2 ⟨Z,by first | omega | (simp only [H3] <;> omega) | (simp only [H4]),e6,e6,Eq.trans (t) (Eq.trans (if_pos u) (Eq.trans (ah (bI z)) (if_pos E)))⟩) (by show p < p+1; omega)
 refine jT (dT E) (sr (Mz rfl (fw (vJ (D2 a)) (EQ (e:=a) (E5 rfl) e6) (Mz rfl ?_))))
 obtain⟨aS,G⟩:=dG (ls:=f) (i:=D2 a) iH f3 (g.rds (i:=1) rfl) e9
 refine fw (.pointer (some ⟨ab h,ao h+(D2 a) *1,none⟩)) (ET (mQ) rfl rfl ((g.rds (i:=1) rfl).addr (i:=D2 a) e6) e6) ?_
 have aa:=g.pb [0]
 refine F6 (Do.storeRow (vs:= [vI j]) (o:=(D2 a) *1+0) (q:=ao h+(D2 a) *1) aa rfl e6 rfl Tryz.sizeOf3 rfl rfl (IQ rfl) (iJ iH G (IQ rfl)) (jw (y:=j) iH rfl (IQ rfl) G) ?_)
 intro aU ae
 refine nt (EO (Mz rfl (fw (vI (a+1)) (EQ (e:=C7.wrap (a+1)) yk g2) (Az rfl (D0 (bN (ER (EO (Mz rfl (fw (vI (b+1)) (EQ (e:=C7.wrap (b+1)) yk g2) (Az rfl (D0 ?_))))))))))))
 have ag:=ae.pb [0]
 exact E8 (a+1,b+1,(u5 f (D2 a) j),p) ⟨rfl,rfl,rfl,rfl,rfl,trivial⟩ (m.2 ⟨ag,by first | omega | (simp only [H3] <;> omega) | (simp only [H4]),e6,e6,Eq.trans (t) (Eq.trans (if_pos u) (Eq.trans (ah (bI z)) (if_neg E)))⟩) (by show p < p+1; omega)
 refine jF (dF u) (D1 (EX ?_))
 have Q:gL l0 p1c0 ((D2 (((l0.length:Nat):Int) - (d+1)))+1) d (d+1) l0=(a,f):=et (t) (iN u)
 refine EX (Fg (ER (sr (Mz rfl (fw (vJ (D2 a)) (EQ (e:=a) (E5 rfl) e6) (fw (.slice (jr h (D2 a) 1 n) (l0.length - (D2 a)) (n - (D2 a))) (FH (mQ) rfl rfl e6) ?_))))))
 have ai:=g.pb [0]
 obtain⟨aH,aj,R⟩:=ai.rowFull
 refine F6 (GA (z0:=(vI 0)) (lo:=D2 a) (nd:=(l0.length - (D2 a))) e7 rfl (mQ) R rfl (fun _=>kL ((R.rds (i:=0) rfl).isSome e6) e6) e6 ?_)
 intro S aI aK ak
 refine ns (Mz rfl (fw (vJ (D2 a)) (EQ (e:=a) (E5 rfl) e6) (fw (.slice h (D2 a) n) (FV (mQ) rfl rfl e6) (An rfl (rt (rs ?_))))))
 have au:Own w D S [row h (D2 a) n (q6 (eI .i64) (r5 (D2 a) f)) 3 1,blk g1c0 (gM p1c0 A1c0x0 c1c0x0 A1c0x1 c1c0x1 A1c0x2 c1c0x2) 42]:=ak.rowPart e6 (Co iH e6)
 have aL:s2 (r5 (D2 a) f)=D2 a:=by rw [p3]; omega
 have B:D2 a=s2 (r5 (D2 a) f):=by first | omega | (simp only [H3]; done) | (simp only [H3,p5,s3,G1,p3,p4,H4]; omega)
 have av:Own w D S [row h (s2 (r5 (D2 a) f)) n (q6 (eI .i64) (r5 (D2 a) f)) 3 1,blk g1c0 (gM p1c0 A1c0x0 c1c0x0 A1c0x1 c1c0x1 A1c0x2 c1c0x2) 42]:=by rw [← B]; exact au
 have ax:=av.pf []
 obtain rfl:_=(r5 (D2 a) f):=hr.symm.trans (et (ah r) (et (iN C) (ah Q)))
 exact⟨h,n,(by first | rfl | (rw [← B]; done) | (rw [← B]; rfl)),ax,j7⟩
def lG (f:bO) (g:bQ) (a:aB):bO × aB:=
 bnd (bU a.aa.aj.ls g.bf) fun c=>if c.2=true then bnd (C2 a.aa.aj.ls (D2 c.1) default) fun b=>bnd (ik b.ak.ls g) fun d=>bnd (C2 (u5 a.aa.aj.ls (D2 c.1) (bL.mk b.bf b.aS b.ax b.aY (E4 d))) (D2 c.1) default) fun e=>if((e.ak.ls.length:Nat):Int)=0 then(f,aB.mk (dA.mk a.aa.ak a.aa.ax a.aa.bi a.aa.aI (E4 a.aa.ag.ls) (E4 (r5 (D2 c.1) (u5 a.aa.aj.ls (D2 c.1) (bL.mk b.bf b.aS b.ax b.aY (E4 d)))++r6 ((D2 c.1)+1) (u5 a.aa.aj.ls (D2 c.1) (bL.mk b.bf b.aS b.ax b.aY (E4 d))))) (E4 a.aa.aF.ls)) a.bH (E4 a.aA.ls) a.aQ a.aO a.aL a.aN a.aK a.df a.cu a.cz a.cB a.cK) else(f,aB.mk (dA.mk a.aa.ak a.aa.ax a.aa.bi a.aa.aI (E4 a.aa.ag.ls) (E4 (u5 a.aa.aj.ls (D2 c.1) (bL.mk b.bf b.aS b.ax b.aY (E4 d)))) (E4 a.aa.aF.ls)) a.bH (E4 a.aA.ls) a.aQ a.aO a.aL a.aN a.aK a.df a.cu a.cz a.cB a.cK) else(f,a)
set_option maxHeartbeats 4000000 in
theorem vW (w:World) (D:Nat→Prop) (g0:Nat) (p0:bO) (u:Option Addr) (z:Nat) (t:List bA) (p:bQ) (aj:Option Addr) (aP Y:Nat) (ak:Option Addr) (aQ Z:Nat) (au:List af) (ax:Option Addr) (aR aa:Nat) (l:Nat) (a:aB) (C:Option Addr) (E:Nat) (g:Option Addr) (n:Nat) (h:List ay) (F:Option Addr) (G:Nat) (I:Option Addr) (J:Nat) (K:Option Addr) (L:Nat) (M:Option Addr) (N:Nat) (O:Option Addr) (P:Nat) (Q:Option Addr) (R:Nat) (S:Option Addr) (T:Nat) (r0:bO) (B:aB) (H:Own w D w [blk g0 [.pointer (some ⟨l,0,none⟩), .slice u p0.bE.ls.length z] 98,row u p0.bE.ls.length z (q6 bA.cells t) 42 21,sepL (q6 bA.own t),blk l [.int .i64 a.aa.ak, .int .u64 ((a.aa.ax:Nat):Int), .int .u64 ((a.aa.bi:Nat):Int), .int .u64 ((a.aa.aI:Nat):Int), .slice C a.aa.ag.ls.length E, .slice g a.aa.aj.ls.length n, .slice F a.aa.aF.ls.length G, .int .u64 ((a.bH:Nat):Int), .slice I a.aA.ls.length J, .bool a.aQ.aR, .int .u64 ((a.aQ.aH:Nat):Int), .int .i64 a.aQ.aZ, .slice K a.aQ.ae.ls.length L, .bool a.aO.aR, .int .u64 ((a.aO.aH:Nat):Int), .int .i64 a.aO.aZ, .slice M a.aO.ae.ls.length N, .bool a.aL.aR, .int .u64 ((a.aL.aH:Nat):Int), .int .i64 a.aL.aZ, .slice O a.aL.ae.ls.length P, .bool a.aN.aR, .int .u64 ((a.aN.aH:Nat):Int), .int .i64 a.aN.aZ, .slice Q a.aN.ae.ls.length R, .bool a.aK.aR, .int .u64 ((a.aK.aH:Nat):Int), .int .i64 a.aK.aZ, .slice S a.aK.ae.ls.length T, .int .u64 ((a.df:Nat):Int), .int .u64 ((a.cu:Nat):Int), .int .u64 ((a.cz:Nat):Int), .int .u64 ((a.cB:Nat):Int), .int .u64 ((a.cK:Nat):Int), .pointer none] 86,row g a.aa.aj.ls.length n (q6 ay.cells h) 60 5,sepL (q6 ay.own h)]) (W:s8 bA.abs t=p0.bE.ls) (aY:aP=p.aD.ls.length) (aZ:Ro w D fun w'=>bD w' 6 aj p.aD.ls.length (q6 bC.cells p.aD.ls)) (dn:p.aD.ls.length≤Y∧p.aD.ls.length≤9223372036854775807) (aH:s8 af.abs au=p.ai.ls) (bf:aQ=p.ai.ls.length) (bg:Ro w D fun w'=>bD w' 3 ak p.ai.ls.length (q6 af.cells au)) (dw:p.ai.ls.length≤Z∧p.ai.ls.length≤9223372036854775807) (aI:∀ x ∈ au,Ro w D (fun w'=>bD w' 2 x.au.A x.au.ls.length (q6 aJ.cells x.au.ls))∧(x.au.ls.length≤x.au.c∧x.au.ls.length≤9223372036854775807)) (bi:aR=p.ag.ls.length) (bq:Ro w D fun w'=>bD w' 2 ax p.ag.ls.length (q6 bv.cells p.ag.ls)) (dx:p.ag.ls.length≤aa∧p.ag.ls.length≤9223372036854775807) (m:s8 ay.abs h=a.aa.aj.ls) (eQ:a.aa.ag.ls.length≤1000∧a.aa.aj.ls.length≤1000∧a.aa.aF.ls.length≤1000∧a.aA.ls.length≤1000∧p0.bE.ls.length≤100000) (eT:Dk a.aa.aj.ls) (hr:lG p0 p a=(r0,B)):
    Calls y4 58 #[vP g0 0, .agg (gH p.aM p.aP p.fO p.aS p.dJ p.d9 p.aY p.ax p.bf p.di p.bi p.aI p.dM p.cZ p.xN p.dY p.bW.bJ p.bW.bX aj aP Y ak aQ Z ax aR aa).toArray] w (dS fun v w'=> ∃ (B0ox0:Option Addr) (b0ox0:Nat) (e0ox0:List bA) (B1ox1:Option Addr) (b1ox1:Nat) (e1ox1:List ay),v= .tuple #[]∧Own w D w' [blk g0 [vP l 0, .slice B0ox0 r0.bE.ls.length b0ox0] 98,row B0ox0 r0.bE.ls.length b0ox0 (q6 bA.cells e0ox0) 42 21,sepL (q6 bA.own e0ox0),blk l [vI B.aa.ak,vU B.aa.ax,vU B.aa.bi,vU B.aa.aI, .slice C a.aa.ag.ls.length E, .slice B1ox1 B.aa.aj.ls.length b1ox1, .slice F a.aa.aF.ls.length G,vU B.bH, .slice I a.aA.ls.length J, .bool B.aQ.aR,vU B.aQ.aH,vI B.aQ.aZ, .slice K a.aQ.ae.ls.length L, .bool B.aO.aR,vU B.aO.aH,vI B.aO.aZ, .slice M a.aO.ae.ls.length N, .bool B.aL.aR,vU B.aL.aH,vI B.aL.aZ, .slice O a.aL.ae.ls.length P, .bool B.aN.aR,vU B.aN.aH,vI B.aN.aZ, .slice Q a.aN.ae.ls.length R, .bool B.aK.aR,vU B.aK.aH,vI B.aK.aZ, .slice S a.aK.ae.ls.length T,vU B.df,vU B.cu,vU B.cz,vU B.cB,vU B.cK, .pointer none] 86,row B1ox1 B.aa.aj.ls.length b1ox1 (q6 ay.cells e1ox1) 60 5,sepL (q6 ay.own e1ox1)]∧(s8 bA.abs e0ox0=r0.bE.ls)∧(s8 ay.abs e1ox1=B.aa.aj.ls)):=by
 subst aY bf bi
 have di:=az W
 have dm:=az aH
 have bE:=az m
 have dz:=H.rowC (i:=1) rfl
 have bF:=H.rowC (i:=4) rfl
 refine cb Tryz.func58 ?_
 refine sr ?_
 refine dK (gM p aj Y ak Z ax aa) 42 H ?_
 intro bu eU dB
 refine nt (EP ?_)
 refine wR [] (E9 Fp) dB ?_
 intro eX bB
 refine qv 0 rfl rfl (qp g0 0 1 rfl (qp g0 0 2 rfl (ql 3 rfl 1 N7 rfl rfl rfl (qp bu 8 4 rfl (ql 5 rfl 0 E1 rfl rfl rfl ?_)))))
 refine GX.do 6 rfl e7 (Fe Tryz.call95 rfl ?_ (fun _ _ k=>k))
 refine cb Tryz.func95 ?_
 refine sr (Az rfl (Ar rfl (Mz rfl (Kz (vP l 0) (Kz (vP l 0) (Kz (vP l 5) (Lz (.slice g a.aa.aj.ls.length n) bB 4 D4 (Mz rfl ?_))))))))
 obtain⟨⟨d,ae⟩,aA⟩:∃ q:Int × Bool,bU a.aa.aj.ls p.bf=q:=⟨_,rfl⟩
 obtain⟨eY,bG,dW,bH,aS⟩:=EU bB
 refine cl Tryz.call132 (gT _ _ g a.aa.aj.ls.length n h a.aa.aj.ls p.bf d ae bG m (aS _ 5 _ rfl aT) (fun x9 h9=>⟨aS _ 6 _ rfl (av (O7.2 ⟨x9,h9,b1⟩) aT),bz (φ:=fun _=>_) bB (i:=6) rfl (av (O7.2 ⟨x9,h9,b1⟩) bn)⟩) rfl e6 aA) ?_
 rintro _ dC ⟨rfl,bM,aU,aV⟩
 have X:=bH _ _ bM
 replace aU:0≤d∧d≤((a.aa.aj.ls.length:Nat):Int):=aU
 replace aV:Bool.toNat ae=0∨d < ((a.aa.aj.ls.length:Nat):Int):=aV
 refine Kz (vI d) (Kz (.bool ae) (Az rfl (An rfl (rt (Fin.res (lT rfl rfl rfl) ?_)))))
 refine⟨.inr ⟨_,X⟩, ?_⟩
 refine qv 7 rfl rfl (qk (vI d) 8 rfl (qk (.bool ae) 9 rfl (qa 10 rfl rfl (qa 11 rfl rfl (qn (ER (EP (sr (Mz rfl (Kz (.bool (!ae)) (nt ?_)))))))))))
 rcases IW (ae) with ag | ag
 have h39t:Bool.toNat ae=1:=by rw [ag]; rfl
 refine jF (cn ag) (sk (sr (Mz rfl (Kz (vP g0 0) (Kz (vP g0 0) (Lz (vP l 0) X 1 N7 (Kz (vP l 0) (Kz (vP l 0) (Kz (vP l 5) (Lz (.slice g a.aa.aj.ls.length n) X 4 D4 (fw (vJ (D2 d)) (EQ (e:=d) (E5 rfl) e6) ?_)))))))))))
 obtain⟨b,U⟩:=dG (ls:=h) (i:=D2 d) ay.len f3 (X.rds (i:=5) rfl) e9
 have aK:=eP m U
 have dX:b.ak.ls.length≤b.ak.c∧b.ak.ls.length≤9223372036854775807:=bz X (i:=6) rfl (φ:=fun _=>_) (av (O7.2 ⟨b,E0 U,b1⟩) bn)
 have dY:b.ak.ls.length≤1000:=CV f5 aK
 refine fw (.pointer (some ⟨ab g,ao g+(D2 d) *5,none⟩)) (ET (kv) rfl rfl ((X.rds (i:=5) rfl).addr (i:=D2 d) e6) e6) (Ar rfl (Mz rfl (Mz rfl (Kz (.pointer (some ⟨ab g,ao g+(D2 d) *5,none⟩)) (Kz (.pointer (some ⟨ab g,ao g+(D2 d) *5+4,none⟩)) (fw (.slice b.ak.A b.ak.ls.length b.ak.c) (EY rfl (bZ.one Tryz.isAgg58 (((X.rds (i:=5) rfl).elem ay.len U f3).at_ (k:=4) rfl))) (Kz (.func (.func 97) #[] #[vP bu 0]) ?_)))))))
 have dD:=X.pf [6]
 have bN:Own w D dC (row b.ak.A b.ak.ls.length b.ak.c (q6 (eI .i64) b.ak.ls) 3 1::sepL (q6 ay.own (r5 (D2 d) h)++q6 ay.own (r6 (D2 d+1) h))::_):=FW (f:=ay.own) (i:=D2 d) U dD
 have dZ:=bN.rowC (i:=0) rfl
 have dE:=bN.pf [0,2]
 obtain⟨j,aL⟩:∃ q,ik b.ak.ls p=q:=⟨_,rfl⟩
 obtain⟨eZ,bP,aC,bR,d9⟩:=Fv dE
 refine cl Tryz.call96 (qF _ _ b.ak.A b.ak.ls.length b.ak.c b.ak.ls bu p aj Y ak Z au ax aa j bP rfl e6 (aC _ aZ) (show p.aD.ls.length≤Y∧p.aD.ls.length≤9223372036854775807 from by omega) aH (aC _ bg) (show p.ai.ls.length≤Z∧p.ai.ls.length≤9223372036854775807 from by omega) (fun x9 h9=>⟨aC _ (aI x9 h9).1,(aI x9 h9).2⟩) (aC _ bq) (show p.ag.ls.length≤aa∧p.ag.ls.length≤9223372036854775807 from by omega) e6 aL) ?_
 rintro _ dH ⟨r,s,rfl,bS,aW⟩
 have bT:=bR _ _ bS
 have ed:=bT.rowC (i:=0) rfl
 replace aW:j.length≤b.ak.ls.length:=aW
 refine Kz (.pointer (some ⟨ab g,ao g+(D2 d) *5,none⟩)) (Kz (.pointer (some ⟨ab g,ao g+(D2 d) *5+4,none⟩)) ?_)
 have dI:=bT.pf [0,2]
 have dJ:Own w D dH (sepL (q6 ay.own (u5 h (D2 d) (ay.mk b.bf b.aS b.ax b.aY (H2 r s j))))::_):=FO (f:=ay.own) (y:=(ay.mk b.bf b.aS b.ax b.aY (H2 r s j))) U dI
 have dL:=dJ.pf [6]
 refine F6 (Do.storeRow (vs:= [.slice r j.length s]) (o:=(D2 d) *5+4) (q:=ao g+(D2 d) *5+4) dL rfl e6 rfl Tryz.sizeOf58 rfl rfl (IQ rfl) (iJ ay.len U (IQ rfl)) (jw (y:=(ay.mk b.bf b.aS b.ax b.aY (H2 r s j))) ay.len rfl (IQ rfl) U) ?_)
 intro bV dM
 have ek:s2 (u5 h (D2 d) (ay.mk b.bf b.aS b.ax b.aY (H2 r s j)))=s2 (u5 a.aa.aj.ls (D2 d) (bL.mk b.bf b.aS b.ax b.aY (E4 j))):=az (iA m rfl)
 have eu:s2 (u5 a.aa.aj.ls (D2 d) (bL.mk b.bf b.aS b.ax b.aY (E4 j)))=a.aa.aj.ls.length:=H3
 refine nt (EP ?_)
 have aM:=dM.px [] [2] []
 refine EO (Mz rfl (Kz (.pointer (some ⟨ab g,ao g+(D2 d) *5,none⟩)) (Kz (.pointer (some ⟨ab g,ao g+(D2 d) *5+4,none⟩)) ?_)))
 obtain⟨V,aD⟩:=dG (ls:=(u5 h (D2 d) (ay.mk b.bf b.aS b.ax b.aY (H2 r s j)))) (i:=D2 d) ay.len f3 (aM.rds (i:=0) rfl) e9
 have aX:=eP (iA m rfl) aD
 have eB:V.ak.ls.length≤V.ak.c∧V.ak.ls.length≤9223372036854775807:=bz aM (i:=1) rfl (φ:=fun _=>_) (av (O7.2 ⟨V,E0 aD,b1⟩) bn)
 refine fw (.slice V.ak.A V.ak.ls.length V.ak.c) (EY rfl (bZ.one Tryz.isAgg58 (((aM.rds (i:=0) rfl).elem ay.len aD f3).at_ (k:=4) rfl))) (Kz (vJ V.ak.ls.length) (Kz (.bool (decide (((V.ak.ls.length:Nat):Int)=0))) (nt ?_)))
 by_cases aO:((V.ak.ls.length:Nat):Int)=0
 refine jT (dT aO) ?_
 have aN:a.aa.aj.ls.length=s2 (u5 a.aa.aj.ls (D2 d) (bL.mk b.bf b.aS b.ax b.aY (E4 j))):=by first | omega | (simp only [H3]; done) | (simp only [H3,p5,s3,G1,p3,p4,H4]; omega)
 have dN:Own w D bV [row g (s2 (u5 a.aa.aj.ls (D2 d) (bL.mk b.bf b.aS b.ax b.aY (E4 j)))) n (q6 ay.cells (u5 h (D2 d) (ay.mk b.bf b.aS b.ax b.aY (H2 r s j)))) 60 5,sepL (q6 ay.own (u5 h (D2 d) (ay.mk b.bf b.aS b.ax b.aY (H2 r s j)))),blk g0 [vP l 0, .slice u p0.bE.ls.length z] 98,row u p0.bE.ls.length z (q6 bA.cells t) 42 21,sepL (q6 bA.own t),blk l [vI a.aa.ak,vU a.aa.ax,vU a.aa.bi,vU a.aa.aI, .slice C a.aa.ag.ls.length E, .slice g (s2 (u5 a.aa.aj.ls (D2 d) (bL.mk b.bf b.aS b.ax b.aY (E4 j)))) n, .slice F a.aa.aF.ls.length G,vU a.bH, .slice I a.aA.ls.length J, .bool a.aQ.aR,vU a.aQ.aH,vI a.aQ.aZ, .slice K a.aQ.ae.ls.length L, .bool a.aO.aR,vU a.aO.aH,vI a.aO.aZ, .slice M a.aO.ae.ls.length N, .bool a.aL.aR,vU a.aL.aH,vI a.aL.aZ, .slice O a.aL.ae.ls.length P, .bool a.aN.aR,vU a.aN.aH,vI a.aN.aZ, .slice Q a.aN.ae.ls.length R, .bool a.aK.aR,vU a.aK.aH,vI a.aK.aZ, .slice S a.aK.ae.ls.length T,vU a.df,vU a.cu,vU a.cz,vU a.cB,vU a.cK, .pointer none] 86]:=by rw [← aN]; exact aM
 have dO:=dN.pf [2,5]
 refine o5 [19] Fp dO ?_
 intro fe dP
 refine qv 0 rfl rfl (qp g0 0 1 rfl (qp g0 0 2 rfl (ql 3 rfl 0 N7 rfl rfl rfl (qv 4 rfl rfl (qp g0 0 5 rfl (qp g0 0 6 rfl (ql 7 rfl 0 N7 rfl rfl rfl (qp l 0 8 rfl (qp l 0 9 rfl (qp l 5 10 rfl (ql 11 rfl 1 D4 rfl rfl rfl (qv 12 rfl rfl (qv 13 rfl rfl (qt (v:=vI (d+1)) 14 rfl (fun _ _=>EQ (e:=C7.wrap (d+1)) yk g2) ?_))))))))))))))
 have dQ:=dP.pf [2,3]
 obtain⟨fo,bW,eD,bX,eF⟩:=Fv dQ
 refine qd 15 rfl (Fe Tryz.call98 rfl (uQ _ _ g (s2 (u5 a.aa.aj.ls (D2 d) (bL.mk b.bf b.aS b.ax b.aY (E4 j)))) n (u5 h (D2 d) (ay.mk b.bf b.aS b.ax b.aY (H2 r s j))) (u5 a.aa.aj.ls (D2 d) (bL.mk b.bf b.aS b.ax b.aY (E4 j))) d (d+1) (D2 d) V bW e6 (iA m rfl) e6 e6 e6 aD) ?_)
 rintro _ fq ⟨bY,cu,rfl,cz⟩
 have cB:=bX _ _ cz
 have eG:s2 (r5 (D2 d) (u5 h (D2 d) (ay.mk b.bf b.aS b.ax b.aY (H2 r s j)))++r6 ((D2 d)+1) (u5 h (D2 d) (ay.mk b.bf b.aS b.ax b.aY (H2 r s j))))=s2 (r5 (D2 d) (u5 a.aa.aj.ls (D2 d) (bL.mk b.bf b.aS b.ax b.aY (E4 j)))++r6 ((D2 d)+1) (u5 a.aa.aj.ls (D2 d) (bL.mk b.bf b.aS b.ax b.aY (E4 j)))):=by exact az (oM (iA m rfl))
 have eH:s2 (r5 (D2 d) (u5 a.aa.aj.ls (D2 d) (bL.mk b.bf b.aS b.ax b.aY (E4 j)))++r6 ((D2 d)+1) (u5 a.aa.aj.ls (D2 d) (bL.mk b.bf b.aS b.ax b.aY (E4 j))))+1=s2 (u5 a.aa.aj.ls (D2 d) (bL.mk b.bf b.aS b.ax b.aY (E4 j))):=by simp only [p5,p3,p4]; omega
 have eO:=cB.rowC (i:=2) rfl
 have cK:=cB.pf [3,4]
 refine⟨.inr ⟨_,cK⟩, ?_⟩
 refine qp l 0 16 rfl (qp l 0 17 rfl (qp l 5 18 rfl ?_))
 have dR:=cK.pf [1]
 refine qe 19 rfl (Do.store (vs:= [.slice bY (s2 (r5 (D2 d) (u5 a.aa.aj.ls (D2 d) (bL.mk b.bf b.aS b.ax b.aY (E4 j)))++r6 ((D2 d)+1) (u5 a.aa.aj.ls (D2 d) (bL.mk b.bf b.aS b.ax b.aY (E4 j))))) cu]) (o:=5) dR rfl rfl Tryz.sizeOf30 rfl rfl rfl rfl ?_)
 intro fu dU
 refine⟨.inl e7, ?_⟩
 refine qn (Ff (res0 rfl) ?_)
 have dV:=dU.px [] [4] [0,2,3]
 obtain⟨rfl,rfl⟩:=fT (hr.symm.trans (show _=(p0,aB.mk (dA.mk a.aa.ak a.aa.ax a.aa.bi a.aa.aI (E4 a.aa.ag.ls) (E4 (r5 (D2 d) (u5 a.aa.aj.ls (D2 d) (bL.mk b.bf b.aS b.ax b.aY (E4 j)))++r6 ((D2 d)+1) (u5 a.aa.aj.ls (D2 d) (bL.mk b.bf b.aS b.ax b.aY (E4 j))))) (E4 a.aa.aF.ls)) a.bH (E4 a.aA.ls) a.aQ a.aO a.aL a.aN a.aK a.df a.cu a.cz a.cB a.cK) from et (ah aA) (et (ip ag) (et (ah (bI aK)) (et (ah aL) (et (ah (bI aX)) (ip aO)))))))
 exact⟨u,z,t,bY,cu,(r5 (D2 d) (u5 h (D2 d) (ay.mk b.bf b.aS b.ax b.aY (H2 r s j)))++r6 ((D2 d)+1) (u5 h (D2 d) (ay.mk b.bf b.aS b.ax b.aY (H2 r s j)))),(by first | rfl | (rw [← aN]; done) | (rw [← aN]; rfl)),dV,W,(oM (iA m rfl))⟩
 refine jF (dF aO) (Fq (Ff (res0 rfl) ?_))
 have ai:a.aa.aj.ls.length=s2 (u5 a.aa.aj.ls (D2 d) (bL.mk b.bf b.aS b.ax b.aY (E4 j))):=by first | omega | (simp only [H3]; done) | (simp only [H3,p5,s3,G1,p3,p4,H4]; omega)
 have cO:Own w D bV [row g (s2 (u5 a.aa.aj.ls (D2 d) (bL.mk b.bf b.aS b.ax b.aY (E4 j)))) n (q6 ay.cells (u5 h (D2 d) (ay.mk b.bf b.aS b.ax b.aY (H2 r s j)))) 60 5,sepL (q6 ay.own (u5 h (D2 d) (ay.mk b.bf b.aS b.ax b.aY (H2 r s j)))),blk g0 [vP l 0, .slice u p0.bE.ls.length z] 98,row u p0.bE.ls.length z (q6 bA.cells t) 42 21,sepL (q6 bA.own t),blk l [vI a.aa.ak,vU a.aa.ax,vU a.aa.bi,vU a.aa.aI, .slice C a.aa.ag.ls.length E, .slice g (s2 (u5 a.aa.aj.ls (D2 d) (bL.mk b.bf b.aS b.ax b.aY (E4 j)))) n, .slice F a.aa.aF.ls.length G,vU a.bH, .slice I a.aA.ls.length J, .bool a.aQ.aR,vU a.aQ.aH,vI a.aQ.aZ, .slice K a.aQ.ae.ls.length L, .bool a.aO.aR,vU a.aO.aH,vI a.aO.aZ, .slice M a.aO.ae.ls.length N, .bool a.aL.aR,vU a.aL.aH,vI a.aL.aZ, .slice O a.aL.ae.ls.length P, .bool a.aN.aR,vU a.aN.aH,vI a.aN.aZ, .slice Q a.aN.ae.ls.length R, .bool a.aK.aR,vU a.aK.aH,vI a.aK.aZ, .slice S a.aK.ae.ls.length T,vU a.df,vU a.cu,vU a.cz,vU a.cB,vU a.cK, .pointer none] 86]:=by rw [← ai]; exact aM
 have cZ:=cO.pb [0,1]
 obtain⟨rfl,rfl⟩:=fT (hr.symm.trans (show _=(p0,aB.mk (dA.mk a.aa.ak a.aa.ax a.aa.bi a.aa.aI (E4 a.aa.ag.ls) (E4 (u5 a.aa.aj.ls (D2 d) (bL.mk b.bf b.aS b.ax b.aY (E4 j)))) (E4 a.aa.aF.ls)) a.bH (E4 a.aA.ls) a.aQ a.aO a.aL a.aN a.aK a.df a.cu a.cz a.cB a.cK) from et (ah aA) (et (ip ag) (et (ah (bI aK)) (et (ah aL) (et (ah (bI aX)) (iN aO)))))))
 exact⟨u,z,t,g,n,(u5 h (D2 d) (ay.mk b.bf b.aS b.ax b.aY (H2 r s j))),(by first | rfl | (rw [← ai]; done) | (rw [← ai]; rfl)),cZ,W,(iA m rfl)⟩
 have h39t:Bool.toNat ae=0:=by rw [ag]; rfl
 refine jT (cn ag) (rt (tR (Fin.res (res0 rfl) ?_)))
 have df:=X.px [] [0] []
 obtain⟨rfl,rfl⟩:=fT (hr.symm.trans (show _=(p0,a) from et (ah aA) (fU ag)))
 exact⟨u,z,t,g,n,h,rfl,df,W,m⟩
def gF:List fV→List Int→(List Int)
  | [],a=>a
  | b::c,a=>gF c (a++ [b.dU])
def kg (a:dH):(List Int):=
 bnd (gF a.aC.ls ([])) fun sLrL=>sLrL
theorem qy (w:World) (D:Nat→Prop) (L:Nat) (a:dH) (j:Option Addr) (l:Nat) (f:Option Addr) (g:Nat) (u:List bG) (n:Option Addr) (o:Nat) (p:Option Addr) (r:Nat) (B:List bM) (W:List Int) (H:Own w D w [blk L (AZ a j l f g n o p r) 107]) (Z:Ro w D fun w'=>bD w' 6 j a.bS.ls.length (q6 bC.cells a.bS.ls)) (aa:a.bS.ls.length≤l∧a.bS.ls.length≤9223372036854775807) (C:s8 bG.abs u=a.aC.ls) (t:Ro w D fun w'=>bD w' 3 f a.aC.ls.length (q6 bG.cells u)) (ae:a.aC.ls.length≤g∧a.aC.ls.length≤9223372036854775807) (E:∀ x ∈ u,Ro w D (fun w'=>bD w' 6 x.aD.A x.aD.ls.length (q6 bC.cells x.aD.ls))∧(x.aD.ls.length≤x.aD.c∧x.aD.ls.length≤9223372036854775807)∧Ro w D (fun w'=>bD w' 1 x.aP.A x.aP.ls.length (q6 (eI .i64) x.aP.ls))∧(x.aP.ls.length≤x.aP.c∧x.aP.ls.length≤9223372036854775807)) (ag:Ro w D fun w'=>bD w' 1 n a.bF.ls.length (q6 eL a.bF.ls)) (ai:a.bF.ls.length≤o∧a.bF.ls.length≤9223372036854775807) (M:s8 bM.abs B=a.ae.ls) (aj:Ro w D fun w'=>bD w' 1 p a.ae.ls.length (q6 (FJ (β:=af)) B)) (ak:a.ae.ls.length≤r∧a.ae.ls.length≤9223372036854775807) (au:∀ x ∈ B,Ro w D (fun w'=>bD w' 3 x.A x.ls.length (q6 af.cells x.ls))∧(x.ls.length≤x.c∧x.ls.length≤9223372036854775807)∧(∀ O ∈ x.ls,Ro w D (fun w'=>bD w' 2 O.au.A O.au.ls.length (q6 aJ.cells O.au.ls))∧(O.au.ls.length≤O.au.c∧O.au.ls.length≤9223372036854775807))) (aS:a.aC.ls.length≤1000) (hr:kg a=W):
    Calls y4 107 #[vP L 0] w (dS fun v w'=> ∃ (B0:Option Addr) (b0:Nat),v= .slice B0 W.length b0∧Own w D w' [row B0 W.length b0 (q6 (eI .i64) W) 3 1,blk L (AZ a j l f g n o p r) 107]):=by
 have X:=az C
 have Y:=az M
 refine cb Tryz.func107 ?_
 refine sr (Ar rfl (An rfl (EP (sr (Mz rfl (Kz (vP L 0) (Kz (vP L 5) (Lz (.slice f a.aC.ls.length g) H 0 Tryz.isAgg103 (Kz (vJ a.aC.ls.length) (Mn rfl (bo ?_)))))))))))
 have av:Own w D w [row none 0 0 (q6 (eI .i64) ([])) 3 1,blk L (AZ a j l f g n o p r) 107]:=H.free (eZ 3 1)
 have ax:=av.pb [0]
 obtain⟨ay,F⟩:=rD fun(I:Option Addr) (J:Nat) (d:List Int) (b:Nat) (w':World)=>Own w D w' [blk L (AZ a j l f g n o p r) 107,row I d.length J (q6 (eI .i64) d) 3 1]∧b≤a.aC.ls.length∧d.length=b∧d.length≤b∧gF a.aC.ls ([])=gF (r6 b a.aC.ls) d
 refine C5 (fun i:(Option Addr) × Nat × (List Int) × Nat=> [(3, .slice i.1 i.2.2.1.length i.2.1),(11,vJ i.2.2.2),(10,vJ a.aC.ls.length),(9, .slice f a.aC.ls.length g),(2, .slice none 0 0)]) ay (fun i=>a.aC.ls.length - i.2.2.2) (none,0, [],0) ⟨rfl,rfl,rfl,rfl,rfl,trivial⟩ (F.2 ⟨ax,(show 0≤a.aC.ls.length∧0=0∧0≤0∧gF a.aC.ls ([])=gF (r6 0 a.aC.ls) ([]) from ⟨e6,e6,e6,rfl⟩)⟩) ?_
 rintro ⟨I,J,d,b⟩ aT P
 obtain⟨G,aM,aN,aO,K⟩:=F.1 P
 refine sr (Kz (.bool (decide (((b:Nat):Int) < ((a.aC.ls.length:Nat):Int)))) (nt (EP ?_)))
 by_cases Q:((b:Nat):Int) < ((a.aC.ls.length:Nat):Int)
 obtain⟨h,z⟩:=dG (ls:=u) (i:=b) bG.len f3 (G.ro t) e9
 have R:=eP C z
 have aP:=(E _ (E0 z)).2.1
 have aQ:=(E _ (E0 z)).2.2.2
 have S:=drop_at R
 refine jT (dT Q) (sk (EP (bo (sr (fw (.pointer (some ⟨ab f,ao f+b *3,none⟩)) (ET (sI) rfl rfl ((G.ro t).addr (i:=b) e6) e6) (fw (.agg (bG.cells h).toArray) (EY rfl (Fb (cs:=(bG.cells h)) Tryz.isAgg172 Tryz.sizeOf172 ((G.ro t).elem bG.len z f3))) ?_))))))
 refine dK [vI 0, .slice none 0 0, .slice none 0 0] 172 G ?_
 intro aA aU aB
 refine dN (bG.cells h) 0 aB Tryz.sizeOf172 ?_
 intro aV T
 refine nt (EO (Mz rfl (Kz (vP aA 0) (Lz (vI h.dU) T 0 C6 ?_))))
 refine kG [vI h.dU] 3 1 1 T ?_
 intro aC aW N
 replace N:=Fx (y:=row aC 1 1 (q6 (eI .i64) ([h.dU])) 3 1) rfl N
 have U:=N.pf [3]
 refine WL.do rfl (Fy (k:=d.length) (m:=1) (mQ) U rfl rfl (iM Tryz.underlying58 (U.rds (i:=1) rfl) (fu uK ([h.dU]))) rfl e6 (s:=s2 (d++ [h.dU])) f7 (List.flatMap_append).symm ?_)
 intro aD aF aX aG
 have aR:s2 (d++ [h.dU])=d.length+1:=by simp only [p5,s3,G1]
 refine Az rfl (D0 (bN (ER (EO (fw (vJ (b+1)) (EQ (e:=C7.wrap (((b:Nat):Int)+1)) yk f1) (Mz rfl (D0 ?_)))))))
 have aH:=aG.pk [3,0]
 exact E8 (aD,aF,(d++ [h.dU]),b+1) ⟨rfl,rfl,rfl,rfl,rfl,trivial⟩ (F.2 ⟨aH,e6,e6,e6,et (K) (et (congrArg (fun q=>gF q d) S) rfl)⟩) (by show a.aC.ls.length - (b+1) < a.aC.ls.length - b; omega)
 refine jF (dF Q) (D1 (EX ?_))
 have V:gF a.aC.ls ([])=d:=et (K) (et (congrArg (fun q=>gF q d) (eD (ls:=a.aC.ls) (i:=b) e6)) rfl)
 refine EX (Fg (ER (sr (Mz rfl (An rfl (rt (rs ?_)))))))
 have aI:=G.pb [0]
 obtain rfl:_=d:=hr.symm.trans (ah V)
 exact⟨I,J,rfl,aI⟩
theorem zx:∀ (l:List fV) (o:List Int),s2 (gF l o)=o.length+l.length
  | [],o=>rfl
  | x::q,o=>by
    simp only [gF]
    rw [zx q]
    simp only [p5,s3,G1]; omega
theorem xu {x:dH} {r:List Int} (h:kg x=r):r.length=x.aC.ls.length:=by
 rw [← h]; exact(zx x.aC.ls []).trans (Nat.zero_add _)
def gz (g:bO) (f:Int) (a:aB):bO × aB:=
 bnd (C2 a.aA.ls (D2 f) default) fun c=>bnd (dX g c.aW c.aH 2 ([]) (aB.mk a.aa a.bH (E4 (r5 (D2 f) a.aA.ls++r6 ((D2 f)+1) a.aA.ls)) a.aQ a.aO a.aL a.aN a.aK a.df a.cu a.cz a.cB a.cK)) fun b=>bnd (kg (dH.mk c.bq c.aW c.aH c.dw (E4 c.bS.ls) (E4 c.aC.ls) (E4 c.bF.ls) (E4 c.ae.ls) c.dZ)) fun d=>bnd (fq b.1 c.bq d false) fun e=>(e,aB.mk (dA.mk b.2.aa.ak b.2.aa.ax b.2.aa.bi b.2.aa.aI (E4 a.aa.ag.ls) (E4 a.aa.aj.ls) (E4 a.aa.aF.ls)) b.2.bH (E4 (r5 (D2 f) a.aA.ls++r6 ((D2 f)+1) a.aA.ls)) b.2.aQ b.2.aO b.2.aL b.2.aN b.2.aK b.2.df b.2.cu b.2.cz b.2.cB b.2.cK)
set_option maxHeartbeats 4000000 in
theorem mI (w:World) (D:Nat→Prop) (g0:Nat) (p0:bO) (ak:Option Addr) (au:Nat) (ai:List bA) (m:Int) (g:Nat) (a:aB) (z:Option Addr) (B:Nat) (C:Option Addr) (E:Nat) (F:Option Addr) (G:Nat) (k:Option Addr) (p:Nat) (d:List bB) (I:Option Addr) (J:Nat) (r:List af) (K:Option Addr) (L:Nat) (s:List af) (M:Option Addr) (N:Nat) (t:List af) (O:Option Addr) (P:Nat) (u:List af) (Q:Option Addr) (R:Nat) (x:List af) (r0:bO) (f:aB) (H:Own w D w [blk g0 [.pointer (some ⟨g,0,none⟩), .slice ak p0.bE.ls.length au] 98,row ak p0.bE.ls.length au (q6 bA.cells ai) 42 21,sepL (q6 bA.own ai),blk g [.int .i64 a.aa.ak, .int .u64 ((a.aa.ax:Nat):Int), .int .u64 ((a.aa.bi:Nat):Int), .int .u64 ((a.aa.aI:Nat):Int), .slice z a.aa.ag.ls.length B, .slice C a.aa.aj.ls.length E, .slice F a.aa.aF.ls.length G, .int .u64 ((a.bH:Nat):Int), .slice k a.aA.ls.length p, .bool a.aQ.aR, .int .u64 ((a.aQ.aH:Nat):Int), .int .i64 a.aQ.aZ, .slice I a.aQ.ae.ls.length J, .bool a.aO.aR, .int .u64 ((a.aO.aH:Nat):Int), .int .i64 a.aO.aZ, .slice K a.aO.ae.ls.length L, .bool a.aL.aR, .int .u64 ((a.aL.aH:Nat):Int), .int .i64 a.aL.aZ, .slice M a.aL.ae.ls.length N, .bool a.aN.aR, .int .u64 ((a.aN.aH:Nat):Int), .int .i64 a.aN.aZ, .slice O a.aN.ae.ls.length P, .bool a.aK.aR, .int .u64 ((a.aK.aH:Nat):Int), .int .i64 a.aK.aZ, .slice Q a.aK.ae.ls.length R, .int .u64 ((a.df:Nat):Int), .int .u64 ((a.cu:Nat):Int), .int .u64 ((a.cz:Nat):Int), .int .u64 ((a.cB:Nat):Int), .int .u64 ((a.cK:Nat):Int), .pointer none] 86,row k a.aA.ls.length p (q6 bB.cells d) 107 9,sepL (q6 bB.own d),row I a.aQ.ae.ls.length J (q6 af.cells r) 149 3,sepL (q6 af.own r),row K a.aO.ae.ls.length L (q6 af.cells s) 149 3,sepL (q6 af.own s),row M a.aL.ae.ls.length N (q6 af.cells t) 149 3,sepL (q6 af.own t),row O a.aN.ae.ls.length P (q6 af.cells u) 149 3,sepL (q6 af.own u),row Q a.aK.ae.ls.length R (q6 af.cells x) 149 3,sepL (q6 af.own x)]) (ax:s8 bA.abs ai=p0.bE.ls) (h:s8 bB.abs d=a.aA.ls) (S:s8 af.abs r=a.aQ.ae.ls) (T:s8 af.abs s=a.aO.ae.ls) (U:s8 af.abs t=a.aL.ae.ls) (V:s8 af.abs u=a.aN.ae.ls) (W:s8 af.abs x=a.aK.ae.ls) (iw:a.aa.ag.ls.length≤1000∧a.aa.aj.ls.length≤1000∧a.aa.aF.ls.length≤1000∧a.aA.ls.length≤1000∧p0.bE.ls.length≤100000) (iy:Ak a.aA.ls) (iA:0≤m∧m < ((a.aA.ls.length:Nat):Int)) (hr:gz p0 m a=(r0,f)):
    Calls y4 63 #[vP g0 0,vI m] w (dS fun v w'=> ∃ (B0ox0:Option Addr) (b0ox0:Nat) (e0ox0:List bA) (B1ox3:Option Addr) (b1ox3:Nat) (e1ox3:List bB) (B1ox4:Option Addr) (b1ox4:Nat) (e1ox4:List af) (B1ox5:Option Addr) (b1ox5:Nat) (e1ox5:List af) (B1ox6:Option Addr) (b1ox6:Nat) (e1ox6:List af) (B1ox7:Option Addr) (b1ox7:Nat) (e1ox7:List af) (B1ox8:Option Addr) (b1ox8:Nat) (e1ox8:List af),v= .tuple #[]∧Own w D w' [blk g0 [vP g 0, .slice B0ox0 r0.bE.ls.length b0ox0] 98,row B0ox0 r0.bE.ls.length b0ox0 (q6 bA.cells e0ox0) 42 21,sepL (q6 bA.own e0ox0),blk g [vI f.aa.ak,vU f.aa.ax,vU f.aa.bi,vU f.aa.aI, .slice z a.aa.ag.ls.length B, .slice C a.aa.aj.ls.length E, .slice F a.aa.aF.ls.length G,vU f.bH, .slice B1ox3 f.aA.ls.length b1ox3, .bool f.aQ.aR,vU f.aQ.aH,vI f.aQ.aZ, .slice B1ox4 f.aQ.ae.ls.length b1ox4, .bool f.aO.aR,vU f.aO.aH,vI f.aO.aZ, .slice B1ox5 f.aO.ae.ls.length b1ox5, .bool f.aL.aR,vU f.aL.aH,vI f.aL.aZ, .slice B1ox6 f.aL.ae.ls.length b1ox6, .bool f.aN.aR,vU f.aN.aH,vI f.aN.aZ, .slice B1ox7 f.aN.ae.ls.length b1ox7, .bool f.aK.aR,vU f.aK.aH,vI f.aK.aZ, .slice B1ox8 f.aK.ae.ls.length b1ox8,vU f.df,vU f.cu,vU f.cz,vU f.cB,vU f.cK, .pointer none] 86,row B1ox3 f.aA.ls.length b1ox3 (q6 bB.cells e1ox3) 107 9,sepL (q6 bB.own e1ox3),row B1ox4 f.aQ.ae.ls.length b1ox4 (q6 af.cells e1ox4) 149 3,sepL (q6 af.own e1ox4),row B1ox5 f.aO.ae.ls.length b1ox5 (q6 af.cells e1ox5) 149 3,sepL (q6 af.own e1ox5),row B1ox6 f.aL.ae.ls.length b1ox6 (q6 af.cells e1ox6) 149 3,sepL (q6 af.own e1ox6),row B1ox7 f.aN.ae.ls.length b1ox7 (q6 af.cells e1ox7) 149 3,sepL (q6 af.own e1ox7),row B1ox8 f.aK.ae.ls.length b1ox8 (q6 af.cells e1ox8) 149 3,sepL (q6 af.own e1ox8)]∧(s8 bA.abs e0ox0=r0.bE.ls)∧(s8 bB.abs e1ox3=f.aA.ls)∧(s8 af.abs e1ox4=f.aQ.ae.ls)∧(s8 af.abs e1ox5=f.aO.ae.ls)∧(s8 af.abs e1ox6=f.aL.ae.ls)∧(s8 af.abs e1ox7=f.aN.ae.ls)∧(s8 af.abs e1ox8=f.aK.ae.ls)):=by
 have dU:=az ax
 have bH:=az h
 have bJ:=az S
 have bK:=az T
 have bL:=az U
 have bN:=az V
 have bP:=az W
 have dV:=H.rowC (i:=1) rfl
 have bQ:=H.rowC (i:=4) rfl
 have bR:=H.rowC (i:=6) rfl
 have bS:=H.rowC (i:=8) rfl
 have bT:=H.rowC (i:=10) rfl
 have bU:=H.rowC (i:=12) rfl
 have bV:=H.rowC (i:=14) rfl
 refine cb Tryz.func63 ?_
 refine sr (Mz rfl (Kz (vP g0 0) (Kz (vP g0 0) (Lz (vP g 0) H 0 N7 (Kz (vP g 0) (Kz (vP g 8) (Lz (.slice k a.aA.ls.length p) H 3 O5 (fw (vJ (D2 m)) (EQ (e:=m) (E5 rfl) e6) ?_))))))))
 obtain⟨b,y⟩:=dG (ls:=d) (i:=D2 m) bB.len f3 (H.rds (i:=4) rfl) e9
 have aQ:=eP h y
 have gu:b.bS.ls.length≤b.bS.c∧b.bS.ls.length≤9223372036854775807:=bz H (i:=5) rfl (φ:=fun _=>_) (av (O7.2 ⟨b,E0 y,b1⟩) bn)
 have gy:b.aC.ls.length≤b.aC.c∧b.aC.ls.length≤9223372036854775807:=bz H (i:=5) rfl (φ:=fun _=>_) (av (O7.2 ⟨b,E0 y, .tail _ b1⟩) bn)
 have gB:b.bF.ls.length≤b.bF.c∧b.bF.ls.length≤9223372036854775807:=bz H (i:=5) rfl (φ:=fun _=>_) (av (O7.2 ⟨b,E0 y, .tail _ b2⟩) bn)
 have gD:b.ae.ls.length≤b.ae.c∧b.ae.ls.length≤9223372036854775807:=bz H (i:=5) rfl (φ:=fun _=>_) (av (O7.2 ⟨b,E0 y, .tail _ b3⟩) bn)
 have X:Tok (bB.abs b):=xm f9 aQ
 have gF:1≤b.aW∧b.aW≤4:=X.zL
 have gG:b.bF.ls.length=b.aC.ls.length:=by have q9:=X.yes; simp only [bB.abs,s6] at q9; exact q9
 have gH:b.ae.ls.length=b.aC.ls.length:=by have q9:=X.res; simp only [bB.abs,s6] at q9; exact q9
 have gI:b.aC.ls.length≤5:=by have q9:=X.len; simp only [bB.abs,s6] at q9; exact q9
 have gJ:b.bS.ls.length≤24:=X.ops.1
 refine fw (.pointer (some ⟨ab k,ao k+(D2 m) *9,none⟩)) (ET (oQ) rfl rfl ((H.rds (i:=4) rfl).addr (i:=D2 m) e6) e6) (fw (.agg (bB.cells b).toArray) (EY rfl (Fb (cs:=(bB.cells b)) O3 O4 ((H.rds (i:=4) rfl).elem bB.len y f3))) ?_)
 refine dK (qC 0 0 0 0 none 0 0 none 0 0 none 0 0 none 0 0 0) 107 H ?_
 intro aM iB dW
 refine dN (bB.cells b) 0 dW O4 ?_
 intro iC dY
 refine nt (EP ?_)
 have dZ:=dY.pf [1,4]
 refine o5 [17] (E9 Fp) dZ ?_
 intro iD d9
 refine qv 0 rfl rfl (qp g0 0 1 rfl (qp g0 0 2 rfl (ql 3 rfl 0 N7 rfl rfl rfl (qv 4 rfl rfl (qp g0 0 5 rfl (qp g0 0 6 rfl (ql 7 rfl 0 N7 rfl rfl rfl (qp g 0 8 rfl (qp g 8 9 rfl (ql 10 rfl 1 O5 rfl rfl rfl (qv 11 rfl rfl (qv 12 rfl rfl (qt (v:=vI (m+1)) 13 rfl (fun _ _=>EQ (e:=C7.wrap (m+1)) yk g2) ?_)))))))))))))
 have ed:=d9.pf [5,6]
 obtain⟨iE,bW,gK,bX,gL⟩:=Fv ed
 refine qd 14 rfl (Fe Tryz.call105 rfl (uD _ _ k a.aA.ls.length p d a.aA.ls m (m+1) (D2 m) b bW e6 h e6 e6 e6 y) ?_)
 rintro _ iF ⟨aZ,bf,rfl,bY⟩
 have ay:=bX _ _ bY
 have gM:s2 (r5 (D2 m) d++r6 ((D2 m)+1) d)=s2 (r5 (D2 m) a.aA.ls++r6 ((D2 m)+1) a.aA.ls):=by exact az (oM h)
 have gN:s2 (r5 (D2 m) a.aA.ls++r6 ((D2 m)+1) a.aA.ls)+1=a.aA.ls.length:=by simp only [p5,p3,p4]; omega
 have gP:b.aC.ls.length=s2 (s8 bG.abs b.aC.ls):=by exact(s6 _).symm
 have gQ:b.ae.ls.length=s2 (s8 bM.abs b.ae.ls):=by exact(s6 _).symm
 have gT:=ay.rowC (i:=2) rfl
 have gU:=ay.rowC (i:=3) rfl
 have gV:=ay.rowC (i:=4) rfl
 have gW:=ay.rowC (i:=5) rfl
 have bZ:=ay.pf [8,9]
 refine⟨.inr ⟨_,bZ⟩, ?_⟩
 refine qp g 0 15 rfl (qp g 8 16 rfl ?_)
 have ek:=bZ.pf [1]
 refine qe 17 rfl (Do.store (vs:= [.slice aZ (s2 (r5 (D2 m) a.aA.ls++r6 ((D2 m)+1) a.aA.ls)) bf]) (o:=8) ek rfl rfl Tryz.sizeOf79 rfl rfl rfl rfl ?_)
 intro iG bg
 refine⟨.inl e7, ?_⟩
 refine qn (ER (sr (Mz rfl (Kz (vP aM 1) (Lz (vI b.aW) bg 10 C6 (Kz (vP aM 2) (Lz (vU b.aH) bg 10 E1 ?_)))))))
 have eu:=bg.px [1,11,12] [] [2,3,4,5,6,7,8,9,10]
 obtain⟨⟨aN,l⟩,aR⟩:∃ q:bO × aB,dX p0 b.aW b.aH 2 ([]) (aB.mk a.aa a.bH (E4 (r5 (D2 m) a.aA.ls++r6 ((D2 m)+1) a.aA.ls)) a.aQ a.aO a.aL a.aN a.aK a.df a.cu a.cz a.cB a.cK)=q:=⟨_,rfl⟩
 obtain⟨iH,cu,gX,cz,gY⟩:=FU eu
 refine cl Tryz.call106 (jM _ _ g0 p0 ak au ai b.aW b.aH 2 none 0 0 [] ([]) g (aB.mk a.aa a.bH (E4 (r5 (D2 m) a.aA.ls++r6 ((D2 m)+1) a.aA.ls)) a.aQ a.aO a.aL a.aN a.aK a.df a.cu a.cz a.cB a.cK) z B C E F G aZ bf I J r K L s M N t O P u Q R x aN l cu ax rfl (fun _ _=>bD.nil _ _ _) (fun _ h9=>absurd h9 List.not_mem_nil) rfl i8 g6 S T U V W e8 g3 g3 i2 aR) ?_
 rintro _ iI ⟨eB,eD,eF,eG,eH,eO,eQ,eT,cB,eU,eX,cK,eY,eZ,cO,fe,fo,cZ,rfl,df,aS,aC,aD,aF,aG,aH,aI⟩
 have Z:=cz _ _ df
 have fu:=az aS
 have fA:=az aC
 have fB:=az aD
 have fC:=az aF
 have fD:=az aG
 have fE:=az aH
 have fF:=Z.rowC (i:=1) rfl
 have fG:=Z.rowC (i:=4) rfl
 have fH:=Z.rowC (i:=6) rfl
 have fI:=Z.rowC (i:=8) rfl
 have fJ:=Z.rowC (i:=10) rfl
 have fK:=Z.rowC (i:=12) rfl
 replace aI:aN.bE.ls.length=p0.bE.ls.length+1:=aI
 refine nt ?_
 have aa:b.aC.ls.length=s2 (s8 bG.abs b.aC.ls):=by first | omega | (simp only [H3]; done) | (simp only [H3,p5,s3,G1,p3,p4,H4]; omega)
 have dh:=Z.pf [17]
 have di:=FL aa dh
 have dm:=di.pf [22]
 have dn:=FZ 5 aa dm
 have dw:=dn.pb [1,19,20,21,22,0]
 have ae:b.ae.ls.length=s2 (s8 bM.abs b.ae.ls):=by first | omega | (simp only [H3]; done) | (simp only [H3,p5,s3,G1,p3,p4,H4]; omega)
 have dx:=dw.pf [19]
 have dz:=FL ae dx
 have dB:=dz.pf [22]
 have dC:=FZ 7 ae dB
 have dD:=dC.pb [1,21,22,0]
 have dE:=dD.pf [0,3]
 refine o5 [4] Fp dE ?_
 intro gZ dF
 refine qv 0 rfl rfl (qp aM 0 1 rfl ?_)
 have aU:=dF.pf [0,1,22]
 refine Ab aU (ql 2 rfl 2 E1 rfl rfl rfl ?_)
 have n:=aU.pf [2]
 have fM:=n.rowC (i:=17) rfl
 have fO:=n.rowC (i:=18) rfl
 have fP:=n.rowC (i:=19) rfl
 have fQ:=n.rowC (i:=20) rfl
 obtain⟨Y,ag⟩:∃ q,kg (dH.mk b.bq b.aW b.aH b.dw (E4 b.bS.ls) (E4 (s8 bG.abs b.aC.ls)) (E4 b.bF.ls) (E4 (s8 bM.abs b.ae.ls)) b.dZ)=q:=⟨_,rfl⟩
 obtain⟨ib,bi,fU,bq,j⟩:=Fu n
 refine qd 3 rfl (Fe Tryz.call107 rfl (qy _ _ aM (dH.mk b.bq b.aW b.aH b.dw (E4 b.bS.ls) (E4 (s8 bG.abs b.aC.ls)) (E4 b.bF.ls) (E4 (s8 bM.abs b.ae.ls)) b.dZ) b.bS.A b.bS.c b.aC.A b.aC.c b.aC.ls b.bF.A b.bF.c b.ae.A b.ae.c b.ae.ls Y bi (j _ 16 _ rfl aT) (show b.bS.ls.length≤b.bS.c∧b.bS.ls.length≤9223372036854775807 from by omega) (rfl:s8 bG.abs b.aC.ls=s8 bG.abs b.aC.ls) (j _ 17 _ rfl aT) (show s2 (s8 bG.abs b.aC.ls)≤b.aC.c∧s2 (s8 bG.abs b.aC.ls)≤9223372036854775807 from by omega) (fun x9 h9=>⟨j _ 20 _ rfl (av (O7.2 ⟨x9,h9,b1⟩) aT),bz (φ:=fun _=>_) n (i:=21) rfl (av (O7.2 ⟨x9,h9,b1⟩) bn),j _ 20 _ rfl (av (O7.2 ⟨x9,h9, .tail _ b1⟩) aT),bz (φ:=fun _=>_) n (i:=21) rfl (av (O7.2 ⟨x9,h9, .tail _ b1⟩) bn)⟩) (j _ 18 _ rfl aT) (show b.bF.ls.length≤b.bF.c∧b.bF.ls.length≤9223372036854775807 from by omega) (rfl:s8 bM.abs b.ae.ls=s8 bM.abs b.ae.ls) (j _ 19 _ rfl aT) (show s2 (s8 bM.abs b.ae.ls)≤b.ae.c∧s2 (s8 bM.abs b.ae.ls)≤9223372036854775807 from by omega) (fun x9 h9=>⟨j _ 21 _ rfl (av (O7.2 ⟨x9,h9,b1⟩) aT),bz (φ:=fun _=>_) n (i:=22) rfl (av (O7.2 ⟨x9,h9,b1⟩) bn),(fun y1 k1=>⟨j _ 21 _ rfl (av (O7.2 ⟨x9,h9, .tail _ b1⟩) (av (O7.2 ⟨y1,k1,b1⟩) aT)),bz (φ:=fun _=>_) n (i:=22) rfl (av (O7.2 ⟨x9,h9, .tail _ b1⟩) (av (O7.2 ⟨y1,k1,b1⟩) bn))⟩)⟩) e8 ag) ?_)
 rintro _ ik ⟨dI,dJ,rfl,bu⟩
 have aV:=bq _ _ bu
 have fV:=aV.rowC (i:=0) rfl
 have fZ:Y.length≤5:=by have q9:=xu ag; simp only [s6] at q9; omega
 have aW:=aV.pf [2,3,1]
 refine⟨.inr ⟨_,aW⟩, ?_⟩
 have dL:=aW.pf [0,4,5]
 obtain⟨aX,aJ⟩:∃ q,fq aN b.bq Y false=q:=⟨_,rfl⟩
 obtain⟨il,bv,gm,bC,bE⟩:=FC dL
 refine qd 4 rfl (Fe O6 rfl (kz _ _ g0 aN eB eD eF g b.bq dI Y.length dJ Y false aX bv aS (bE _ 2 _ rfl aT) rfl e6 g7 aJ) ?_)
 rintro _ iq ⟨dM,dO,dP,rfl,bF,aK⟩
 have aY:=bC _ _ bF
 have gp:=az aK
 have gq:=aY.rowC (i:=1) rfl
 refine⟨.inl e7, ?_⟩
 refine qn (Ff (res0 rfl) ?_)
 have dQ:=aY.px [0,1,2,3,16,17] [4,5,18,19,20,21,22,23] []
 obtain⟨rfl,rfl⟩:=fT (hr.symm.trans (show _=(aX,aB.mk (dA.mk l.aa.ak l.aa.ax l.aa.bi l.aa.aI (E4 a.aa.ag.ls) (E4 a.aa.aj.ls) (E4 a.aa.aF.ls)) l.bH (E4 (r5 (D2 m) a.aA.ls++r6 ((D2 m)+1) a.aA.ls)) l.aQ l.aO l.aL l.aN l.aK l.df l.cu l.cz l.cB l.cK) from et (ah (bI aQ)) (et (ah aR) (et (ah ag) (ah aJ)))))
 exact⟨dM,dO,dP,aZ,bf,(r5 (D2 m) d++r6 ((D2 m)+1) d),eG,eH,eO,eQ,eT,cB,eU,eX,cK,eY,eZ,cO,fe,fo,cZ,(by(first | rw [← aa] | skip); (first | rw [← ae] | skip); first | done | rfl),dQ,aK,(oM h),aC,aD,aF,aG,aH⟩
end Go.Proofs.YtbkagebjhbphaaaGreat
