/-
 coord: asked, acknowledged, given up.
-/
import Derived.Test.YtbkagebjhbphaaaGreatCc
namespace Go.Proofs.YtbkagebjhbphaaaGreat
set_option maxRecDepth 100000
open Go.RowKit
set_option linter.unusedVariables false
set_option linter.unusedSectionVars false
set_option linter.unusedSimpArgs false
def lF (a:Nat):Bool:=
 false
theorem qx (w:World) (D:Nat→Prop) (a:Nat) (c:Bool) (H:Own w D w []) (hr:lF a=c):
    Calls Tryz.prog 136 #[vU a] w (dW fun v w'=>v= .bool c∧Own w D w' []):=by
 refine cb Tryz.func136 ?_
 refine sr (Ar rfl (Mz rfl (Mz rfl (fw (.bool false) (Fq (e:= !(decide (((a:Nat):Int)=((a:Nat):Int)))) yk (by simp)) (An rfl (rt (rs ?_)))))))
 have b:=H.pk []
 obtain rfl:_=false:=hr.symm.trans rfl
 exact⟨rfl,b⟩
def ib (c:Nat) (d:Nat):Int:=
 bnd (lF c) fun b=>bnd (lF d) fun a=>if b=true then if a=true then 0 else(-1) else if a=true then 1 else if((c:Nat):Int) < ((d:Nat):Int) then(-1) else if((c:Nat):Int) > ((d:Nat):Int) then 1 else 0
theorem lN (w:World) (D:Nat→Prop) (i:Nat) (j:Nat) (C:Int) (H:Own w D w []) (hr:ib i j=C):
    Calls Tryz.prog 104 #[vU i,vU j] w (dW fun v w'=>v=vI C∧Own w D w' []):=by
 refine cb Tryz.func104 ?_
 refine sr (Ar rfl (Mz rfl ?_))
 obtain⟨l,a⟩:∃ q,lF i=q:=⟨_,rfl⟩
 obtain⟨J,m,E,n,F⟩:=EU H
 refine cl Tryz.call136 (qx _ _ i l m a) ?_
 rintro _ K ⟨rfl,o⟩
 have t:=n _ _ o
 refine Ar rfl (Mz rfl ?_)
 obtain⟨k,b⟩:∃ q,lF j=q:=⟨_,rfl⟩
 obtain⟨L,p,G,r,I⟩:=EU t
 refine cl Tryz.call136 (qx _ _ j k p b) ?_
 rintro _ M ⟨rfl,s⟩
 have e:=r _ _ s
 refine An rfl (EP (sr (Mn rfl ?_)))
 rcases IW (l) with c | c
 refine jT c (EP (sr (Mn rfl ?_)))
 rcases IW (k) with f | f
 refine jT f (sr (An rfl (rt (tR (tR (rs ?_))))))
 have u:=e.pk []
 obtain rfl:_=0:=hr.symm.trans (et (ai a) (et (ai b) (et (ip c) (ip f))))
 exact⟨rfl,u⟩
 refine jF f (sk (sr (An rfl (rt (tR (rs ?_))))))
 have x:=e.pk []
 obtain rfl:_=(-1):=hr.symm.trans (et (ai a) (et (ai b) (et (ip c) (fU f))))
 exact⟨rfl,x⟩
 refine jF c (sk (EP (sr (Mn rfl ?_))))
 rcases IW (k) with d | d
 refine jT d (sr (An rfl (rt (tR (rs ?_)))))
 have y:=e.pk []
 obtain rfl:_=1:=hr.symm.trans (et (ai a) (et (ai b) (et (fU c) (ip d))))
 exact⟨rfl,y⟩
 refine jF d (sk (EP (sr (Mz rfl (Mz rfl (Kz (.bool (decide (((i:Nat):Int) < ((j:Nat):Int)))) (nt ?_)))))))
 by_cases g:((i:Nat):Int) < ((j:Nat):Int)
 refine jT (dT g) (sr (An rfl (rt (tR (rs ?_)))))
 have z:=e.pk []
 obtain rfl:_=(-1):=hr.symm.trans (et (ai a) (et (ai b) (et (fU c) (et (fU d) (ip g)))))
 exact⟨rfl,z⟩
 refine jF (dF g) (sk (EP (sr (Mz rfl (Mz rfl (Kz (.bool (decide (((i:Nat):Int) > ((j:Nat):Int)))) (nt ?_)))))))
 by_cases h:((i:Nat):Int) > ((j:Nat):Int)
 refine jT (dT h) (sr (An rfl (rt (tR (rs ?_)))))
 have A:=e.pk []
 obtain rfl:_=1:=hr.symm.trans (et (ai a) (et (ai b) (et (fU c) (et (fU d) (et (iN g) (ip h))))))
 exact⟨rfl,A⟩
 refine jF (dF h) (sk (sr (An rfl (rt (rs ?_)))))
 have B:=e.pk []
 obtain rfl:_=0:=hr.symm.trans (et (ai a) (et (ai b) (et (fU c) (et (fU d) (et (iN g) (iN h))))))
 exact⟨rfl,B⟩
def dJ (l0:List bL) (f:Nat):Nat→Nat→Nat→Nat
  | 0,a,b=>default
  | c+1,a,b=>if((a:Nat):Int) < ((b:Nat):Int) then bnd (List.getD l0 ((a+b) / 2) default) fun d=>bnd (ib d.bf f) fun e=>if e < 0 then dJ l0 f c (((a+b) / 2)+1) b else dJ l0 f c a ((a+b) / 2) else a
def bX (l0:List bL) (c:Nat):Int × Bool:=
 bnd (dJ l0 c ((l0.length - 0)+1) 0 l0.length) fun sLrL=>if((sLrL:Nat):Int) < ((l0.length:Nat):Int) then bnd (List.getD l0 sLrL default) fun a=>bnd (ib a.bf c) fun b=>(((sLrL:Nat):Int),decide (b=0)) else(((sLrL:Nat):Int),false)
theorem gV (w:World) (D:Nat→Prop) (y:Option Addr) (Z Y:Nat) (J:List az) (l0:List bL) (n:Nat) (K:Int) (r1:Bool) (H:Own w D w []) (G:List.map az.abs J=l0) (h:Ro w D fun w'=>bD w' 5 y Z (List.flatMap az.cells J)) (L:∀ x ∈ J,Ro w D (fun w'=>bD w' 1 x.au.A x.au.ls.length (List.flatMap (eI .i64) x.au.ls))∧(x.au.ls.length≤x.au.c∧x.au.ls.length≤9223372036854775807)) (ae:Z=l0.length) (aM:l0.length *56≤211106232532992) (hr:bX l0 n=(K,r1)):
    Calls Tryz.prog 132 #[.slice y Z Y,vU n, .func (.func 133) #[] #[]] w (dW fun v w'=>v= .tuple #[vI K, .bool r1]∧Own w D w' []∧(0≤K∧K≤((l0.length:Nat):Int))∧(Bool.toNat r1=0∨K < ((l0.length:Nat):Int))):=by
 subst ae
 have aB:=aA G
 refine cb Tryz.func132 ?_
 refine sr (Az rfl (Ar rfl (Mz rfl (Kz (vJ l0.length) (Ar rfl (Mz rfl (Az rfl (An rfl (EP (bo ?_))))))))))
 have af:=H.pk []
 obtain⟨ag,g⟩:=qo fun(a:Nat) (b:Nat) (o:Nat) (w':World)=>Own w D w' []∧a≤b∧b≤l0.length∧b - a < o∧dJ l0 n ((l0.length - 0)+1) 0 l0.length=dJ l0 n o a b
 refine Wp.loop (fun i:Nat × Nat × Nat=> [(9,vJ i.1),(10,vJ i.2.1),(8,vJ l0.length),(7, .bool false),(6,vI 0),(0, .slice y l0.length Y),(1,vU n),(2, .func (.func 133) #[] #[])]) ag (fun i=>i.2.2) (0,l0.length,(l0.length - 0)+1) ⟨rfl,rfl,rfl,rfl,rfl,rfl,rfl,rfl,trivial⟩ (g.2 ⟨af,by omega,by omega,by omega,rfl⟩) ?_
 rintro ⟨a,b,o⟩ aN M
 show Wp _ _ _ [(9,vJ a),(10,vJ b),(8,vJ l0.length),(7, .bool false),(6,vI 0),(0, .slice y l0.length Y),(1,vU n),(2, .func (.func 133) #[] #[])] _ _
 obtain⟨f,aC,aD,aF,p⟩:=g.1 M
 obtain⟨j,N⟩:∃ q,o=q+1:=⟨o - 1,by omega⟩
 subst N
 refine EP (sr (Mz rfl (Mz rfl (Kz (.bool (decide (((a:Nat):Int) < ((b:Nat):Int)))) (nt ?_)))))
 by_cases r:((a:Nat):Int) < ((b:Nat):Int)
 refine jT (dT r) (sk (bo (sr (Mz rfl (Mz rfl (fw (vJ (a+b)) (EQ (e:=IntKind.i64.wrap (((a:Nat):Int)+((b:Nat):Int))) yk (by rw [IR _ (by omega)]; omega)) (fw (vU (a+b)) (EQ (e:=IntKind.u64.wrap ((a+b:Nat):Int)) yk (IntWalk.u64_in _ (by omega))) (fw (vU ((a+b) / 2)) (EQ (e:=Int.fdiv ((a+b:Nat):Int) 2) yk (mM _ 1 _ (by decide))) (fw (vJ ((a+b) / 2)) (EQ (e:=IntKind.i64.wrap (((a+b) / 2:Nat):Int)) yk (IR _ (by omega))) (Ar rfl (Mz rfl (Mz rfl (Mz rfl ?_)))))))))))))
 obtain⟨l,s⟩:=dK (ls:=J) (i:=(a+b) / 2) az.len (by decide) (f.ro h) (by first | omega | (simp; done) | (simp; omega))
 have C:=eQ G s
 have aG:=(L _ (List.mem_of_getElem? s)).2
 refine fw (.pointer (some ⟨ab y,ao y+((a+b) / 2) *5,none⟩)) (ET (kv) rfl rfl ((f.ro h).addr (i:=(a+b) / 2) (by omega)) (by omega)) (fw (.agg (az.cells l).toArray) (EY rfl (Fb (cs:=(az.cells l)) Tryz.isAgg60 Tryz.sizeOf60 ((f.ro h).elem az.len s (by decide)))) (Mz rfl ?_))
 refine WL.do rfl (Fw Tryz.call133 rfl rfl ?_ (fun _ _ k=>k))
 refine cb Tryz.func133 ?_
 refine sr ?_
 refine dP (az.cells l) 60 f ?_
 intro ah aO O
 refine Ar rfl (Kz (vP ah 0) (Lz (vU l.bf) O 0 Tryz.isAgg28 (Mz rfl ?_)))
 obtain⟨I,t⟩:∃ q,ib l.bf n=q:=⟨_,rfl⟩
 obtain⟨aP,P,aH,Q,aI⟩:=EU O
 refine cl Tryz.call104 (lN _ _ l.bf n I P t) ?_
 rintro _ aQ ⟨rfl,R⟩
 have S:=Q _ _ R
 refine An rfl (rt (rs (Kz (.bool (decide (I < 0))) (nt ?_))))
 by_cases z:I < 0
 refine jT (dT z) (EO (Mz rfl (fw (vI ((((a+b) / 2)+1:Nat):Int)) (EQ (e:=IntKind.i64.wrap ((((a+b) / 2:Nat):Int)+1)) yk (by rw [IR _ (by omega)]; omega)) (Az rfl (WL.nil (bN ?_))))))
 have aj:=S.pk []
 exact E8 (((a+b) / 2)+1,b,j) ⟨rfl,rfl,rfl,rfl,rfl,rfl,rfl,rfl,trivial⟩ (g.2 ⟨aj,by omega,by omega,by omega,et (p) (et (ip r) (et (ai (bI C)) (et (ai t) (ip z))))⟩) (by show j < j+1; omega)
 refine jF (dF z) (EO (Mz rfl (Az rfl (WL.nil (bN ?_)))))
 have ak:=S.pk []
 exact E8 (a,(a+b) / 2,j) ⟨rfl,rfl,rfl,rfl,rfl,rfl,rfl,rfl,trivial⟩ (g.2 ⟨ak,by omega,by omega,by omega,et (p) (et (ip r) (et (ai (bI C)) (et (ai t) (iN z))))⟩) (by show j < j+1; omega)
 refine jF (dF r) (Wp.exit (EX ?_))
 have E:dJ l0 n ((l0.length - 0)+1) 0 l0.length=a:=et (p) (iN r)
 refine EX (Fg (ER (sr (Mz rfl (Mz rfl (Mz rfl (Kz (.bool (decide (((a:Nat):Int) < ((l0.length:Nat):Int)))) (Mz rfl ?_))))))))
 by_cases d:((a:Nat):Int) < ((l0.length:Nat):Int)
 refine gw (.func (.func 133) #[] #[]) (dT d) (E5 rfl) (gw (.slice y l0.length Y) (dT d) (E5 rfl) (gw (vJ a) (dT d) (E5 rfl) ?_))
 obtain⟨m,u⟩:=dK (ls:=J) (i:=a) az.len (by decide) (f.ro h) (by first | omega | (simp; done) | (simp; omega))
 have T:=eQ G u
 have aJ:=(L _ (List.mem_of_getElem? u)).2
 refine gw (.pointer (some ⟨ab y,ao y+a *5,none⟩)) (dT d) (ET (kv) rfl rfl ((f.ro h).addr (i:=a) (by omega)) (by omega)) (gw (.agg (az.cells m).toArray) (dT d) (EY rfl (Fb (cs:=(az.cells m)) Tryz.isAgg60 Tryz.sizeOf60 ((f.ro h).elem az.len u (by decide)))) (gw (vU n) (dT d) (E5 rfl) ?_))
 refine F7 rfl rfl (dT d) rfl (Fw Tryz.call133 rfl rfl ?_ (fun _ _ k=>k))
 refine cb Tryz.func133 ?_
 refine sr ?_
 refine dP (az.cells m) 60 f ?_
 intro au aR U
 refine Ar rfl (Kz (vP au 0) (Lz (vU m.bf) U 0 Tryz.isAgg28 (Mz rfl ?_)))
 obtain⟨B,F⟩:∃ q,ib m.bf n=q:=⟨_,rfl⟩
 obtain⟨aS,V,aK,W,aL⟩:=EU U
 refine cl Tryz.call104 (lN _ _ m.bf n B V F) ?_
 rintro _ aT ⟨rfl,X⟩
 have av:=W _ _ X
 refine An rfl (rt (rs (Gz (.bool (decide (B=0))) (dT d) (fw (.bool (decide (B=0))) (Fa rfl (dT d) rfl) (Az rfl (An rfl (rt (Fin.res (lS rfl rfl rfl) ?_))))))))
 have ax:=av.pk []
 obtain⟨rfl,rfl⟩:=fT (hr.symm.trans (show _=(((a:Nat):Int),decide (B=0)) from et (ai E) (et (ip d) (et (ai (bI T)) (ai F)))))
 exact⟨rfl,ax,(by omega),(by first | omega | exact .inl rfl)⟩
 refine Sz (dF d) (Sz (dF d) (Sz (dF d) (Sz (dF d) (Sz (dF d) (Sz (dF d) (Sz (dF d) (Sz (dF d) (fw (.bool false) (ES rfl (dF d) rfl) (Az rfl (An rfl (rt (Fin.res (lS rfl rfl rfl) ?_))))))))))))
 have ay:=f.pk []
 obtain⟨rfl,rfl⟩:=fT (hr.symm.trans (show _=(((a:Nat):Int),false) from et (ai E) (iN d)))
 exact⟨rfl,ay,(by omega),(by first | omega | exact .inl rfl)⟩
def eG (l0:List dM) (f:Nat):Nat→Nat→Nat→Nat
  | 0,a,b=>default
  | c+1,a,b=>if((a:Nat):Int) < ((b:Nat):Int) then bnd (List.getD l0 ((a+b) / 2) default) fun d=>bnd (ib d.bq f) fun e=>if e < 0 then eG l0 f c (((a+b) / 2)+1) b else eG l0 f c a ((a+b) / 2) else a
def dB (l0:List dM) (c:Nat):Int × Bool:=
 bnd (eG l0 c ((l0.length - 0)+1) 0 l0.length) fun sLrL=>if((sLrL:Nat):Int) < ((l0.length:Nat):Int) then bnd (List.getD l0 sLrL default) fun a=>bnd (ib a.bq c) fun b=>(((sLrL:Nat):Int),decide (b=0)) else(((sLrL:Nat):Int),false)
theorem iH (w:World) (D:Nat→Prop) (B:Option Addr) (n0 c0:Nat) (M:List bB) (l0:List dM) (s:Nat) (N:Int) (r1:Bool) (H:Own w D w []) (J:List.map bB.abs M=l0) (p:Ro w D fun w'=>bD w' 9 B n0 (List.flatMap bB.cells M)) (n:∀ x ∈ M,Ro w D (fun w'=>bD w' 6 x.bU.A x.bU.ls.length (List.flatMap bC.cells x.bU.ls))∧(x.bU.ls.length≤x.bU.c∧x.bU.ls.length≤9223372036854775807)∧Ro w D (fun w'=>bD w' 3 x.aF.A x.aF.ls.length (List.flatMap bG.cells x.aF.ls))∧(x.aF.ls.length≤x.aF.c∧x.aF.ls.length≤9223372036854775807)∧(∀ h ∈ x.aF.ls,Ro w D (fun w'=>bD w' 6 h.aD.A h.aD.ls.length (List.flatMap bC.cells h.aD.ls))∧(h.aD.ls.length≤h.aD.c∧h.aD.ls.length≤9223372036854775807)∧Ro w D (fun w'=>bD w' 1 h.aJ.A h.aJ.ls.length (List.flatMap (eI .i64) h.aJ.ls))∧(h.aJ.ls.length≤h.aJ.c∧h.aJ.ls.length≤9223372036854775807))∧Ro w D (fun w'=>bD w' 1 x.bF.A x.bF.ls.length (List.flatMap eL x.bF.ls))∧(x.bF.ls.length≤x.bF.c∧x.bF.ls.length≤9223372036854775807)∧Ro w D (fun w'=>bD w' 1 x.ae.A x.ae.ls.length (List.flatMap (FJ (β:=af)) x.ae.ls))∧(x.ae.ls.length≤x.ae.c∧x.ae.ls.length≤9223372036854775807)∧(∀ h ∈ x.ae.ls,Ro w D (fun w'=>bD w' 3 h.A h.ls.length (List.flatMap af.cells h.ls))∧(h.ls.length≤h.c∧h.ls.length≤9223372036854775807)∧(∀ L ∈ h.ls,Ro w D (fun w'=>bD w' 2 L.av.A L.av.ls.length (List.flatMap aL.cells L.av.ls))∧(L.av.ls.length≤L.av.c∧L.av.ls.length≤9223372036854775807)))) (ah:n0=l0.length) (aZ:l0.length *136≤211106232532992) (hr:dB l0 s=(N,r1)):
    Calls Tryz.prog 102 #[.slice B n0 c0,vU s, .func (.func 103) #[] #[]] w (dW fun v w'=>v= .tuple #[vI N, .bool r1]∧Own w D w' []∧(0≤N∧N≤((l0.length:Nat):Int))∧(Bool.toNat r1=0∨N < ((l0.length:Nat):Int))):=by
 subst ah
 have aD:=aA J
 refine cb Tryz.func102 ?_
 refine sr (Az rfl (Ar rfl (Mz rfl (Kz (vJ l0.length) (Ar rfl (Mz rfl (Az rfl (An rfl (EP (bo ?_))))))))))
 have aj:=H.pk []
 obtain⟨ak,o⟩:=qo fun(a:Nat) (b:Nat) (t:Nat) (w':World)=>Own w D w' []∧a≤b∧b≤l0.length∧b - a < t∧eG l0 s ((l0.length - 0)+1) 0 l0.length=eG l0 s t a b
 refine Wp.loop (fun i:Nat × Nat × Nat=> [(9,vJ i.1),(10,vJ i.2.1),(8,vJ l0.length),(7, .bool false),(6,vI 0),(0, .slice B l0.length c0),(1,vU s),(2, .func (.func 103) #[] #[])]) ak (fun i=>i.2.2) (0,l0.length,(l0.length - 0)+1) ⟨rfl,rfl,rfl,rfl,rfl,rfl,rfl,rfl,trivial⟩ (o.2 ⟨aj,by omega,by omega,by omega,rfl⟩) ?_
 rintro ⟨a,b,t⟩ bf O
 show Wp _ _ _ [(9,vJ a),(10,vJ b),(8,vJ l0.length),(7, .bool false),(6,vI 0),(0, .slice B l0.length c0),(1,vU s),(2, .func (.func 103) #[] #[])] _ _
 obtain⟨m,aF,aG,aH,u⟩:=o.1 O
 obtain⟨r,P⟩:∃ q,t=q+1:=⟨t - 1,by omega⟩
 subst P
 refine EP (sr (Mz rfl (Mz rfl (Kz (.bool (decide (((a:Nat):Int) < ((b:Nat):Int)))) (nt ?_)))))
 by_cases y:((a:Nat):Int) < ((b:Nat):Int)
 refine jT (dT y) (sk (bo (sr (Mz rfl (Mz rfl (fw (vJ (a+b)) (EQ (e:=IntKind.i64.wrap (((a:Nat):Int)+((b:Nat):Int))) yk (by rw [IR _ (by omega)]; omega)) (fw (vU (a+b)) (EQ (e:=IntKind.u64.wrap ((a+b:Nat):Int)) yk (IntWalk.u64_in _ (by omega))) (fw (vU ((a+b) / 2)) (EQ (e:=Int.fdiv ((a+b:Nat):Int) 2) yk (mM _ 1 _ (by decide))) (fw (vJ ((a+b) / 2)) (EQ (e:=IntKind.i64.wrap (((a+b) / 2:Nat):Int)) yk (IR _ (by omega))) (Ar rfl (Mz rfl (Mz rfl (Mz rfl ?_)))))))))))))
 obtain⟨f,j⟩:=dK (ls:=M) (i:=(a+b) / 2) bB.len (by decide) (m.ro p) (by first | omega | (simp; done) | (simp; omega))
 have F:=eQ J j
 have aI:=(n _ (List.mem_of_getElem? j)).2.1
 have aJ:=(n _ (List.mem_of_getElem? j)).2.2.2.1
 have aK:List.length (List.map bG.abs f.aF.ls)=f.aF.ls.length:=List.length_map ..
 have aM:=(n _ (List.mem_of_getElem? j)).2.2.2.2.2.2.1
 have aN:=(n _ (List.mem_of_getElem? j)).2.2.2.2.2.2.2.2.1
 have aO:List.length (List.map bM.abs f.ae.ls)=f.ae.ls.length:=List.length_map ..
 refine fw (.pointer (some ⟨ab B,ao B+((a+b) / 2) *9,none⟩)) (ET (oQ) rfl rfl ((m.ro p).addr (i:=(a+b) / 2) (by omega)) (by omega)) (fw (.agg (bB.cells f).toArray) (EY rfl (Fb (cs:=(bB.cells f)) Tryz.isAgg107 Tryz.sizeOf107 ((m.ro p).elem bB.len j (by decide)))) (Mz rfl ?_))
 refine WL.do rfl (Fw Tryz.call103 rfl rfl ?_ (fun _ _ k=>k))
 refine cb Tryz.func103 ?_
 refine sr ?_
 refine dP (bB.cells f) 107 m ?_
 intro au bg Q
 refine Ar rfl (Kz (vP au 0) (Lz (vU f.bq) Q 0 Tryz.isAgg28 (Mz rfl ?_)))
 obtain⟨K,z⟩:∃ q,ib f.bq s=q:=⟨_,rfl⟩
 obtain⟨bi,R,aP,S,aQ⟩:=EU Q
 refine cl Tryz.call104 (lN _ _ f.bq s K R z) ?_
 rintro _ bn ⟨rfl,T⟩
 have U:=S _ _ T
 refine An rfl (rt (rs (Kz (.bool (decide (K < 0))) (nt ?_))))
 by_cases C:K < 0
 refine jT (dT C) (EO (Mz rfl (fw (vI ((((a+b) / 2)+1:Nat):Int)) (EQ (e:=IntKind.i64.wrap ((((a+b) / 2:Nat):Int)+1)) yk (by rw [IR _ (by omega)]; omega)) (Az rfl (WL.nil (bN ?_))))))
 have av:=U.pk []
 exact E8 (((a+b) / 2)+1,b,r) ⟨rfl,rfl,rfl,rfl,rfl,rfl,rfl,rfl,trivial⟩ (o.2 ⟨av,by omega,by omega,by omega,et (u) (et (ip y) (et (ai (bI F)) (et (ai z) (ip C))))⟩) (by show r < r+1; omega)
 refine jF (dF C) (EO (Mz rfl (Az rfl (WL.nil (bN ?_)))))
 have ax:=U.pk []
 exact E8 (a,(a+b) / 2,r) ⟨rfl,rfl,rfl,rfl,rfl,rfl,rfl,rfl,trivial⟩ (o.2 ⟨ax,by omega,by omega,by omega,et (u) (et (ip y) (et (ai (bI F)) (et (ai z) (iN C))))⟩) (by show r < r+1; omega)
 refine jF (dF y) (Wp.exit (EX ?_))
 have G:eG l0 s ((l0.length - 0)+1) 0 l0.length=a:=et (u) (iN y)
 refine EX (Fg (ER (sr (Mz rfl (Mz rfl (Mz rfl (Kz (.bool (decide (((a:Nat):Int) < ((l0.length:Nat):Int)))) (Mz rfl ?_))))))))
 by_cases d:((a:Nat):Int) < ((l0.length:Nat):Int)
 refine gw (.func (.func 103) #[] #[]) (dT d) (E5 rfl) (gw (.slice B l0.length c0) (dT d) (E5 rfl) (gw (vJ a) (dT d) (E5 rfl) ?_))
 obtain⟨g,l⟩:=dK (ls:=M) (i:=a) bB.len (by decide) (m.ro p) (by first | omega | (simp; done) | (simp; omega))
 have V:=eQ J l
 have aR:=(n _ (List.mem_of_getElem? l)).2.1
 have aS:=(n _ (List.mem_of_getElem? l)).2.2.2.1
 have aT:List.length (List.map bG.abs g.aF.ls)=g.aF.ls.length:=List.length_map ..
 have aU:=(n _ (List.mem_of_getElem? l)).2.2.2.2.2.2.1
 have aV:=(n _ (List.mem_of_getElem? l)).2.2.2.2.2.2.2.2.1
 have aW:List.length (List.map bM.abs g.ae.ls)=g.ae.ls.length:=List.length_map ..
 refine gw (.pointer (some ⟨ab B,ao B+a *9,none⟩)) (dT d) (ET (oQ) rfl rfl ((m.ro p).addr (i:=a) (by omega)) (by omega)) (gw (.agg (bB.cells g).toArray) (dT d) (EY rfl (Fb (cs:=(bB.cells g)) Tryz.isAgg107 Tryz.sizeOf107 ((m.ro p).elem bB.len l (by decide)))) (gw (vU s) (dT d) (E5 rfl) ?_))
 refine F7 rfl rfl (dT d) rfl (Fw Tryz.call103 rfl rfl ?_ (fun _ _ k=>k))
 refine cb Tryz.func103 ?_
 refine sr ?_
 refine dP (bB.cells g) 107 m ?_
 intro ay bq W
 refine Ar rfl (Kz (vP ay 0) (Lz (vU g.bq) W 0 Tryz.isAgg28 (Mz rfl ?_)))
 obtain⟨E,I⟩:∃ q,ib g.bq s=q:=⟨_,rfl⟩
 obtain⟨bu,X,aX,Y,aY⟩:=EU W
 refine cl Tryz.call104 (lN _ _ g.bq s E X I) ?_
 rintro _ bv ⟨rfl,Z⟩
 have az:=Y _ _ Z
 refine An rfl (rt (rs (Gz (.bool (decide (E=0))) (dT d) (fw (.bool (decide (E=0))) (Fa rfl (dT d) rfl) (Az rfl (An rfl (rt (Fin.res (lS rfl rfl rfl) ?_))))))))
 have aB:=az.pk []
 obtain⟨rfl,rfl⟩:=fT (hr.symm.trans (show _=(((a:Nat):Int),decide (E=0)) from et (ai G) (et (ip d) (et (ai (bI V)) (ai I)))))
 exact⟨rfl,aB,(by omega),(by first | omega | exact .inl rfl)⟩
 refine Sz (dF d) (Sz (dF d) (Sz (dF d) (Sz (dF d) (Sz (dF d) (Sz (dF d) (Sz (dF d) (Sz (dF d) (fw (.bool false) (ES rfl (dF d) rfl) (Az rfl (An rfl (rt (Fin.res (lS rfl rfl rfl) ?_))))))))))))
 have aC:=m.pk []
 obtain⟨rfl,rfl⟩:=fT (hr.symm.trans (show _=(((a:Nat):Int),false) from et (ai G) (iN d)))
 exact⟨rfl,aC,(by omega),(by first | omega | exact .inl rfl)⟩
def mo (g:bQ) (c:bP) (b:aC):bQ:=
 bnd (bX b.aa.aj.ls c.bf) fun a=>bnd (dB b.aB.ls c.bf) fun d=>if a.2=true then bnd (fu g c.bf ([c.aJ]) a.2) fun e=>e else if d.2=true then g else bnd (fu g c.bf ([c.aJ]) a.2) fun f=>f
set_option maxHeartbeats 4000000 in
theorem vW (w:World) (D:Nat→Prop) (g0:Nat) (p0:bQ) (C:Option Addr) (E:Nat) (t:List bA) (d:bP) (aj:Option Addr) (aK ak:Nat) (au:Option Addr) (aM av:Nat) (ax:List af) (ay:Option Addr) (aN aB:Nat) (e:Nat) (a:aC) (L:Option Addr) (M:Nat) (g:Option Addr) (h:Nat) (o:List az) (N:Option Addr) (O:Nat) (j:Option Addr) (l:Nat) (p:List bB) (P:Option Addr) (Q:Nat) (R:Option Addr) (S:Nat) (T:Option Addr) (U:Nat) (V:Option Addr) (W:Nat) (X:Option Addr) (Y:Nat) (r0:bQ) (H:Own w D w [blk g0 [.pointer (some ⟨e,0,none⟩), .slice C p0.bE.ls.length E] 98,row C p0.bE.ls.length E (List.flatMap bA.cells t) 42 21,sepL (List.flatMap bA.own t),blk e [.int .i64 a.aa.au, .int .u64 ((a.aa.ay:Nat):Int), .int .u64 ((a.aa.aY:Nat):Int), .int .u64 ((a.aa.aH:Nat):Int), .slice L a.aa.ag.ls.length M, .slice g a.aa.aj.ls.length h, .slice N a.aa.aG.ls.length O, .int .u64 ((a.bH:Nat):Int), .slice j a.aB.ls.length l, .bool a.aR.aS, .int .u64 ((a.aR.aK:Nat):Int), .int .i64 a.aR.bi, .slice P a.aR.ae.ls.length Q, .bool a.aN.aS, .int .u64 ((a.aN.aK:Nat):Int), .int .i64 a.aN.bi, .slice R a.aN.ae.ls.length S, .bool a.aM.aS, .int .u64 ((a.aM.aK:Nat):Int), .int .i64 a.aM.bi, .slice T a.aM.ae.ls.length U, .bool a.aO.aS, .int .u64 ((a.aO.aK:Nat):Int), .int .i64 a.aO.bi, .slice V a.aO.ae.ls.length W, .bool a.aP.aS, .int .u64 ((a.aP.aK:Nat):Int), .int .i64 a.aP.bi, .slice X a.aP.ae.ls.length Y, .int .u64 ((a.di:Nat):Int), .int .u64 ((a.cB:Nat):Int), .int .u64 ((a.cZ:Nat):Int), .int .u64 ((a.cK:Nat):Int), .int .u64 ((a.cO:Nat):Int), .pointer none] 86]) (u:List.map bA.abs t=p0.bE.ls) (aY:aK=d.aD.ls.length) (dm:Ro w D fun w'=>bD w' 6 aj d.aD.ls.length (List.flatMap bC.cells d.aD.ls)) (dn:d.aD.ls.length≤ak∧d.aD.ls.length≤9223372036854775807) (aZ:List.map af.abs ax=d.ah.ls) (bf:aM=d.ah.ls.length) (dw:Ro w D fun w'=>bD w' 3 au d.ah.ls.length (List.flatMap af.cells ax)) (dx:d.ah.ls.length≤av∧d.ah.ls.length≤9223372036854775807) (dz:∀ x ∈ ax,Ro w D (fun w'=>bD w' 2 x.av.A x.av.ls.length (List.flatMap aL.cells x.av.ls))∧(x.av.ls.length≤x.av.c∧x.av.ls.length≤9223372036854775807)) (bg:aN=d.ag.ls.length) (dA:Ro w D fun w'=>bD w' 2 ay d.ag.ls.length (List.flatMap bv.cells d.ag.ls)) (dC:d.ag.ls.length≤aB∧d.ag.ls.length≤9223372036854775807) (F:List.map az.abs o=a.aa.aj.ls) (aD:Ro w D fun w'=>bD w' 5 g a.aa.aj.ls.length (List.flatMap az.cells o)) (bz:a.aa.aj.ls.length≤h∧a.aa.aj.ls.length≤9223372036854775807) (G:∀ x ∈ o,Ro w D (fun w'=>bD w' 1 x.au.A x.au.ls.length (List.flatMap (eI .i64) x.au.ls))∧(x.au.ls.length≤x.au.c∧x.au.ls.length≤9223372036854775807)) (I:List.map bB.abs p=a.aB.ls) (aF:Ro w D fun w'=>bD w' 9 j a.aB.ls.length (List.flatMap bB.cells p)) (bE:a.aB.ls.length≤l∧a.aB.ls.length≤9223372036854775807) (b:∀ x ∈ p,Ro w D (fun w'=>bD w' 6 x.bU.A x.bU.ls.length (List.flatMap bC.cells x.bU.ls))∧(x.bU.ls.length≤x.bU.c∧x.bU.ls.length≤9223372036854775807)∧Ro w D (fun w'=>bD w' 3 x.aF.A x.aF.ls.length (List.flatMap bG.cells x.aF.ls))∧(x.aF.ls.length≤x.aF.c∧x.aF.ls.length≤9223372036854775807)∧(∀ f ∈ x.aF.ls,Ro w D (fun w'=>bD w' 6 f.aD.A f.aD.ls.length (List.flatMap bC.cells f.aD.ls))∧(f.aD.ls.length≤f.aD.c∧f.aD.ls.length≤9223372036854775807)∧Ro w D (fun w'=>bD w' 1 f.aJ.A f.aJ.ls.length (List.flatMap (eI .i64) f.aJ.ls))∧(f.aJ.ls.length≤f.aJ.c∧f.aJ.ls.length≤9223372036854775807))∧Ro w D (fun w'=>bD w' 1 x.bF.A x.bF.ls.length (List.flatMap eL x.bF.ls))∧(x.bF.ls.length≤x.bF.c∧x.bF.ls.length≤9223372036854775807)∧Ro w D (fun w'=>bD w' 1 x.ae.A x.ae.ls.length (List.flatMap (FJ (β:=af)) x.ae.ls))∧(x.ae.ls.length≤x.ae.c∧x.ae.ls.length≤9223372036854775807)∧(∀ f ∈ x.ae.ls,Ro w D (fun w'=>bD w' 3 f.A f.ls.length (List.flatMap af.cells f.ls))∧(f.ls.length≤f.c∧f.ls.length≤9223372036854775807)∧(∀ y2 ∈ f.ls,Ro w D (fun w'=>bD w' 2 y2.av.A y2.av.ls.length (List.flatMap aL.cells y2.av.ls))∧(y2.av.ls.length≤y2.av.c∧y2.av.ls.length≤9223372036854775807)))) (ed:a.aa.ag.ls.length≤1000∧a.aa.aj.ls.length≤1000∧a.aa.aG.ls.length≤1000∧a.aB.ls.length≤1000∧p0.bE.ls.length≤100000) (hr:mo p0 d a=r0):
    Calls Tryz.prog 59 #[vP g0 0, .agg (gN d.aI d.aJ d.eU d.aQ d.dz d.dL d.aU d.ay d.bf d.cz d.aY d.aH d.dG d.bT d.xN d.dI d.bO.bJ d.bO.bW aj aK ak au aM av ay aN aB).toArray] w (dW fun v w'=> ∃ (B0ox0:Option Addr) (b0ox0:Nat) (e0ox0:List bA),v= .tuple #[]∧Own w D w' [blk g0 [vP e 0, .slice B0ox0 r0.bE.ls.length b0ox0] 98,row B0ox0 r0.bE.ls.length b0ox0 (List.flatMap bA.cells e0ox0) 42 21,sepL (List.flatMap bA.own e0ox0),blk e [vI a.aa.au,vU a.aa.ay,vU a.aa.aY,vU a.aa.aH, .slice L a.aa.ag.ls.length M, .slice g a.aa.aj.ls.length h, .slice N a.aa.aG.ls.length O,vU a.bH, .slice j a.aB.ls.length l, .bool a.aR.aS,vU a.aR.aK,vI a.aR.bi, .slice P a.aR.ae.ls.length Q, .bool a.aN.aS,vU a.aN.aK,vI a.aN.bi, .slice R a.aN.ae.ls.length S, .bool a.aM.aS,vU a.aM.aK,vI a.aM.bi, .slice T a.aM.ae.ls.length U, .bool a.aO.aS,vU a.aO.aK,vI a.aO.bi, .slice V a.aO.ae.ls.length W, .bool a.aP.aS,vU a.aP.aK,vI a.aP.bi, .slice X a.aP.ae.ls.length Y,vU a.di,vU a.cB,vU a.cZ,vU a.cK,vU a.cO, .pointer none] 86]∧(List.map bA.abs e0ox0=r0.bE.ls)):=by
 subst aY bf bg
 have dh:=aA u
 have di:=aA aZ
 have bq:=aA F
 have bu:=aA I
 have dD:=H.rowC (i:=1) rfl
 refine cb Tryz.func59 ?_
 refine sr ?_
 refine dP (gP d aj ak au av ay aB) 42 H ?_
 intro ae ek dE
 refine nt (EP ?_)
 refine wS [] (E9 Fp) dE ?_
 intro eu bF
 refine qv 0 rfl rfl (qp g0 0 1 rfl (qp g0 0 2 rfl (ql 3 rfl 1 Tryz.isAgg24 rfl rfl rfl (qp ae 8 4 rfl (ql 5 rfl 0 Tryz.isAgg28 rfl rfl rfl ?_)))))
 refine GX.do 6 rfl (by kernel_rfl) (Fe Tryz.call95 rfl ?_ (fun _ _ k=>k))
 refine cb Tryz.func95 ?_
 refine sr (Az rfl (Ar rfl (Mz rfl (Kz (vP e 0) (Kz (vP e 0) (Kz (vP e 5) (Lz (.slice g a.aa.aj.ls.length h) bF 4 Tryz.isAgg30 (Mz rfl ?_))))))))
 obtain⟨⟨ag,r⟩,Z⟩:∃ q:Int × Bool,bX a.aa.aj.ls d.bf=q:=⟨_,rfl⟩
 obtain⟨eB,bH,aO,bI,dR⟩:=EU bF
 refine cl Tryz.call132 (gV _ _ g a.aa.aj.ls.length h o a.aa.aj.ls d.bf ag r bH F (aO _ aD) (fun z B=>⟨aO _ (G z B).1,(G z B).2⟩) rfl (by omega) Z) ?_
 rintro _ eD ⟨rfl,bJ,aP,aQ⟩
 have bK:=bI _ _ bJ
 replace aP:0≤ag∧ag≤((a.aa.aj.ls.length:Nat):Int):=aP
 replace aQ:Bool.toNat r=0∨ag < ((a.aa.aj.ls.length:Nat):Int):=aQ
 refine Kz (vI ag) (Kz (.bool r) (Az rfl (An rfl (rt (Fin.res (lS rfl rfl rfl) ?_)))))
 refine⟨.inr ⟨_,bK⟩, ?_⟩
 refine qv 7 rfl rfl (qk (vI ag) 8 rfl (qk (.bool r) 9 rfl (qa 10 rfl rfl (qa 11 rfl rfl (qn (ER (EP ?_)))))))
 refine wS [] (E9 Fp) bK ?_
 intro eF bL
 refine qv 0 rfl rfl (qp g0 0 1 rfl (qp g0 0 2 rfl (ql 3 rfl 1 Tryz.isAgg24 rfl rfl rfl (qp ae 8 4 rfl (ql 5 rfl 0 Tryz.isAgg28 rfl rfl rfl ?_)))))
 refine GX.do 6 rfl (by kernel_rfl) (Fe Tryz.call62 rfl ?_ (fun _ _ k=>k))
 refine cb Tryz.func62 ?_
 refine sr (Az rfl (Ar rfl (Mz rfl (Kz (vP e 0) (Kz (vP e 8) (Lz (.slice j a.aB.ls.length l) bL 4 Tryz.isAgg79 (Mz rfl ?_)))))))
 obtain⟨⟨ah,s⟩,aa⟩:∃ q:Int × Bool,dB a.aB.ls d.bf=q:=⟨_,rfl⟩
 obtain⟨eG,bM,m,bN,dS⟩:=EU bL
 refine cl Tryz.call102 (iH _ _ j a.aB.ls.length l p a.aB.ls d.bf ah s bM I (m _ aF) (fun z B=>⟨m _ (b z B).1,(b z B).2.1,m _ (b z B).2.2.1,(b z B).2.2.2.1,(fun f k1=>⟨m _ ((b z B).2.2.2.2.1 f k1).1,((b z B).2.2.2.2.1 f k1).2.1,m _ ((b z B).2.2.2.2.1 f k1).2.2.1,((b z B).2.2.2.2.1 f k1).2.2.2⟩),m _ (b z B).2.2.2.2.2.1,(b z B).2.2.2.2.2.2.1,m _ (b z B).2.2.2.2.2.2.2.1,(b z B).2.2.2.2.2.2.2.2.1,(fun f k1=>⟨m _ ((b z B).2.2.2.2.2.2.2.2.2 f k1).1,((b z B).2.2.2.2.2.2.2.2.2 f k1).2.1,(fun y2 k2=>⟨m _ (((b z B).2.2.2.2.2.2.2.2.2 f k1).2.2 y2 k2).1,(((b z B).2.2.2.2.2.2.2.2.2 f k1).2.2 y2 k2).2⟩)⟩)⟩) rfl (by omega) aa) ?_
 rintro _ eH ⟨rfl,bO,aR,aS⟩
 have J:=bN _ _ bO
 replace aR:0≤ah∧ah≤((a.aB.ls.length:Nat):Int):=aR
 replace aS:Bool.toNat s=0∨ah < ((a.aB.ls.length:Nat):Int):=aS
 refine Kz (vI ah) (Kz (.bool s) (Az rfl (An rfl (rt (Fin.res (lS rfl rfl rfl) ?_)))))
 refine⟨.inr ⟨_,J⟩, ?_⟩
 refine qv 7 rfl rfl (qk (vI ah) 8 rfl (qk (.bool s) 9 rfl (qa 10 rfl rfl (qa 11 rfl rfl (qn (ER (sr (Mz rfl (Mz rfl ?_)))))))))
 rcases IW (r) with n | n
 have h54t:Bool.toNat r=1:=by rw [n]; rfl
 refine Sz n (Sz n (fw (.bool true) (Fa rfl n rfl) (nt (jt (EO (Mz rfl (Kz (vP ae 8) (Lz (vU d.bf) J 0 Tryz.isAgg28 (Kz (vP ae 1) (Lz (vI d.aJ) J 0 Tryz.isAgg3 ?_))))))))))
 refine kG [vI d.aJ] 3 1 1 J ?_
 intro bR eO bi
 replace bi:=Fx (y:=row bR 1 1 (List.flatMap (eI .i64) ([d.aJ])) 3 1) rfl bi
 refine Mz rfl ?_
 have dF:=bi.pb [0,1,5]
 obtain⟨bS,aU⟩:∃ q,fu p0 d.bf ([d.aJ]) r=q:=⟨_,rfl⟩
 obtain⟨eP,bT,dU,bU,bV⟩:=FC dF
 refine cl Tryz.call27 (kz _ _ g0 p0 C E t e d.bf bR 1 1 ([d.aJ]) r bS bT u (bV _ 0 _ rfl aT) rfl (by simp) (by first | omega | (dsimp only; omega) | (simp only [List.length_cons,List.length_nil]; omega) | decide) aU) ?_
 rintro _ eQ ⟨dG,dH,dI,rfl,bW,aV⟩
 have bY:=bU _ _ bW
 have dV:=aA aV
 have dX:=bY.rowC (i:=1) rfl
 refine WL.nil (Ff (res0 rfl) ?_)
 have dJ:=bY.pk [0,1,2,5]
 obtain rfl:_=bS:=hr.symm.trans (et (ai Z) (et (ai aa) (et (ip n) (ai aU))))
 exact⟨dG,dH,dI,rfl,dJ,aV⟩
 have h54t:Bool.toNat r=0:=by rw [n]; rfl
 refine FO (v:= .bool s) rfl rfl n rfl (E5 rfl) (Gz (.bool (!s)) n (fw (.bool (!s)) (ES rfl n rfl) (nt ?_)))
 rcases IW (s) with K | K
 have h76t:Bool.toNat s=1:=by rw [K]; rfl
 refine jF (cn K) (Fs (Ff (res0 rfl) ?_))
 have dK:=J.px [] [0] []
 obtain rfl:_=p0:=hr.symm.trans (et (ai Z) (et (ai aa) (et (fU n) (ip K))))
 exact⟨C,E,t,rfl,dK,u⟩
 have h76t:Bool.toNat s=0:=by rw [K]; rfl
 refine jT (cn K) (EO (Mz rfl (Kz (vP ae 8) (Lz (vU d.bf) J 0 Tryz.isAgg28 (Kz (vP ae 1) (Lz (vI d.aJ) J 0 Tryz.isAgg3 ?_))))))
 refine kG [vI d.aJ] 3 1 1 J ?_
 intro bZ eT bn
 replace bn:=Fx (y:=row bZ 1 1 (List.flatMap (eI .i64) ([d.aJ])) 3 1) rfl bn
 refine Mz rfl ?_
 have dL:=bn.pb [0,1,5]
 obtain⟨cu,aW⟩:∃ q,fu p0 d.bf ([d.aJ]) r=q:=⟨_,rfl⟩
 obtain⟨eU,cz,dY,cB,cK⟩:=FC dL
 refine cl Tryz.call27 (kz _ _ g0 p0 C E t e d.bf bZ 1 1 ([d.aJ]) r cu cz u (cK _ 0 _ rfl aT) rfl (by simp) (by first | omega | (dsimp only; omega) | (simp only [List.length_cons,List.length_nil]; omega) | decide) aW) ?_
 rintro _ eX ⟨dM,dN,dO,rfl,cO,aX⟩
 have cZ:=cB _ _ cO
 have dZ:=aA aX
 have d9:=cZ.rowC (i:=1) rfl
 refine WL.nil (Ff (res0 rfl) ?_)
 have dQ:=cZ.pk [0,1,2,5]
 obtain rfl:_=cu:=hr.symm.trans (et (ai Z) (et (ai aa) (et (fU n) (et (fU K) (ai aW)))))
 exact⟨dM,dN,dO,rfl,dQ,aX⟩
def gQ (p1c0:bP):List Int→Nat→Unit ⊕ Int
  | [],a=>Sum.inl ()
  | b::c,a=>if b=p1c0.aJ then Sum.inr ((a:Nat):Int) else gQ p1c0 c (a+1)
def mG (l0:List Int) (p1c0:bP):Int:=
 lp (gQ p1c0 l0 0) fun _=>(-1)
theorem qX (w:World) (D:Nat→Prop) (n:Option Addr) (t u:Nat) (l0:List Int) (g1c0:Nat) (p1c0:bP) (A1c0x0:Option Addr) (c1c0x0:Nat) (A1c0x1:Option Addr) (c1c0x1:Nat) (d1c0x1:List af) (A1c0x2:Option Addr) (c1c0x2:Nat) (s:Int) (H:Own w D w [blk g1c0 (gP p1c0 A1c0x0 c1c0x0 A1c0x1 c1c0x1 A1c0x2 c1c0x2) 42]) (l:Ro w D fun w'=>bD w' 1 n t (List.flatMap (eI .i64) l0)) (y:t=l0.length) (I:l0.length≤9223372036854775807) (hx1c0x0:Ro w D fun w'=>bD w' 6 A1c0x0 p1c0.aD.ls.length (List.flatMap bC.cells p1c0.aD.ls)) (hb1c0x0:p1c0.aD.ls.length≤c1c0x0∧p1c0.aD.ls.length≤9223372036854775807) (hd1c0x1:List.map af.abs d1c0x1=p1c0.ah.ls) (hx1c0x1:Ro w D fun w'=>bD w' 3 A1c0x1 p1c0.ah.ls.length (List.flatMap af.cells d1c0x1)) (hb1c0x1:p1c0.ah.ls.length≤c1c0x1∧p1c0.ah.ls.length≤9223372036854775807) (hm1c0x1:∀ x ∈ d1c0x1,Ro w D (fun w'=>bD w' 2 x.av.A x.av.ls.length (List.flatMap aL.cells x.av.ls))∧(x.av.ls.length≤x.av.c∧x.av.ls.length≤9223372036854775807)) (hx1c0x2:Ro w D fun w'=>bD w' 2 A1c0x2 p1c0.ag.ls.length (List.flatMap bv.cells p1c0.ag.ls)) (hb1c0x2:p1c0.ag.ls.length≤c1c0x2∧p1c0.ag.ls.length≤9223372036854775807) (hr:mG l0 p1c0=s):
    Calls Tryz.prog 134 #[.slice n t u, .func (.func 97) #[] #[vP g1c0 0]] w (dW fun v w'=>v=vI s∧Own w D w' [blk g1c0 (gP p1c0 A1c0x0 c1c0x0 A1c0x1 c1c0x1 A1c0x2 c1c0x2) 42]∧(-1≤s∧s < ((l0.length:Nat):Int))):=by
 subst y
 have hdl1c0x1:=aA hd1c0x1
 refine cb Tryz.func134 ?_
 refine sr (An rfl (EP (sr (Mz rfl (Kz (vJ l0.length) (Mn rfl (bo ?_)))))))
 have z:=H.pf []
 obtain⟨B,d⟩:=l8 fun(a:Nat) (w':World)=>Own w D w' [blk g1c0 (gP p1c0 A1c0x0 c1c0x0 A1c0x1 c1c0x1 A1c0x2 c1c0x2) 42]∧a≤l0.length∧gQ p1c0 l0 0=gQ p1c0 (List.drop a l0) a
 refine Wp.loop (fun i:Nat=> [(4,vI 0),(8,vJ i),(7,vJ l0.length),(0, .slice n l0.length u),(1, .func (.func 97) #[] #[vP g1c0 0])]) B (fun i=>l0.length - i) 0 ⟨rfl,rfl,rfl,rfl,rfl,trivial⟩ (d.2 ⟨z,by omega,rfl⟩) ?_
 rintro a J o
 show Wp _ _ _ [(4,vI 0),(8,vJ a),(7,vJ l0.length),(0, .slice n l0.length u),(1, .func (.func 97) #[] #[vP g1c0 0])] _ _
 obtain⟨b,G,f⟩:=d.1 o
 refine sr (Kz (.bool (decide (((a:Nat):Int) < ((l0.length:Nat):Int)))) (nt (EP ?_)))
 by_cases p:((a:Nat):Int) < ((l0.length:Nat):Int)
 obtain⟨m,h⟩:=dK (ls:=l0) (i:=a) iJ (by decide) (b.ro l) (by first | omega | (simp; done) | (simp; omega))
 have j:=drop_at h
 refine jT (dT p) (sk (EP (bo (sr (Mz rfl (Ar rfl (Mz rfl (Mz rfl (Mz rfl (fw (.pointer (some ⟨ab n,ao n+a *1,none⟩)) (ET (mQ) rfl rfl ((b.ro l).addr (i:=a) (by omega)) (by omega)) (fw (vI m) (EY rfl (bZ.one Tryz.isAgg3 (((b.ro l).elem iJ h (by decide)).at_ (k:=0) rfl))) ?_)))))))))))
 refine WL.do rfl (Fw Tryz.call97 rfl rfl ?_ (fun _ _ k=>k))
 refine cb Tryz.func97 ?_
 refine sr (Ar rfl (Mz rfl (Kz (vP g1c0 1) (Lz (vI p1c0.aJ) b 0 Tryz.isAgg3 (Kz (.bool (decide (m=p1c0.aJ))) (An rfl (rt (rs (nt ?_)))))))))
 by_cases g:m=p1c0.aJ
 refine jT (dT g) (sr (Mz rfl (An rfl (rt (bR (tR (tR (bR (tR (rs ?_))))))))))
 have C:=b.pf []
 obtain rfl:_=((a:Nat):Int):=hr.symm.trans (iZ (et (f) (et (congrArg (fun q=>gQ p1c0 q a) j) (ip g))))
 exact⟨rfl,C,(by omega)⟩
 refine jF (dF g) (Fs (bN (ER (EO (fw (vJ (a+1)) (EQ (e:=IntKind.i64.wrap (((a:Nat):Int)+1)) yk (by rw [IR _ (by omega)]; omega)) (Mz rfl (WL.nil ?_)))))))
 have E:=b.pf []
 exact E8 (a+1) ⟨rfl,rfl,rfl,rfl,rfl,trivial⟩ (d.2 ⟨E,by omega,et (f) (et (congrArg (fun q=>gQ p1c0 q a) j) (iN g))⟩) (by show l0.length - (a+1) < l0.length - a; omega)
 refine jF (dF p) (Wp.exit (EX ?_))
 have r:gQ p1c0 l0 0=Sum.inl ():=et (f) (et (congrArg (fun q=>gQ p1c0 q a) (eD (ls:=l0) (i:=a) (by omega))) rfl)
 refine EX (Fg (ER (sr (An rfl (rt (rs ?_))))))
 have F:=b.pf []
 obtain rfl:_=(-1):=hr.symm.trans (nJ r)
 exact⟨rfl,F,(by omega)⟩
def gL (l0:List Int) (p1c0:bP):Nat→Int→Int→List Int→Int × (List Int)
  | 0,a,b,c=>default
  | e+1,a,b,c=>if b < ((l0.length:Nat):Int) then bnd (List.getD c (Int.toNat b) default) fun d=>if d=p1c0.aJ then gL l0 p1c0 e a (b+1) c else gL l0 p1c0 e (a+1) (b+1) (List.set c (Int.toNat a) d) else(a,c)
def iq (l0:List Int) (p1c0:bP):(List Int):=
 bnd (mG l0 p1c0) fun a=>if a=(-1) then l0 else bnd (gL l0 p1c0 ((Int.toNat (((l0.length:Nat):Int) - (a+1)))+1) a (a+1) l0) fun sLrbfL=>(List.take (Int.toNat sLrbfL.1) sLrbfL.2)
theorem qF (w:World) (D:Nat→Prop) (h:Option Addr) (T n:Nat) (l0:List Int) (g1c0:Nat) (p1c0:bP) (A1c0x0:Option Addr) (c1c0x0:Nat) (A1c0x1:Option Addr) (c1c0x1:Nat) (d1c0x1:List af) (A1c0x2:Option Addr) (c1c0x2:Nat) (I:List Int) (H:Own w D w [row h T n (List.flatMap (eI .i64) l0) 3 1,blk g1c0 (gP p1c0 A1c0x0 c1c0x0 A1c0x1 c1c0x1 A1c0x2 c1c0x2) 42]) (U:T=l0.length) (aM:l0.length *8≤211106232532992) (hx1c0x0:Ro w D fun w'=>bD w' 6 A1c0x0 p1c0.aD.ls.length (List.flatMap bC.cells p1c0.aD.ls)) (hb1c0x0:p1c0.aD.ls.length≤c1c0x0∧p1c0.aD.ls.length≤9223372036854775807) (hd1c0x1:List.map af.abs d1c0x1=p1c0.ah.ls) (hx1c0x1:Ro w D fun w'=>bD w' 3 A1c0x1 p1c0.ah.ls.length (List.flatMap af.cells d1c0x1)) (hb1c0x1:p1c0.ah.ls.length≤c1c0x1∧p1c0.ah.ls.length≤9223372036854775807) (hm1c0x1:∀ x ∈ d1c0x1,Ro w D (fun w'=>bD w' 2 x.av.A x.av.ls.length (List.flatMap aL.cells x.av.ls))∧(x.av.ls.length≤x.av.c∧x.av.ls.length≤9223372036854775807)) (hx1c0x2:Ro w D fun w'=>bD w' 2 A1c0x2 p1c0.ag.ls.length (List.flatMap bv.cells p1c0.ag.ls)) (hb1c0x2:p1c0.ag.ls.length≤c1c0x2∧p1c0.ag.ls.length≤9223372036854775807) (aN:l0.length≤1000000) (hr:iq l0 p1c0=I):
    Calls Tryz.prog 96 #[.slice h T n, .func (.func 97) #[] #[vP g1c0 0]] w (dW fun v w'=> ∃ (B0:Option Addr) (b0:Nat),v= .slice B0 I.length b0∧Own w D w' [row B0 I.length b0 (List.flatMap (eI .i64) I) 3 1,blk g1c0 (gP p1c0 A1c0x0 c1c0x0 A1c0x1 c1c0x1 A1c0x2 c1c0x2) 42]∧(I.length≤l0.length)):=by
 subst U
 have hdl1c0x1:=aA hd1c0x1
 have aO:=H.rowC (i:=0) rfl
 refine cb Tryz.func96 ?_
 refine sr (Ar rfl (Mz rfl (Mz rfl ?_)))
 have V:=H.pb [0]
 obtain⟨d,r⟩:∃ q,mG l0 p1c0=q:=⟨_,rfl⟩
 obtain⟨aP,J,l,K,L⟩:=Fu V
 refine cl Tryz.call134 (qX _ _ h l0.length n l0 g1c0 p1c0 A1c0x0 c1c0x0 A1c0x1 c1c0x1 d1c0x1 A1c0x2 c1c0x2 d J (L _ 0 _ rfl aT) rfl (by omega) (l _ hx1c0x0) (show p1c0.aD.ls.length≤c1c0x0∧p1c0.aD.ls.length≤9223372036854775807 from by omega) hd1c0x1 (l _ hx1c0x1) (show p1c0.ah.ls.length≤c1c0x1∧p1c0.ah.ls.length≤9223372036854775807 from by omega) (fun x9 h9=>⟨l _ (hm1c0x1 x9 h9).1,(hm1c0x1 x9 h9).2⟩) (l _ hx1c0x2) (show p1c0.ag.ls.length≤c1c0x2∧p1c0.ag.ls.length≤9223372036854775807 from by omega) r) ?_
 rintro _ aQ ⟨rfl,M,F⟩
 have N:=K _ _ M
 replace F: -1≤d∧d < ((l0.length:Nat):Int):=F
 refine An rfl (EP (sr (Mz rfl (Kz (.bool (decide (d=(-1)))) (nt ?_)))))
 by_cases C:d=(-1)
 refine jT (dT C) (sr (Mz rfl (An rfl (rt (tR (rs ?_))))))
 have W:=N.pb [0]
 obtain rfl:_=l0:=hr.symm.trans (et (ai r) (ip C))
 exact⟨h,n,rfl,W,(by first | omega | (simp only [List.length_take]; omega))⟩
 refine jF (dF C) (sk (EP (sr (Mz rfl (fw (vI (d+1)) (EQ (e:=IntKind.i64.wrap (d+1)) yk (by rw [IR _ (by omega)])) (An rfl (bo ?_)))))))
 have X:=N.pf []
 obtain⟨Y,m⟩:=rD fun(a:Int) (b:Int) (f:List Int) (s:Nat) (w':World)=>Own w D w' [blk g1c0 (gP p1c0 A1c0x0 c1c0x0 A1c0x1 c1c0x1 A1c0x2 c1c0x2) 42,row h l0.length n (List.flatMap (eI .i64) f) 3 1]∧f.length=l0.length∧(0≤a∧a≤b∧b≤((l0.length:Nat):Int))∧Int.toNat (((l0.length:Nat):Int) - b) < s∧gL l0 p1c0 ((Int.toNat (((l0.length:Nat):Int) - (d+1)))+1) d (d+1) l0=gL l0 p1c0 s a b f
 refine Wp.loop (fun i:Int × Int × (List Int) × Nat=> [(5,vI i.1),(6,vI i.2.1),(4, .slice none 0 0),(0, .slice h l0.length n),(1, .func (.func 97) #[] #[vP g1c0 0])]) Y (fun i=>i.2.2.2) (d,d+1,l0,(Int.toNat (((l0.length:Nat):Int) - (d+1)))+1) ⟨rfl,rfl,rfl,rfl,rfl,trivial⟩ (m.2 ⟨X,by first | omega | (simp only [List.length_set] <;> omega) | (simp only [List.length_replicate]),by omega,by omega,rfl⟩) ?_
 rintro ⟨a,b,f,s⟩ aR O
 show Wp _ _ _ [(5,vI a),(6,vI b),(4, .slice none 0 0),(0, .slice h l0.length n),(1, .func (.func 97) #[] #[vP g1c0 0])] _ _
 obtain⟨g,aD,aF,aG,t⟩:=m.1 O
 obtain⟨p,P⟩:∃ q,s=q+1:=⟨s - 1,by omega⟩
 subst P
 refine EP (sr (Mz rfl (Mz rfl (Kz (vJ l0.length) (Kz (.bool (decide (b < ((l0.length:Nat):Int)))) (nt ?_))))))
 by_cases u:b < ((l0.length:Nat):Int)
 refine jT (dT u) (sk (EP (bo (sr (Mz rfl (fw (vJ (Int.toNat b)) (EQ (e:=b) (E5 rfl) (by omega)) ?_))))))
 obtain⟨j,z⟩:=dK (ls:=f) (i:=Int.toNat b) iJ (by decide) (g.rds (i:=1) rfl) (by first | omega | (simp; done) | (simp; omega))
 refine fw (.pointer (some ⟨ab h,ao h+(Int.toNat b) *1,none⟩)) (ET (mQ) rfl rfl ((g.rds (i:=1) rfl).addr (i:=Int.toNat b) (by omega)) (by omega)) (fw (vI j) (EY rfl (bZ.one Tryz.isAgg3 (((g.rds (i:=1) rfl).elem iJ z (by decide)).at_ (k:=0) rfl))) (Ar rfl (Mz rfl (Mz rfl ?_))))
 refine WL.do rfl (Fw Tryz.call97 rfl rfl ?_ (fun _ _ k=>k))
 refine cb Tryz.func97 ?_
 refine sr (Ar rfl (Mz rfl (Kz (vP g1c0 1) (Lz (vI p1c0.aJ) g 0 Tryz.isAgg3 (Kz (.bool (decide (j=p1c0.aJ))) (An rfl (rt (rs (fw (.bool (decide (¬ (j=p1c0.aJ)))) (Fq (e:= !(decide (j=p1c0.aJ))) yk decide_not.symm) (nt ?_))))))))))
 by_cases E:j=p1c0.aJ
 refine jF (dF (IV E)) (Fs (bN (ER (EO (Mz rfl (fw (vI (b+1)) (EQ (e:=IntKind.i64.wrap (b+1)) yk (by rw [IR _ (by omega)])) (Az rfl (WL.nil ?_))))))))
 have Z:=g.pf []
 exact E8 (a,b+1,f,p) ⟨rfl,rfl,rfl,rfl,rfl,trivial⟩ (m.2 ⟨Z,by first | omega | (simp only [List.length_set] <;> omega) | (simp only [List.length_replicate]),by omega,by omega,Eq.trans (t) (Eq.trans (if_pos u) (Eq.trans (ai (bI z)) (if_pos E)))⟩) (by show p < p+1; omega)
 refine jT (dT E) (sr (Mz rfl (fw (vJ (Int.toNat a)) (EQ (e:=a) (E5 rfl) (by omega)) (Mz rfl ?_))))
 obtain⟨aS,G⟩:=dK (ls:=f) (i:=Int.toNat a) iJ (by decide) (g.rds (i:=1) rfl) (by first | omega | (simp; done) | (simp; omega))
 refine fw (.pointer (some ⟨ab h,ao h+(Int.toNat a) *1,none⟩)) (ET (mQ) rfl rfl ((g.rds (i:=1) rfl).addr (i:=Int.toNat a) (by omega)) (by omega)) ?_
 have aa:=g.pb [0]
 refine F6 (Do.storeRow (vs:= [vI j]) (o:=(Int.toNat a) *1+0) (q:=ao h+(Int.toNat a) *1) aa rfl (by omega) rfl Tryz.sizeOf3 rfl rfl (IQ rfl) (iL iJ G (IQ rfl)) (jA (y:=j) iJ rfl (IQ rfl) G) ?_)
 intro aU ae
 refine nt (EO (Mz rfl (fw (vI (a+1)) (EQ (e:=IntKind.i64.wrap (a+1)) yk (by rw [IR _ (by omega)])) (Az rfl (WL.nil (bN (ER (EO (Mz rfl (fw (vI (b+1)) (EQ (e:=IntKind.i64.wrap (b+1)) yk (by rw [IR _ (by omega)])) (Az rfl (WL.nil ?_))))))))))))
 have ag:=ae.pb [0]
 exact E8 (a+1,b+1,(List.set f (Int.toNat a) j),p) ⟨rfl,rfl,rfl,rfl,rfl,trivial⟩ (m.2 ⟨ag,by first | omega | (simp only [List.length_set] <;> omega) | (simp only [List.length_replicate]),by omega,by omega,Eq.trans (t) (Eq.trans (if_pos u) (Eq.trans (ai (bI z)) (if_neg E)))⟩) (by show p < p+1; omega)
 refine jF (dF u) (Wp.exit (EX ?_))
 have Q:gL l0 p1c0 ((Int.toNat (((l0.length:Nat):Int) - (d+1)))+1) d (d+1) l0=(a,f):=et (t) (iN u)
 refine EX (Fg (ER (sr (Mz rfl (fw (vJ (Int.toNat a)) (EQ (e:=a) (E5 rfl) (by omega)) (fw (.slice (jw h (Int.toNat a) 1 n) (l0.length - (Int.toNat a)) (n - (Int.toNat a))) (FH (mQ) rfl rfl (by omega)) ?_))))))
 have ah:=g.pb [0]
 obtain⟨aH,aj,R⟩:=ah.rowFull
 refine F6 (GA (z0:=(vI 0)) (lo:=Int.toNat a) (nd:=(l0.length - (Int.toNat a))) (by kernel_rfl) rfl (mQ) R rfl (fun _=>kL ((R.rds (i:=0) rfl).isSome (by omega)) (by omega)) (by omega) ?_)
 intro S aI aJ ak
 refine ns (Mz rfl (fw (vJ (Int.toNat a)) (EQ (e:=a) (E5 rfl) (by omega)) (fw (.slice h (Int.toNat a) n) (FV (mQ) rfl rfl (by omega)) (An rfl (rt (rs ?_))))))
 have au:Own w D S [row h (Int.toNat a) n (List.flatMap (eI .i64) (List.take (Int.toNat a) f)) 3 1,blk g1c0 (gP p1c0 A1c0x0 c1c0x0 A1c0x1 c1c0x1 A1c0x2 c1c0x2) 42]:=ak.rowPart (by omega) (Co iJ (by omega))
 have aK:List.length (List.take (Int.toNat a) f)=Int.toNat a:=by rw [List.length_take]; omega
 have B:Int.toNat a=List.length (List.take (Int.toNat a) f):=by first | omega | (simp only [List.length_set]; done) | (simp only [List.length_set,List.length_append,List.length_cons,List.length_nil,List.length_take,List.length_drop,List.length_replicate]; omega)
 have av:Own w D S [row h (List.length (List.take (Int.toNat a) f)) n (List.flatMap (eI .i64) (List.take (Int.toNat a) f)) 3 1,blk g1c0 (gP p1c0 A1c0x0 c1c0x0 A1c0x1 c1c0x1 A1c0x2 c1c0x2) 42]:=by rw [← B]; exact au
 have ax:=av.pf []
 obtain rfl:_=(List.take (Int.toNat a) f):=hr.symm.trans (et (ai r) (et (iN C) (ai Q)))
 exact⟨h,n,(by first | rfl | (rw [← B]; done) | (rw [← B]; rfl)),ax,(by first | omega | (simp only [List.length_take]; omega))⟩
def lG (f:bQ) (g:bP) (a:aC):bQ × aC:=
 bnd (bX a.aa.aj.ls g.bf) fun c=>if c.2=true then bnd (List.getD a.aa.aj.ls (Int.toNat c.1) default) fun b=>bnd (iq b.au.ls g) fun d=>bnd (List.getD (List.set a.aa.aj.ls (Int.toNat c.1) (bL.mk b.bf b.aQ b.ay b.aU (Ll.mk d))) (Int.toNat c.1) default) fun e=>if((e.au.ls.length:Nat):Int)=0 then(f,aC.mk (dC.mk a.aa.au a.aa.ay a.aa.aY a.aa.aH (Ll.mk a.aa.ag.ls) (Ll.mk (List.take (Int.toNat c.1) (List.set a.aa.aj.ls (Int.toNat c.1) (bL.mk b.bf b.aQ b.ay b.aU (Ll.mk d)))++List.drop ((Int.toNat c.1)+1) (List.set a.aa.aj.ls (Int.toNat c.1) (bL.mk b.bf b.aQ b.ay b.aU (Ll.mk d))))) (Ll.mk a.aa.aG.ls)) a.bH (Ll.mk a.aB.ls) a.aR a.aN a.aM a.aO a.aP a.di a.cB a.cZ a.cK a.cO) else(f,aC.mk (dC.mk a.aa.au a.aa.ay a.aa.aY a.aa.aH (Ll.mk a.aa.ag.ls) (Ll.mk (List.set a.aa.aj.ls (Int.toNat c.1) (bL.mk b.bf b.aQ b.ay b.aU (Ll.mk d)))) (Ll.mk a.aa.aG.ls)) a.bH (Ll.mk a.aB.ls) a.aR a.aN a.aM a.aO a.aP a.di a.cB a.cZ a.cK a.cO) else(f,a)
set_option maxHeartbeats 4000000 in
theorem vX (w:World) (D:Nat→Prop) (g0:Nat) (p0:bQ) (u:Option Addr) (z:Nat) (t:List bA) (p:bP) (aj:Option Addr) (aP Y:Nat) (ak:Option Addr) (aQ Z:Nat) (au:List af) (av:Option Addr) (aR aa:Nat) (l:Nat) (a:aC) (C:Option Addr) (E:Nat) (g:Option Addr) (n:Nat) (h:List az) (F:Option Addr) (G:Nat) (I:Option Addr) (J:Nat) (K:Option Addr) (L:Nat) (M:Option Addr) (N:Nat) (O:Option Addr) (P:Nat) (Q:Option Addr) (R:Nat) (S:Option Addr) (T:Nat) (r0:bQ) (B:aC) (H:Own w D w [blk g0 [.pointer (some ⟨l,0,none⟩), .slice u p0.bE.ls.length z] 98,row u p0.bE.ls.length z (List.flatMap bA.cells t) 42 21,sepL (List.flatMap bA.own t),blk l [.int .i64 a.aa.au, .int .u64 ((a.aa.ay:Nat):Int), .int .u64 ((a.aa.aY:Nat):Int), .int .u64 ((a.aa.aH:Nat):Int), .slice C a.aa.ag.ls.length E, .slice g a.aa.aj.ls.length n, .slice F a.aa.aG.ls.length G, .int .u64 ((a.bH:Nat):Int), .slice I a.aB.ls.length J, .bool a.aR.aS, .int .u64 ((a.aR.aK:Nat):Int), .int .i64 a.aR.bi, .slice K a.aR.ae.ls.length L, .bool a.aN.aS, .int .u64 ((a.aN.aK:Nat):Int), .int .i64 a.aN.bi, .slice M a.aN.ae.ls.length N, .bool a.aM.aS, .int .u64 ((a.aM.aK:Nat):Int), .int .i64 a.aM.bi, .slice O a.aM.ae.ls.length P, .bool a.aO.aS, .int .u64 ((a.aO.aK:Nat):Int), .int .i64 a.aO.bi, .slice Q a.aO.ae.ls.length R, .bool a.aP.aS, .int .u64 ((a.aP.aK:Nat):Int), .int .i64 a.aP.bi, .slice S a.aP.ae.ls.length T, .int .u64 ((a.di:Nat):Int), .int .u64 ((a.cB:Nat):Int), .int .u64 ((a.cZ:Nat):Int), .int .u64 ((a.cK:Nat):Int), .int .u64 ((a.cO:Nat):Int), .pointer none] 86,row g a.aa.aj.ls.length n (List.flatMap az.cells h) 60 5,sepL (List.flatMap az.own h)]) (W:List.map bA.abs t=p0.bE.ls) (aY:aP=p.aD.ls.length) (aZ:Ro w D fun w'=>bD w' 6 aj p.aD.ls.length (List.flatMap bC.cells p.aD.ls)) (dn:p.aD.ls.length≤Y∧p.aD.ls.length≤9223372036854775807) (aH:List.map af.abs au=p.ah.ls) (bf:aQ=p.ah.ls.length) (bg:Ro w D fun w'=>bD w' 3 ak p.ah.ls.length (List.flatMap af.cells au)) (dw:p.ah.ls.length≤Z∧p.ah.ls.length≤9223372036854775807) (aI:∀ x ∈ au,Ro w D (fun w'=>bD w' 2 x.av.A x.av.ls.length (List.flatMap aL.cells x.av.ls))∧(x.av.ls.length≤x.av.c∧x.av.ls.length≤9223372036854775807)) (bi:aR=p.ag.ls.length) (bq:Ro w D fun w'=>bD w' 2 av p.ag.ls.length (List.flatMap bv.cells p.ag.ls)) (dx:p.ag.ls.length≤aa∧p.ag.ls.length≤9223372036854775807) (m:List.map az.abs h=a.aa.aj.ls) (eP:a.aa.ag.ls.length≤1000∧a.aa.aj.ls.length≤1000∧a.aa.aG.ls.length≤1000∧a.aB.ls.length≤1000∧p0.bE.ls.length≤100000) (eT:Dk a.aa.aj.ls) (hr:lG p0 p a=(r0,B)):
    Calls Tryz.prog 58 #[vP g0 0, .agg (gN p.aI p.aJ p.eU p.aQ p.dz p.dL p.aU p.ay p.bf p.cz p.aY p.aH p.dG p.bT p.xN p.dI p.bO.bJ p.bO.bW aj aP Y ak aQ Z av aR aa).toArray] w (dW fun v w'=> ∃ (B0ox0:Option Addr) (b0ox0:Nat) (e0ox0:List bA) (B1ox1:Option Addr) (b1ox1:Nat) (e1ox1:List az),v= .tuple #[]∧Own w D w' [blk g0 [vP l 0, .slice B0ox0 r0.bE.ls.length b0ox0] 98,row B0ox0 r0.bE.ls.length b0ox0 (List.flatMap bA.cells e0ox0) 42 21,sepL (List.flatMap bA.own e0ox0),blk l [vI B.aa.au,vU B.aa.ay,vU B.aa.aY,vU B.aa.aH, .slice C a.aa.ag.ls.length E, .slice B1ox1 B.aa.aj.ls.length b1ox1, .slice F a.aa.aG.ls.length G,vU B.bH, .slice I a.aB.ls.length J, .bool B.aR.aS,vU B.aR.aK,vI B.aR.bi, .slice K a.aR.ae.ls.length L, .bool B.aN.aS,vU B.aN.aK,vI B.aN.bi, .slice M a.aN.ae.ls.length N, .bool B.aM.aS,vU B.aM.aK,vI B.aM.bi, .slice O a.aM.ae.ls.length P, .bool B.aO.aS,vU B.aO.aK,vI B.aO.bi, .slice Q a.aO.ae.ls.length R, .bool B.aP.aS,vU B.aP.aK,vI B.aP.bi, .slice S a.aP.ae.ls.length T,vU B.di,vU B.cB,vU B.cZ,vU B.cK,vU B.cO, .pointer none] 86,row B1ox1 B.aa.aj.ls.length b1ox1 (List.flatMap az.cells e1ox1) 60 5,sepL (List.flatMap az.own e1ox1)]∧(List.map bA.abs e0ox0=r0.bE.ls)∧(List.map az.abs e1ox1=B.aa.aj.ls)):=by
 subst aY bf bi
 have di:=aA W
 have dm:=aA aH
 have bE:=aA m
 have dz:=H.rowC (i:=1) rfl
 have bF:=H.rowC (i:=4) rfl
 refine cb Tryz.func58 ?_
 refine sr ?_
 refine dP (gP p aj Y ak Z av aa) 42 H ?_
 intro bu eU dA
 refine nt (EP ?_)
 refine wS [] (E9 Fp) dA ?_
 intro eX bB
 refine qv 0 rfl rfl (qp g0 0 1 rfl (qp g0 0 2 rfl (ql 3 rfl 1 Tryz.isAgg24 rfl rfl rfl (qp bu 8 4 rfl (ql 5 rfl 0 Tryz.isAgg28 rfl rfl rfl ?_)))))
 refine GX.do 6 rfl (by kernel_rfl) (Fe Tryz.call95 rfl ?_ (fun _ _ k=>k))
 refine cb Tryz.func95 ?_
 refine sr (Az rfl (Ar rfl (Mz rfl (Kz (vP l 0) (Kz (vP l 0) (Kz (vP l 5) (Lz (.slice g a.aa.aj.ls.length n) bB 4 Tryz.isAgg30 (Mz rfl ?_))))))))
 obtain⟨⟨d,ae⟩,ay⟩:∃ q:Int × Bool,bX a.aa.aj.ls p.bf=q:=⟨_,rfl⟩
 obtain⟨eY,bG,dV,bH,aS⟩:=EU bB
 refine cl Tryz.call132 (gV _ _ g a.aa.aj.ls.length n h a.aa.aj.ls p.bf d ae bG m (aS _ 5 _ rfl aT) (fun x9 h9=>⟨aS _ 6 _ rfl (ax (List.mem_flatMap.2 ⟨x9,h9, .head _⟩) aT),bz (φ:=fun _=>_) bB (i:=6) rfl (ax (List.mem_flatMap.2 ⟨x9,h9, .head _⟩) bn)⟩) rfl (by omega) ay) ?_
 rintro _ dB ⟨rfl,bM,aU,aV⟩
 have X:=bH _ _ bM
 replace aU:0≤d∧d≤((a.aa.aj.ls.length:Nat):Int):=aU
 replace aV:Bool.toNat ae=0∨d < ((a.aa.aj.ls.length:Nat):Int):=aV
 refine Kz (vI d) (Kz (.bool ae) (Az rfl (An rfl (rt (Fin.res (lS rfl rfl rfl) ?_)))))
 refine⟨.inr ⟨_,X⟩, ?_⟩
 refine qv 7 rfl rfl (qk (vI d) 8 rfl (qk (.bool ae) 9 rfl (qa 10 rfl rfl (qa 11 rfl rfl (qn (ER (EP (sr (Mz rfl (Kz (.bool (!ae)) (nt ?_)))))))))))
 rcases IW (ae) with ag | ag
 have h39t:Bool.toNat ae=1:=by rw [ag]; rfl
 refine jF (cn ag) (sk (sr (Mz rfl (Kz (vP g0 0) (Kz (vP g0 0) (Lz (vP l 0) X 1 Tryz.isAgg24 (Kz (vP l 0) (Kz (vP l 0) (Kz (vP l 5) (Lz (.slice g a.aa.aj.ls.length n) X 4 Tryz.isAgg30 (fw (vJ (Int.toNat d)) (EQ (e:=d) (E5 rfl) (by omega)) ?_)))))))))))
 obtain⟨b,U⟩:=dK (ls:=h) (i:=Int.toNat d) az.len (by decide) (X.rds (i:=5) rfl) (by first | omega | (simp; done) | (simp; omega))
 have aJ:=eQ m U
 have dX:b.au.ls.length≤b.au.c∧b.au.ls.length≤9223372036854775807:=bz X (i:=6) rfl (φ:=fun _=>_) (ax (List.mem_flatMap.2 ⟨b,List.mem_of_getElem? U, .head _⟩) bn)
 have dY:b.au.ls.length≤1000:=CV (by assumption) aJ
 refine fw (.pointer (some ⟨ab g,ao g+(Int.toNat d) *5,none⟩)) (ET (kv) rfl rfl ((X.rds (i:=5) rfl).addr (i:=Int.toNat d) (by omega)) (by omega)) (Ar rfl (Mz rfl (Mz rfl (Kz (.pointer (some ⟨ab g,ao g+(Int.toNat d) *5,none⟩)) (Kz (.pointer (some ⟨ab g,ao g+(Int.toNat d) *5+4,none⟩)) (fw (.slice b.au.A b.au.ls.length b.au.c) (EY rfl (bZ.one Tryz.isAgg58 (((X.rds (i:=5) rfl).elem az.len U (by decide)).at_ (k:=4) rfl))) (Kz (.func (.func 97) #[] #[vP bu 0]) ?_)))))))
 have dD:=X.pf [6]
 have bN:Own w D dB (row b.au.A b.au.ls.length b.au.c (List.flatMap (eI .i64) b.au.ls) 3 1::sepL (List.flatMap az.own (List.take (Int.toNat d) h)++List.flatMap az.own (List.drop (Int.toNat d+1) h))::_):=FW (f:=az.own) (i:=Int.toNat d) U dD
 have dZ:=bN.rowC (i:=0) rfl
 have dE:=bN.pf [0,2]
 obtain⟨j,aK⟩:∃ q,iq b.au.ls p=q:=⟨_,rfl⟩
 obtain⟨eZ,bO,aB,bR,d9⟩:=Fv dE
 refine cl Tryz.call96 (qF _ _ b.au.A b.au.ls.length b.au.c b.au.ls bu p aj Y ak Z au av aa j bO rfl (by omega) (aB _ aZ) (show p.aD.ls.length≤Y∧p.aD.ls.length≤9223372036854775807 from by omega) aH (aB _ bg) (show p.ah.ls.length≤Z∧p.ah.ls.length≤9223372036854775807 from by omega) (fun x9 h9=>⟨aB _ (aI x9 h9).1,(aI x9 h9).2⟩) (aB _ bq) (show p.ag.ls.length≤aa∧p.ag.ls.length≤9223372036854775807 from by omega) (by omega) aK) ?_
 rintro _ dG ⟨r,s,rfl,bS,aW⟩
 have bT:=bR _ _ bS
 have ed:=bT.rowC (i:=0) rfl
 replace aW:j.length≤b.au.ls.length:=aW
 refine Kz (.pointer (some ⟨ab g,ao g+(Int.toNat d) *5,none⟩)) (Kz (.pointer (some ⟨ab g,ao g+(Int.toNat d) *5+4,none⟩)) ?_)
 have dH:=bT.pf [0,2]
 have dI:Own w D dG (sepL (List.flatMap az.own (List.set h (Int.toNat d) (az.mk b.bf b.aQ b.ay b.aU (Sv.mk r s j))))::_):=FN (f:=az.own) (y:=(az.mk b.bf b.aQ b.ay b.aU (Sv.mk r s j))) U dH
 have dJ:=dI.pf [6]
 refine F6 (Do.storeRow (vs:= [.slice r j.length s]) (o:=(Int.toNat d) *5+4) (q:=ao g+(Int.toNat d) *5+4) dJ rfl (by omega) rfl Tryz.sizeOf58 rfl rfl (IQ rfl) (iL az.len U (IQ rfl)) (jA (y:=(az.mk b.bf b.aQ b.ay b.aU (Sv.mk r s j))) az.len rfl (IQ rfl) U) ?_)
 intro bU dL
 have ek:List.length (List.set h (Int.toNat d) (az.mk b.bf b.aQ b.ay b.aU (Sv.mk r s j)))=List.length (List.set a.aa.aj.ls (Int.toNat d) (bL.mk b.bf b.aQ b.ay b.aU (Ll.mk j))):=aA (iC m rfl)
 have eu:List.length (List.set a.aa.aj.ls (Int.toNat d) (bL.mk b.bf b.aQ b.ay b.aU (Ll.mk j)))=a.aa.aj.ls.length:=List.length_set
 refine nt (EP ?_)
 have aM:=dL.px [] [2] []
 refine EO (Mz rfl (Kz (.pointer (some ⟨ab g,ao g+(Int.toNat d) *5,none⟩)) (Kz (.pointer (some ⟨ab g,ao g+(Int.toNat d) *5+4,none⟩)) ?_)))
 obtain⟨V,aD⟩:=dK (ls:=(List.set h (Int.toNat d) (az.mk b.bf b.aQ b.ay b.aU (Sv.mk r s j)))) (i:=Int.toNat d) az.len (by decide) (aM.rds (i:=0) rfl) (by first | omega | (simp; done) | (simp; omega))
 have aX:=eQ (iC m rfl) aD
 have eB:V.au.ls.length≤V.au.c∧V.au.ls.length≤9223372036854775807:=bz aM (i:=1) rfl (φ:=fun _=>_) (ax (List.mem_flatMap.2 ⟨V,List.mem_of_getElem? aD, .head _⟩) bn)
 refine fw (.slice V.au.A V.au.ls.length V.au.c) (EY rfl (bZ.one Tryz.isAgg58 (((aM.rds (i:=0) rfl).elem az.len aD (by decide)).at_ (k:=4) rfl))) (Kz (vJ V.au.ls.length) (Kz (.bool (decide (((V.au.ls.length:Nat):Int)=0))) (nt ?_)))
 by_cases aO:((V.au.ls.length:Nat):Int)=0
 refine jT (dT aO) ?_
 have aN:a.aa.aj.ls.length=List.length (List.set a.aa.aj.ls (Int.toNat d) (bL.mk b.bf b.aQ b.ay b.aU (Ll.mk j))):=by first | omega | (simp only [List.length_set]; done) | (simp only [List.length_set,List.length_append,List.length_cons,List.length_nil,List.length_take,List.length_drop,List.length_replicate]; omega)
 have dM:Own w D bU [row g (List.length (List.set a.aa.aj.ls (Int.toNat d) (bL.mk b.bf b.aQ b.ay b.aU (Ll.mk j)))) n (List.flatMap az.cells (List.set h (Int.toNat d) (az.mk b.bf b.aQ b.ay b.aU (Sv.mk r s j)))) 60 5,sepL (List.flatMap az.own (List.set h (Int.toNat d) (az.mk b.bf b.aQ b.ay b.aU (Sv.mk r s j)))),blk g0 [vP l 0, .slice u p0.bE.ls.length z] 98,row u p0.bE.ls.length z (List.flatMap bA.cells t) 42 21,sepL (List.flatMap bA.own t),blk l [vI a.aa.au,vU a.aa.ay,vU a.aa.aY,vU a.aa.aH, .slice C a.aa.ag.ls.length E, .slice g (List.length (List.set a.aa.aj.ls (Int.toNat d) (bL.mk b.bf b.aQ b.ay b.aU (Ll.mk j)))) n, .slice F a.aa.aG.ls.length G,vU a.bH, .slice I a.aB.ls.length J, .bool a.aR.aS,vU a.aR.aK,vI a.aR.bi, .slice K a.aR.ae.ls.length L, .bool a.aN.aS,vU a.aN.aK,vI a.aN.bi, .slice M a.aN.ae.ls.length N, .bool a.aM.aS,vU a.aM.aK,vI a.aM.bi, .slice O a.aM.ae.ls.length P, .bool a.aO.aS,vU a.aO.aK,vI a.aO.bi, .slice Q a.aO.ae.ls.length R, .bool a.aP.aS,vU a.aP.aK,vI a.aP.bi, .slice S a.aP.ae.ls.length T,vU a.di,vU a.cB,vU a.cZ,vU a.cK,vU a.cO, .pointer none] 86]:=by rw [← aN]; exact aM
 have dN:=dM.pf [2,5]
 refine o5 [19] Fp dN ?_
 intro fe dO
 refine qv 0 rfl rfl (qp g0 0 1 rfl (qp g0 0 2 rfl (ql 3 rfl 0 Tryz.isAgg24 rfl rfl rfl (qv 4 rfl rfl (qp g0 0 5 rfl (qp g0 0 6 rfl (ql 7 rfl 0 Tryz.isAgg24 rfl rfl rfl (qp l 0 8 rfl (qp l 0 9 rfl (qp l 5 10 rfl (ql 11 rfl 1 Tryz.isAgg30 rfl rfl rfl (qv 12 rfl rfl (qv 13 rfl rfl (qt (v:=vI (d+1)) 14 rfl (fun _ _=>EQ (e:=IntKind.i64.wrap (d+1)) yk (by rw [IR _ (by omega)])) ?_))))))))))))))
 have dQ:=dO.pf [2,3]
 obtain⟨fo,bV,eD,bW,eF⟩:=Fv dQ
 refine qd 15 rfl (Fe Tryz.call98 rfl (uS _ _ g (List.length (List.set a.aa.aj.ls (Int.toNat d) (bL.mk b.bf b.aQ b.ay b.aU (Ll.mk j)))) n (List.set h (Int.toNat d) (az.mk b.bf b.aQ b.ay b.aU (Sv.mk r s j))) (List.set a.aa.aj.ls (Int.toNat d) (bL.mk b.bf b.aQ b.ay b.aU (Ll.mk j))) d (d+1) (Int.toNat d) V bV (by omega) (iC m rfl) (by omega) (by omega) (by omega) aD) ?_)
 rintro _ fq ⟨bY,cu,rfl,cz⟩
 have cB:=bW _ _ cz
 have eG:List.length (List.take (Int.toNat d) (List.set h (Int.toNat d) (az.mk b.bf b.aQ b.ay b.aU (Sv.mk r s j)))++List.drop ((Int.toNat d)+1) (List.set h (Int.toNat d) (az.mk b.bf b.aQ b.ay b.aU (Sv.mk r s j))))=List.length (List.take (Int.toNat d) (List.set a.aa.aj.ls (Int.toNat d) (bL.mk b.bf b.aQ b.ay b.aU (Ll.mk j)))++List.drop ((Int.toNat d)+1) (List.set a.aa.aj.ls (Int.toNat d) (bL.mk b.bf b.aQ b.ay b.aU (Ll.mk j)))):=by exact aA (oM (iC m rfl))
 have eH:List.length (List.take (Int.toNat d) (List.set a.aa.aj.ls (Int.toNat d) (bL.mk b.bf b.aQ b.ay b.aU (Ll.mk j)))++List.drop ((Int.toNat d)+1) (List.set a.aa.aj.ls (Int.toNat d) (bL.mk b.bf b.aQ b.ay b.aU (Ll.mk j))))+1=List.length (List.set a.aa.aj.ls (Int.toNat d) (bL.mk b.bf b.aQ b.ay b.aU (Ll.mk j))):=by simp only [List.length_append,List.length_take,List.length_drop]; omega
 have eO:=cB.rowC (i:=2) rfl
 have cK:=cB.pf [3,4]
 refine⟨.inr ⟨_,cK⟩, ?_⟩
 refine qp l 0 16 rfl (qp l 0 17 rfl (qp l 5 18 rfl ?_))
 have dR:=cK.pf [1]
 refine qe 19 rfl (Do.store (vs:= [.slice bY (List.length (List.take (Int.toNat d) (List.set a.aa.aj.ls (Int.toNat d) (bL.mk b.bf b.aQ b.ay b.aU (Ll.mk j)))++List.drop ((Int.toNat d)+1) (List.set a.aa.aj.ls (Int.toNat d) (bL.mk b.bf b.aQ b.ay b.aU (Ll.mk j))))) cu]) (o:=5) dR rfl rfl Tryz.sizeOf30 rfl rfl rfl rfl ?_)
 intro fu dS
 refine⟨.inl (by kernel_rfl), ?_⟩
 refine qn (Ff (res0 rfl) ?_)
 have dU:=dS.px [] [4] [0,2,3]
 obtain⟨rfl,rfl⟩:=fT (hr.symm.trans (show _=(p0,aC.mk (dC.mk a.aa.au a.aa.ay a.aa.aY a.aa.aH (Ll.mk a.aa.ag.ls) (Ll.mk (List.take (Int.toNat d) (List.set a.aa.aj.ls (Int.toNat d) (bL.mk b.bf b.aQ b.ay b.aU (Ll.mk j)))++List.drop ((Int.toNat d)+1) (List.set a.aa.aj.ls (Int.toNat d) (bL.mk b.bf b.aQ b.ay b.aU (Ll.mk j))))) (Ll.mk a.aa.aG.ls)) a.bH (Ll.mk a.aB.ls) a.aR a.aN a.aM a.aO a.aP a.di a.cB a.cZ a.cK a.cO) from et (ai ay) (et (ip ag) (et (ai (bI aJ)) (et (ai aK) (et (ai (bI aX)) (ip aO)))))))
 exact⟨u,z,t,bY,cu,(List.take (Int.toNat d) (List.set h (Int.toNat d) (az.mk b.bf b.aQ b.ay b.aU (Sv.mk r s j)))++List.drop ((Int.toNat d)+1) (List.set h (Int.toNat d) (az.mk b.bf b.aQ b.ay b.aU (Sv.mk r s j)))),(by first | rfl | (rw [← aN]; done) | (rw [← aN]; rfl)),dU,W,(oM (iC m rfl))⟩
 refine jF (dF aO) (Fs (Ff (res0 rfl) ?_))
 have ah:a.aa.aj.ls.length=List.length (List.set a.aa.aj.ls (Int.toNat d) (bL.mk b.bf b.aQ b.ay b.aU (Ll.mk j))):=by first | omega | (simp only [List.length_set]; done) | (simp only [List.length_set,List.length_append,List.length_cons,List.length_nil,List.length_take,List.length_drop,List.length_replicate]; omega)
 have cO:Own w D bU [row g (List.length (List.set a.aa.aj.ls (Int.toNat d) (bL.mk b.bf b.aQ b.ay b.aU (Ll.mk j)))) n (List.flatMap az.cells (List.set h (Int.toNat d) (az.mk b.bf b.aQ b.ay b.aU (Sv.mk r s j)))) 60 5,sepL (List.flatMap az.own (List.set h (Int.toNat d) (az.mk b.bf b.aQ b.ay b.aU (Sv.mk r s j)))),blk g0 [vP l 0, .slice u p0.bE.ls.length z] 98,row u p0.bE.ls.length z (List.flatMap bA.cells t) 42 21,sepL (List.flatMap bA.own t),blk l [vI a.aa.au,vU a.aa.ay,vU a.aa.aY,vU a.aa.aH, .slice C a.aa.ag.ls.length E, .slice g (List.length (List.set a.aa.aj.ls (Int.toNat d) (bL.mk b.bf b.aQ b.ay b.aU (Ll.mk j)))) n, .slice F a.aa.aG.ls.length G,vU a.bH, .slice I a.aB.ls.length J, .bool a.aR.aS,vU a.aR.aK,vI a.aR.bi, .slice K a.aR.ae.ls.length L, .bool a.aN.aS,vU a.aN.aK,vI a.aN.bi, .slice M a.aN.ae.ls.length N, .bool a.aM.aS,vU a.aM.aK,vI a.aM.bi, .slice O a.aM.ae.ls.length P, .bool a.aO.aS,vU a.aO.aK,vI a.aO.bi, .slice Q a.aO.ae.ls.length R, .bool a.aP.aS,vU a.aP.aK,vI a.aP.bi, .slice S a.aP.ae.ls.length T,vU a.di,vU a.cB,vU a.cZ,vU a.cK,vU a.cO, .pointer none] 86]:=by rw [← ah]; exact aM
 have cZ:=cO.pb [0,1]
 obtain⟨rfl,rfl⟩:=fT (hr.symm.trans (show _=(p0,aC.mk (dC.mk a.aa.au a.aa.ay a.aa.aY a.aa.aH (Ll.mk a.aa.ag.ls) (Ll.mk (List.set a.aa.aj.ls (Int.toNat d) (bL.mk b.bf b.aQ b.ay b.aU (Ll.mk j)))) (Ll.mk a.aa.aG.ls)) a.bH (Ll.mk a.aB.ls) a.aR a.aN a.aM a.aO a.aP a.di a.cB a.cZ a.cK a.cO) from et (ai ay) (et (ip ag) (et (ai (bI aJ)) (et (ai aK) (et (ai (bI aX)) (iN aO)))))))
 exact⟨u,z,t,g,n,(List.set h (Int.toNat d) (az.mk b.bf b.aQ b.ay b.aU (Sv.mk r s j))),(by first | rfl | (rw [← ah]; done) | (rw [← ah]; rfl)),cZ,W,(iC m rfl)⟩
 have h39t:Bool.toNat ae=0:=by rw [ag]; rfl
 refine jT (cn ag) (rt (tR (Fin.res (res0 rfl) ?_)))
 have df:=X.px [] [0] []
 obtain⟨rfl,rfl⟩:=fT (hr.symm.trans (show _=(p0,a) from et (ai ay) (fU ag)))
 exact⟨u,z,t,g,n,h,rfl,df,W,m⟩
def gG:List fV→List Int→(List Int)
  | [],a=>a
  | b::c,a=>gG c (a++ [b.dX])
def kg (a:dM):(List Int):=
 bnd (gG a.aF.ls ([])) fun sLrL=>sLrL
theorem qy (w:World) (D:Nat→Prop) (L:Nat) (a:dM) (j:Option Addr) (l:Nat) (f:Option Addr) (g:Nat) (u:List bG) (n:Option Addr) (o:Nat) (p:Option Addr) (r:Nat) (B:List bM) (W:List Int) (H:Own w D w [blk L (AZ a j l f g n o p r) 107]) (Z:Ro w D fun w'=>bD w' 6 j a.bU.ls.length (List.flatMap bC.cells a.bU.ls)) (aa:a.bU.ls.length≤l∧a.bU.ls.length≤9223372036854775807) (C:List.map bG.abs u=a.aF.ls) (t:Ro w D fun w'=>bD w' 3 f a.aF.ls.length (List.flatMap bG.cells u)) (ae:a.aF.ls.length≤g∧a.aF.ls.length≤9223372036854775807) (E:∀ x ∈ u,Ro w D (fun w'=>bD w' 6 x.aD.A x.aD.ls.length (List.flatMap bC.cells x.aD.ls))∧(x.aD.ls.length≤x.aD.c∧x.aD.ls.length≤9223372036854775807)∧Ro w D (fun w'=>bD w' 1 x.aJ.A x.aJ.ls.length (List.flatMap (eI .i64) x.aJ.ls))∧(x.aJ.ls.length≤x.aJ.c∧x.aJ.ls.length≤9223372036854775807)) (ag:Ro w D fun w'=>bD w' 1 n a.bF.ls.length (List.flatMap eL a.bF.ls)) (ah:a.bF.ls.length≤o∧a.bF.ls.length≤9223372036854775807) (M:List.map bM.abs B=a.ae.ls) (aj:Ro w D fun w'=>bD w' 1 p a.ae.ls.length (List.flatMap (FJ (β:=af)) B)) (ak:a.ae.ls.length≤r∧a.ae.ls.length≤9223372036854775807) (au:∀ x ∈ B,Ro w D (fun w'=>bD w' 3 x.A x.ls.length (List.flatMap af.cells x.ls))∧(x.ls.length≤x.c∧x.ls.length≤9223372036854775807)∧(∀ O ∈ x.ls,Ro w D (fun w'=>bD w' 2 O.av.A O.av.ls.length (List.flatMap aL.cells O.av.ls))∧(O.av.ls.length≤O.av.c∧O.av.ls.length≤9223372036854775807))) (aS:a.aF.ls.length≤1000) (hr:kg a=W):
    Calls Tryz.prog 107 #[vP L 0] w (dW fun v w'=> ∃ (B0:Option Addr) (b0:Nat),v= .slice B0 W.length b0∧Own w D w' [row B0 W.length b0 (List.flatMap (eI .i64) W) 3 1,blk L (AZ a j l f g n o p r) 107]):=by
 have X:=aA C
 have Y:=aA M
 refine cb Tryz.func107 ?_
 refine sr (Ar rfl (An rfl (EP (sr (Mz rfl (Kz (vP L 0) (Kz (vP L 5) (Lz (.slice f a.aF.ls.length g) H 0 Tryz.isAgg103 (Kz (vJ a.aF.ls.length) (Mn rfl (bo ?_)))))))))))
 have av:Own w D w [row none 0 0 (List.flatMap (eI .i64) ([])) 3 1,blk L (AZ a j l f g n o p r) 107]:=H.free (fo 3 1)
 have ax:=av.pb [0]
 obtain⟨ay,F⟩:=rD fun(I:Option Addr) (J:Nat) (d:List Int) (b:Nat) (w':World)=>Own w D w' [blk L (AZ a j l f g n o p r) 107,row I d.length J (List.flatMap (eI .i64) d) 3 1]∧b≤a.aF.ls.length∧d.length=b∧d.length≤b∧gG a.aF.ls ([])=gG (List.drop b a.aF.ls) d
 refine Wp.loop (fun i:(Option Addr) × Nat × (List Int) × Nat=> [(3, .slice i.1 i.2.2.1.length i.2.1),(11,vJ i.2.2.2),(10,vJ a.aF.ls.length),(9, .slice f a.aF.ls.length g),(2, .slice none 0 0)]) ay (fun i=>a.aF.ls.length - i.2.2.2) (none,0, [],0) ⟨rfl,rfl,rfl,rfl,rfl,trivial⟩ (F.2 ⟨ax,(show 0≤a.aF.ls.length∧0=0∧0≤0∧gG a.aF.ls ([])=gG (List.drop 0 a.aF.ls) ([]) from ⟨by omega,by omega,by omega,rfl⟩)⟩) ?_
 rintro ⟨I,J,d,b⟩ aT P
 show Wp _ _ _ [(3, .slice I d.length J),(11,vJ b),(10,vJ a.aF.ls.length),(9, .slice f a.aF.ls.length g),(2, .slice none 0 0)] _ _
 obtain⟨G,aM,aN,aO,K⟩:=F.1 P
 refine sr (Kz (.bool (decide (((b:Nat):Int) < ((a.aF.ls.length:Nat):Int)))) (nt (EP ?_)))
 by_cases Q:((b:Nat):Int) < ((a.aF.ls.length:Nat):Int)
 obtain⟨h,z⟩:=dK (ls:=u) (i:=b) bG.len (by decide) (G.ro t) (by first | omega | (simp; done) | (simp; omega))
 have R:=eQ C z
 have aP:=(E _ (List.mem_of_getElem? z)).2.1
 have aQ:=(E _ (List.mem_of_getElem? z)).2.2.2
 have S:=drop_at R
 refine jT (dT Q) (sk (EP (bo (sr (fw (.pointer (some ⟨ab f,ao f+b *3,none⟩)) (ET (sI) rfl rfl ((G.ro t).addr (i:=b) (by omega)) (by omega)) (fw (.agg (bG.cells h).toArray) (EY rfl (Fb (cs:=(bG.cells h)) Tryz.isAgg172 Tryz.sizeOf172 ((G.ro t).elem bG.len z (by decide)))) ?_))))))
 refine dP [vI 0, .slice none 0 0, .slice none 0 0] 172 G ?_
 intro az aU aB
 refine dO (bG.cells h) 0 aB Tryz.sizeOf172 ?_
 intro aV T
 refine nt (EO (Mz rfl (Kz (vP az 0) (Lz (vI h.dX) T 0 Tryz.isAgg3 ?_))))
 refine kG [vI h.dX] 3 1 1 T ?_
 intro aC aW N
 replace N:=Fx (y:=row aC 1 1 (List.flatMap (eI .i64) ([h.dX])) 3 1) rfl N
 have U:=N.pf [3]
 refine WL.do rfl (Fy (k:=d.length) (m:=1) (mQ) U rfl rfl (iP Tryz.underlying58 (U.rds (i:=1) rfl) (fA uM ([h.dX]))) rfl (by omega) (s:=List.length (d++ [h.dX])) (by first | omega | (simp only [List.length_append,List.length_cons,List.length_nil] <;> omega)) (List.flatMap_append).symm ?_)
 intro aD aF aX aG
 have aR:List.length (d++ [h.dX])=d.length+1:=by simp only [List.length_append,List.length_cons,List.length_nil]
 refine Az rfl (WL.nil (bN (ER (EO (fw (vJ (b+1)) (EQ (e:=IntKind.i64.wrap (((b:Nat):Int)+1)) yk (by rw [IR _ (by omega)]; omega)) (Mz rfl (WL.nil ?_)))))))
 have aH:=aG.pk [3,0]
 exact E8 (aD,aF,(d++ [h.dX]),b+1) ⟨rfl,rfl,rfl,rfl,rfl,trivial⟩ (F.2 ⟨aH,by omega,by omega,by omega,et (K) (et (congrArg (fun q=>gG q d) S) rfl)⟩) (by show a.aF.ls.length - (b+1) < a.aF.ls.length - b; omega)
 refine jF (dF Q) (Wp.exit (EX ?_))
 have V:gG a.aF.ls ([])=d:=et (K) (et (congrArg (fun q=>gG q d) (eD (ls:=a.aF.ls) (i:=b) (by omega))) rfl)
 refine EX (Fg (ER (sr (Mz rfl (An rfl (rt (rs ?_)))))))
 have aI:=G.pb [0]
 obtain rfl:_=d:=hr.symm.trans (ai V)
 exact⟨I,J,rfl,aI⟩
theorem zy:∀ (l:List fV) (o:List Int),List.length (gG l o)=o.length+l.length
  | [],o=>rfl
  | x::q,o=>by
    simp only [gG]
    rw [zy q]
    simp only [List.length_append,List.length_cons,List.length_nil]; omega
theorem xw {x:dM} {r:List Int} (h:kg x=r):r.length=x.aF.ls.length:=by
 rw [← h]; exact(zy x.aF.ls []).trans (Nat.zero_add _)
def gy (g:bQ) (f:Int) (a:aC):bQ × aC:=
 bnd (List.getD a.aB.ls (Int.toNat f) default) fun c=>bnd (d9 g c.aW c.aK 2 ([]) (aC.mk a.aa a.bH (Ll.mk (List.take (Int.toNat f) a.aB.ls++List.drop ((Int.toNat f)+1) a.aB.ls)) a.aR a.aN a.aM a.aO a.aP a.di a.cB a.cZ a.cK a.cO)) fun b=>bnd (kg (dM.mk c.bq c.aW c.aK c.dA (Ll.mk c.bU.ls) (Ll.mk c.aF.ls) (Ll.mk c.bF.ls) (Ll.mk c.ae.ls) c.ed)) fun d=>bnd (fu b.1 c.bq d false) fun e=>(e,aC.mk (dC.mk b.2.aa.au b.2.aa.ay b.2.aa.aY b.2.aa.aH (Ll.mk a.aa.ag.ls) (Ll.mk a.aa.aj.ls) (Ll.mk a.aa.aG.ls)) b.2.bH (Ll.mk (List.take (Int.toNat f) a.aB.ls++List.drop ((Int.toNat f)+1) a.aB.ls)) b.2.aR b.2.aN b.2.aM b.2.aO b.2.aP b.2.di b.2.cB b.2.cZ b.2.cK b.2.cO)
set_option maxHeartbeats 4000000 in
theorem mJ (w:World) (D:Nat→Prop) (g0:Nat) (p0:bQ) (ak:Option Addr) (au:Nat) (ah:List bA) (m:Int) (g:Nat) (a:aC) (z:Option Addr) (B:Nat) (C:Option Addr) (E:Nat) (F:Option Addr) (G:Nat) (k:Option Addr) (p:Nat) (d:List bB) (I:Option Addr) (J:Nat) (r:List af) (K:Option Addr) (L:Nat) (s:List af) (M:Option Addr) (N:Nat) (t:List af) (O:Option Addr) (P:Nat) (u:List af) (Q:Option Addr) (R:Nat) (x:List af) (r0:bQ) (f:aC) (H:Own w D w [blk g0 [.pointer (some ⟨g,0,none⟩), .slice ak p0.bE.ls.length au] 98,row ak p0.bE.ls.length au (List.flatMap bA.cells ah) 42 21,sepL (List.flatMap bA.own ah),blk g [.int .i64 a.aa.au, .int .u64 ((a.aa.ay:Nat):Int), .int .u64 ((a.aa.aY:Nat):Int), .int .u64 ((a.aa.aH:Nat):Int), .slice z a.aa.ag.ls.length B, .slice C a.aa.aj.ls.length E, .slice F a.aa.aG.ls.length G, .int .u64 ((a.bH:Nat):Int), .slice k a.aB.ls.length p, .bool a.aR.aS, .int .u64 ((a.aR.aK:Nat):Int), .int .i64 a.aR.bi, .slice I a.aR.ae.ls.length J, .bool a.aN.aS, .int .u64 ((a.aN.aK:Nat):Int), .int .i64 a.aN.bi, .slice K a.aN.ae.ls.length L, .bool a.aM.aS, .int .u64 ((a.aM.aK:Nat):Int), .int .i64 a.aM.bi, .slice M a.aM.ae.ls.length N, .bool a.aO.aS, .int .u64 ((a.aO.aK:Nat):Int), .int .i64 a.aO.bi, .slice O a.aO.ae.ls.length P, .bool a.aP.aS, .int .u64 ((a.aP.aK:Nat):Int), .int .i64 a.aP.bi, .slice Q a.aP.ae.ls.length R, .int .u64 ((a.di:Nat):Int), .int .u64 ((a.cB:Nat):Int), .int .u64 ((a.cZ:Nat):Int), .int .u64 ((a.cK:Nat):Int), .int .u64 ((a.cO:Nat):Int), .pointer none] 86,row k a.aB.ls.length p (List.flatMap bB.cells d) 107 9,sepL (List.flatMap bB.own d),row I a.aR.ae.ls.length J (List.flatMap af.cells r) 149 3,sepL (List.flatMap af.own r),row K a.aN.ae.ls.length L (List.flatMap af.cells s) 149 3,sepL (List.flatMap af.own s),row M a.aM.ae.ls.length N (List.flatMap af.cells t) 149 3,sepL (List.flatMap af.own t),row O a.aO.ae.ls.length P (List.flatMap af.cells u) 149 3,sepL (List.flatMap af.own u),row Q a.aP.ae.ls.length R (List.flatMap af.cells x) 149 3,sepL (List.flatMap af.own x)]) (av:List.map bA.abs ah=p0.bE.ls) (h:List.map bB.abs d=a.aB.ls) (S:List.map af.abs r=a.aR.ae.ls) (T:List.map af.abs s=a.aN.ae.ls) (U:List.map af.abs t=a.aM.ae.ls) (V:List.map af.abs u=a.aO.ae.ls) (W:List.map af.abs x=a.aP.ae.ls) (iw:a.aa.ag.ls.length≤1000∧a.aa.aj.ls.length≤1000∧a.aa.aG.ls.length≤1000∧a.aB.ls.length≤1000∧p0.bE.ls.length≤100000) (iy:Ak a.aB.ls) (iA:0≤m∧m < ((a.aB.ls.length:Nat):Int)) (hr:gy p0 m a=(r0,f)):
    Calls Tryz.prog 63 #[vP g0 0,vI m] w (dW fun v w'=> ∃ (B0ox0:Option Addr) (b0ox0:Nat) (e0ox0:List bA) (B1ox3:Option Addr) (b1ox3:Nat) (e1ox3:List bB) (B1ox4:Option Addr) (b1ox4:Nat) (e1ox4:List af) (B1ox5:Option Addr) (b1ox5:Nat) (e1ox5:List af) (B1ox6:Option Addr) (b1ox6:Nat) (e1ox6:List af) (B1ox7:Option Addr) (b1ox7:Nat) (e1ox7:List af) (B1ox8:Option Addr) (b1ox8:Nat) (e1ox8:List af),v= .tuple #[]∧Own w D w' [blk g0 [vP g 0, .slice B0ox0 r0.bE.ls.length b0ox0] 98,row B0ox0 r0.bE.ls.length b0ox0 (List.flatMap bA.cells e0ox0) 42 21,sepL (List.flatMap bA.own e0ox0),blk g [vI f.aa.au,vU f.aa.ay,vU f.aa.aY,vU f.aa.aH, .slice z a.aa.ag.ls.length B, .slice C a.aa.aj.ls.length E, .slice F a.aa.aG.ls.length G,vU f.bH, .slice B1ox3 f.aB.ls.length b1ox3, .bool f.aR.aS,vU f.aR.aK,vI f.aR.bi, .slice B1ox4 f.aR.ae.ls.length b1ox4, .bool f.aN.aS,vU f.aN.aK,vI f.aN.bi, .slice B1ox5 f.aN.ae.ls.length b1ox5, .bool f.aM.aS,vU f.aM.aK,vI f.aM.bi, .slice B1ox6 f.aM.ae.ls.length b1ox6, .bool f.aO.aS,vU f.aO.aK,vI f.aO.bi, .slice B1ox7 f.aO.ae.ls.length b1ox7, .bool f.aP.aS,vU f.aP.aK,vI f.aP.bi, .slice B1ox8 f.aP.ae.ls.length b1ox8,vU f.di,vU f.cB,vU f.cZ,vU f.cK,vU f.cO, .pointer none] 86,row B1ox3 f.aB.ls.length b1ox3 (List.flatMap bB.cells e1ox3) 107 9,sepL (List.flatMap bB.own e1ox3),row B1ox4 f.aR.ae.ls.length b1ox4 (List.flatMap af.cells e1ox4) 149 3,sepL (List.flatMap af.own e1ox4),row B1ox5 f.aN.ae.ls.length b1ox5 (List.flatMap af.cells e1ox5) 149 3,sepL (List.flatMap af.own e1ox5),row B1ox6 f.aM.ae.ls.length b1ox6 (List.flatMap af.cells e1ox6) 149 3,sepL (List.flatMap af.own e1ox6),row B1ox7 f.aO.ae.ls.length b1ox7 (List.flatMap af.cells e1ox7) 149 3,sepL (List.flatMap af.own e1ox7),row B1ox8 f.aP.ae.ls.length b1ox8 (List.flatMap af.cells e1ox8) 149 3,sepL (List.flatMap af.own e1ox8)]∧(List.map bA.abs e0ox0=r0.bE.ls)∧(List.map bB.abs e1ox3=f.aB.ls)∧(List.map af.abs e1ox4=f.aR.ae.ls)∧(List.map af.abs e1ox5=f.aN.ae.ls)∧(List.map af.abs e1ox6=f.aM.ae.ls)∧(List.map af.abs e1ox7=f.aO.ae.ls)∧(List.map af.abs e1ox8=f.aP.ae.ls)):=by
 have dS:=aA av
 have bH:=aA h
 have bJ:=aA S
 have bK:=aA T
 have bL:=aA U
 have bN:=aA V
 have bO:=aA W
 have dU:=H.rowC (i:=1) rfl
 have bP:=H.rowC (i:=4) rfl
 have bR:=H.rowC (i:=6) rfl
 have bS:=H.rowC (i:=8) rfl
 have bT:=H.rowC (i:=10) rfl
 have bU:=H.rowC (i:=12) rfl
 have bV:=H.rowC (i:=14) rfl
 refine cb Tryz.func63 ?_
 refine sr (Mz rfl (Kz (vP g0 0) (Kz (vP g0 0) (Lz (vP g 0) H 0 Tryz.isAgg24 (Kz (vP g 0) (Kz (vP g 8) (Lz (.slice k a.aB.ls.length p) H 3 Tryz.isAgg79 (fw (vJ (Int.toNat m)) (EQ (e:=m) (E5 rfl) (by omega)) ?_))))))))
 obtain⟨b,y⟩:=dK (ls:=d) (i:=Int.toNat m) bB.len (by decide) (H.rds (i:=4) rfl) (by first | omega | (simp; done) | (simp; omega))
 have aQ:=eQ h y
 have gu:b.bU.ls.length≤b.bU.c∧b.bU.ls.length≤9223372036854775807:=bz H (i:=5) rfl (φ:=fun _=>_) (ax (List.mem_flatMap.2 ⟨b,List.mem_of_getElem? y, .head _⟩) bn)
 have gz:b.aF.ls.length≤b.aF.c∧b.aF.ls.length≤9223372036854775807:=bz H (i:=5) rfl (φ:=fun _=>_) (ax (List.mem_flatMap.2 ⟨b,List.mem_of_getElem? y, .tail _ (.head _)⟩) bn)
 have gB:b.bF.ls.length≤b.bF.c∧b.bF.ls.length≤9223372036854775807:=bz H (i:=5) rfl (φ:=fun _=>_) (ax (List.mem_flatMap.2 ⟨b,List.mem_of_getElem? y, .tail _ (.tail _ (.head _))⟩) bn)
 have gD:b.ae.ls.length≤b.ae.c∧b.ae.ls.length≤9223372036854775807:=bz H (i:=5) rfl (φ:=fun _=>_) (ax (List.mem_flatMap.2 ⟨b,List.mem_of_getElem? y, .tail _ (.tail _ (.tail _ (.head _)))⟩) bn)
 have X:Tok (bB.abs b):=xn (by first | assumption | exact Mk.act (by assumption)) aQ
 have gF:1≤b.aW∧b.aW≤4:=X.zM
 have gG:b.bF.ls.length=b.aF.ls.length:=by have q9:=X.yes; simp only [bB.abs,List.length_map] at q9; exact q9
 have gH:b.ae.ls.length=b.aF.ls.length:=by have q9:=X.res; simp only [bB.abs,List.length_map] at q9; exact q9
 have gI:b.aF.ls.length≤5:=by have q9:=X.len; simp only [bB.abs,List.length_map] at q9; exact q9
 have gJ:b.bU.ls.length≤24:=X.ops.1
 refine fw (.pointer (some ⟨ab k,ao k+(Int.toNat m) *9,none⟩)) (ET (oQ) rfl rfl ((H.rds (i:=4) rfl).addr (i:=Int.toNat m) (by omega)) (by omega)) (fw (.agg (bB.cells b).toArray) (EY rfl (Fb (cs:=(bB.cells b)) Tryz.isAgg107 Tryz.sizeOf107 ((H.rds (i:=4) rfl).elem bB.len y (by decide)))) ?_)
 refine dP (qC 0 0 0 0 none 0 0 none 0 0 none 0 0 none 0 0 0) 107 H ?_
 intro aM iB dV
 refine dO (bB.cells b) 0 dV Tryz.sizeOf107 ?_
 intro iC dX
 refine nt (EP ?_)
 have dY:=dX.pf [1,4]
 refine o5 [17] (E9 Fp) dY ?_
 intro iD dZ
 refine qv 0 rfl rfl (qp g0 0 1 rfl (qp g0 0 2 rfl (ql 3 rfl 0 Tryz.isAgg24 rfl rfl rfl (qv 4 rfl rfl (qp g0 0 5 rfl (qp g0 0 6 rfl (ql 7 rfl 0 Tryz.isAgg24 rfl rfl rfl (qp g 0 8 rfl (qp g 8 9 rfl (ql 10 rfl 1 Tryz.isAgg79 rfl rfl rfl (qv 11 rfl rfl (qv 12 rfl rfl (qt (v:=vI (m+1)) 13 rfl (fun _ _=>EQ (e:=IntKind.i64.wrap (m+1)) yk (by rw [IR _ (by omega)])) ?_)))))))))))))
 have ed:=dZ.pf [5,6]
 obtain⟨iE,bW,gK,bX,gL⟩:=Fv ed
 refine qd 14 rfl (Fe Tryz.call105 rfl (uF _ _ k a.aB.ls.length p d a.aB.ls m (m+1) (Int.toNat m) b bW (by omega) h (by omega) (by omega) (by omega) y) ?_)
 rintro _ iF ⟨aZ,bf,rfl,bY⟩
 have ay:=bX _ _ bY
 have gM:List.length (List.take (Int.toNat m) d++List.drop ((Int.toNat m)+1) d)=List.length (List.take (Int.toNat m) a.aB.ls++List.drop ((Int.toNat m)+1) a.aB.ls):=by exact aA (oM h)
 have gN:List.length (List.take (Int.toNat m) a.aB.ls++List.drop ((Int.toNat m)+1) a.aB.ls)+1=a.aB.ls.length:=by simp only [List.length_append,List.length_take,List.length_drop]; omega
 have gP:b.aF.ls.length=List.length (List.map bG.abs b.aF.ls):=by exact(List.length_map _).symm
 have gQ:b.ae.ls.length=List.length (List.map bM.abs b.ae.ls):=by exact(List.length_map _).symm
 have gT:=ay.rowC (i:=2) rfl
 have gU:=ay.rowC (i:=3) rfl
 have gV:=ay.rowC (i:=4) rfl
 have gW:=ay.rowC (i:=5) rfl
 have bZ:=ay.pf [8,9]
 refine⟨.inr ⟨_,bZ⟩, ?_⟩
 refine qp g 0 15 rfl (qp g 8 16 rfl ?_)
 have ek:=bZ.pf [1]
 refine qe 17 rfl (Do.store (vs:= [.slice aZ (List.length (List.take (Int.toNat m) a.aB.ls++List.drop ((Int.toNat m)+1) a.aB.ls)) bf]) (o:=8) ek rfl rfl Tryz.sizeOf79 rfl rfl rfl rfl ?_)
 intro iG bg
 refine⟨.inl (by kernel_rfl), ?_⟩
 refine qn (ER (sr (Mz rfl (Kz (vP aM 1) (Lz (vI b.aW) bg 10 Tryz.isAgg3 (Kz (vP aM 2) (Lz (vU b.aK) bg 10 Tryz.isAgg28 ?_)))))))
 have eu:=bg.px [1,11,12] [] [2,3,4,5,6,7,8,9,10]
 obtain⟨⟨aN,l⟩,aR⟩:∃ q:bQ × aC,d9 p0 b.aW b.aK 2 ([]) (aC.mk a.aa a.bH (Ll.mk (List.take (Int.toNat m) a.aB.ls++List.drop ((Int.toNat m)+1) a.aB.ls)) a.aR a.aN a.aM a.aO a.aP a.di a.cB a.cZ a.cK a.cO)=q:=⟨_,rfl⟩
 obtain⟨iH,cu,gX,cz,gY⟩:=FU eu
 refine cl Tryz.call106 (jM _ _ g0 p0 ak au ah b.aW b.aK 2 none 0 0 [] ([]) g (aC.mk a.aa a.bH (Ll.mk (List.take (Int.toNat m) a.aB.ls++List.drop ((Int.toNat m)+1) a.aB.ls)) a.aR a.aN a.aM a.aO a.aP a.di a.cB a.cZ a.cK a.cO) z B C E F G aZ bf I J r K L s M N t O P u Q R x aN l cu av rfl (fun _ _=>bD.nil _ _ _) (fun _ h9=>absurd h9 List.not_mem_nil) rfl (by simp) (by first | omega | (simp only [List.length_take,List.length_drop]; omega) | exact Nat.le_refl _) S T U V W (by first | omega | (dsimp only; omega) | (simp only [List.length_nil]; omega) | decide) (by first | omega | (simp only [List.length_nil]; omega) | decide) (by first | omega | (simp only [List.length_nil]; omega) | decide) (by first | assumption | exact mi | exact Mk.kZ (by assumption) |>.1) aR) ?_
 rintro _ iI ⟨eB,eD,eF,eG,eH,eO,eP,eT,cB,eU,eX,cK,eY,eZ,cO,fe,fo,cZ,rfl,df,aS,aB,aD,aF,aG,aH,aI⟩
 have Z:=cz _ _ df
 have fq:=aA aS
 have fA:=aA aB
 have fB:=aA aD
 have fC:=aA aF
 have fD:=aA aG
 have fE:=aA aH
 have fF:=Z.rowC (i:=1) rfl
 have fG:=Z.rowC (i:=4) rfl
 have fH:=Z.rowC (i:=6) rfl
 have fI:=Z.rowC (i:=8) rfl
 have fJ:=Z.rowC (i:=10) rfl
 have fK:=Z.rowC (i:=12) rfl
 replace aI:aN.bE.ls.length=p0.bE.ls.length+1:=aI
 refine nt ?_
 have aa:b.aF.ls.length=List.length (List.map bG.abs b.aF.ls):=by first | omega | (simp only [List.length_set]; done) | (simp only [List.length_set,List.length_append,List.length_cons,List.length_nil,List.length_take,List.length_drop,List.length_replicate]; omega)
 have dh:=Z.pf [17]
 have di:=FK aa dh
 have dm:=di.pf [22]
 have dn:=FZ 5 aa dm
 have dw:=dn.pb [1,19,20,21,22,0]
 have ae:b.ae.ls.length=List.length (List.map bM.abs b.ae.ls):=by first | omega | (simp only [List.length_set]; done) | (simp only [List.length_set,List.length_append,List.length_cons,List.length_nil,List.length_take,List.length_drop,List.length_replicate]; omega)
 have dx:=dw.pf [19]
 have dz:=FK ae dx
 have dA:=dz.pf [22]
 have dB:=FZ 7 ae dA
 have dD:=dB.pb [1,21,22,0]
 have dE:=dD.pf [0,3]
 refine o5 [4] Fp dE ?_
 intro gZ dF
 refine qv 0 rfl rfl (qp aM 0 1 rfl ?_)
 have aU:=dF.pf [0,1,22]
 refine Ac aU (ql 2 rfl 2 Tryz.isAgg28 rfl rfl rfl ?_)
 have n:=aU.pf [2]
 have fM:=n.rowC (i:=17) rfl
 have fO:=n.rowC (i:=18) rfl
 have fP:=n.rowC (i:=19) rfl
 have fQ:=n.rowC (i:=20) rfl
 obtain⟨Y,ag⟩:∃ q,kg (dM.mk b.bq b.aW b.aK b.dA (Ll.mk b.bU.ls) (Ll.mk (List.map bG.abs b.aF.ls)) (Ll.mk b.bF.ls) (Ll.mk (List.map bM.abs b.ae.ls)) b.ed)=q:=⟨_,rfl⟩
 obtain⟨ib,bi,fU,bq,j⟩:=Fu n
 refine qd 3 rfl (Fe Tryz.call107 rfl (qy _ _ aM (dM.mk b.bq b.aW b.aK b.dA (Ll.mk b.bU.ls) (Ll.mk (List.map bG.abs b.aF.ls)) (Ll.mk b.bF.ls) (Ll.mk (List.map bM.abs b.ae.ls)) b.ed) b.bU.A b.bU.c b.aF.A b.aF.c b.aF.ls b.bF.A b.bF.c b.ae.A b.ae.c b.ae.ls Y bi (j _ 16 _ rfl aT) (show b.bU.ls.length≤b.bU.c∧b.bU.ls.length≤9223372036854775807 from by omega) (rfl:List.map bG.abs b.aF.ls=List.map bG.abs b.aF.ls) (j _ 17 _ rfl aT) (show List.length (List.map bG.abs b.aF.ls)≤b.aF.c∧List.length (List.map bG.abs b.aF.ls)≤9223372036854775807 from by omega) (fun x9 h9=>⟨j _ 20 _ rfl (ax (List.mem_flatMap.2 ⟨x9,h9, .head _⟩) aT),bz (φ:=fun _=>_) n (i:=21) rfl (ax (List.mem_flatMap.2 ⟨x9,h9, .head _⟩) bn),j _ 20 _ rfl (ax (List.mem_flatMap.2 ⟨x9,h9, .tail _ (.head _)⟩) aT),bz (φ:=fun _=>_) n (i:=21) rfl (ax (List.mem_flatMap.2 ⟨x9,h9, .tail _ (.head _)⟩) bn)⟩) (j _ 18 _ rfl aT) (show b.bF.ls.length≤b.bF.c∧b.bF.ls.length≤9223372036854775807 from by omega) (rfl:List.map bM.abs b.ae.ls=List.map bM.abs b.ae.ls) (j _ 19 _ rfl aT) (show List.length (List.map bM.abs b.ae.ls)≤b.ae.c∧List.length (List.map bM.abs b.ae.ls)≤9223372036854775807 from by omega) (fun x9 h9=>⟨j _ 21 _ rfl (ax (List.mem_flatMap.2 ⟨x9,h9, .head _⟩) aT),bz (φ:=fun _=>_) n (i:=22) rfl (ax (List.mem_flatMap.2 ⟨x9,h9, .head _⟩) bn),(fun y1 k1=>⟨j _ 21 _ rfl (ax (List.mem_flatMap.2 ⟨x9,h9, .tail _ (.head _)⟩) (ax (List.mem_flatMap.2 ⟨y1,k1, .head _⟩) aT)),bz (φ:=fun _=>_) n (i:=22) rfl (ax (List.mem_flatMap.2 ⟨x9,h9, .tail _ (.head _)⟩) (ax (List.mem_flatMap.2 ⟨y1,k1, .head _⟩) bn))⟩)⟩) (by first | omega | (dsimp only; omega) | (simp only [List.length_nil]; omega) | decide) ag) ?_)
 rintro _ ik ⟨dG,dH,rfl,bu⟩
 have aV:=bq _ _ bu
 have fV:=aV.rowC (i:=0) rfl
 have fZ:Y.length≤5:=by have q9:=xw ag; simp only [List.length_map] at q9; omega
 have aW:=aV.pf [2,3,1]
 refine⟨.inr ⟨_,aW⟩, ?_⟩
 have dI:=aW.pf [0,4,5]
 obtain⟨aX,aJ⟩:∃ q,fu aN b.bq Y false=q:=⟨_,rfl⟩
 obtain⟨il,bv,gm,bC,bE⟩:=FC dI
 refine qd 4 rfl (Fe Tryz.call27 rfl (kz _ _ g0 aN eB eD eF g b.bq dG Y.length dH Y false aX bv aS (bE _ 2 _ rfl aT) rfl (by omega) (by first | omega | (dsimp only; omega) | (simp only [List.length_cons,List.length_nil]; omega) | decide) aJ) ?_)
 rintro _ iq ⟨dJ,dL,dN,rfl,bF,aK⟩
 have aY:=bC _ _ bF
 have gp:=aA aK
 have gq:=aY.rowC (i:=1) rfl
 refine⟨.inl (by kernel_rfl), ?_⟩
 refine qn (Ff (res0 rfl) ?_)
 have dQ:=aY.px [0,1,2,3,16,17] [4,5,18,19,20,21,22,23] []
 obtain⟨rfl,rfl⟩:=fT (hr.symm.trans (show _=(aX,aC.mk (dC.mk l.aa.au l.aa.ay l.aa.aY l.aa.aH (Ll.mk a.aa.ag.ls) (Ll.mk a.aa.aj.ls) (Ll.mk a.aa.aG.ls)) l.bH (Ll.mk (List.take (Int.toNat m) a.aB.ls++List.drop ((Int.toNat m)+1) a.aB.ls)) l.aR l.aN l.aM l.aO l.aP l.di l.cB l.cZ l.cK l.cO) from et (ai (bI aQ)) (et (ai aR) (et (ai ag) (ai aJ)))))
 exact⟨dJ,dL,dN,aZ,bf,(List.take (Int.toNat m) d++List.drop ((Int.toNat m)+1) d),eG,eH,eO,eP,eT,cB,eU,eX,cK,eY,eZ,cO,fe,fo,cZ,(by(first | rw [← aa] | skip); (first | rw [← ae] | skip); first | done | rfl),dQ,aK,(oM h),aB,aD,aF,aG,aH⟩
end Go.Proofs.YtbkagebjhbphaaaGreat
