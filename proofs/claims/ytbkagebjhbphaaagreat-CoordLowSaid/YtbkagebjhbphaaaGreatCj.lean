/-
 coord: a request.
-/
import Derived.Test.YtbkagebjhbphaaaGreatCc
import Derived.Test.YtbkagebjhbphaaaGreatCe
namespace Go.Proofs.YtbkagebjhbphaaaGreat
set_option maxRecDepth 100000
open Go.RowKit
set_option linter.unusedVariables false
set_option linter.unusedSectionVars false
set_option linter.unusedSimpArgs false
def fe (p1c0:Int):List dM→Nat→Unit ⊕ Int
  | [],a=>Sum.inl ()
  | b::c,a=>if b.aW=p1c0 then Sum.inr ((a:Nat):Int) else fe p1c0 c (a+1)
def ko (l0:List dM) (p1c0:Int):Int:=
 lp (fe p1c0 l0 0) fun _=>(-1)
theorem nY (w:World) (D:Nat→Prop) (r:Option Addr) (F G:Nat) (C:List bB) (l0:List dM) (g1c0:Nat) (p1c0:Int) (E:Int) (H:Own w D w [blk g1c0 [.int .i64 p1c0] 3]) (t:List.map bB.abs C=l0) (p:Ro w D fun w'=>bD w' 9 r F (List.flatMap bB.cells C)) (l:∀ x ∈ C,Ro w D (fun w'=>bD w' 6 x.bU.A x.bU.ls.length (List.flatMap bC.cells x.bU.ls))∧(x.bU.ls.length≤x.bU.c∧x.bU.ls.length≤9223372036854775807)∧Ro w D (fun w'=>bD w' 3 x.aF.A x.aF.ls.length (List.flatMap bG.cells x.aF.ls))∧(x.aF.ls.length≤x.aF.c∧x.aF.ls.length≤9223372036854775807)∧(∀ d ∈ x.aF.ls,Ro w D (fun w'=>bD w' 6 d.aD.A d.aD.ls.length (List.flatMap bC.cells d.aD.ls))∧(d.aD.ls.length≤d.aD.c∧d.aD.ls.length≤9223372036854775807)∧Ro w D (fun w'=>bD w' 1 d.aJ.A d.aJ.ls.length (List.flatMap (eI .i64) d.aJ.ls))∧(d.aJ.ls.length≤d.aJ.c∧d.aJ.ls.length≤9223372036854775807))∧Ro w D (fun w'=>bD w' 1 x.bF.A x.bF.ls.length (List.flatMap eL x.bF.ls))∧(x.bF.ls.length≤x.bF.c∧x.bF.ls.length≤9223372036854775807)∧Ro w D (fun w'=>bD w' 1 x.ae.A x.ae.ls.length (List.flatMap (FJ (β:=af)) x.ae.ls))∧(x.ae.ls.length≤x.ae.c∧x.ae.ls.length≤9223372036854775807)∧(∀ d ∈ x.ae.ls,Ro w D (fun w'=>bD w' 3 d.A d.ls.length (List.flatMap af.cells d.ls))∧(d.ls.length≤d.c∧d.ls.length≤9223372036854775807)∧(∀ s ∈ d.ls,Ro w D (fun w'=>bD w' 2 s.av.A s.av.ls.length (List.flatMap aL.cells s.av.ls))∧(s.av.ls.length≤s.av.c∧s.av.ls.length≤9223372036854775807)))) (I:F=l0.length) (Z:l0.length≤9223372036854775807) (hr:ko l0 p1c0=E):
    Calls Tryz.prog 125 #[.slice r F G, .func (.func 88) #[] #[vP g1c0 0]] w (dW fun v w'=>v=vI E∧Own w D w' [blk g1c0 [vI p1c0] 3]∧(-1≤E∧E < ((l0.length:Nat):Int))):=by
 subst I
 have R:=aA t
 refine cb Tryz.func125 ?_
 refine sr (An rfl (EP (sr (Mz rfl (Kz (vJ l0.length) (Mn rfl (bo ?_)))))))
 have J:=H.pf []
 obtain⟨K,g⟩:=l8 fun(a:Nat) (w':World)=>Own w D w' [blk g1c0 [vI p1c0] 3]∧a≤l0.length∧fe p1c0 l0 0=fe p1c0 (List.drop a l0) a
 refine Wp.loop (fun i:Nat=> [(4,vI 0),(8,vJ i),(7,vJ l0.length),(0, .slice r l0.length G),(1, .func (.func 88) #[] #[vP g1c0 0])]) K (fun i=>l0.length - i) 0 ⟨rfl,rfl,rfl,rfl,rfl,trivial⟩ (g.2 ⟨J,by omega,rfl⟩) ?_
 rintro a aa u
 show Wp _ _ _ [(4,vI 0),(8,vJ a),(7,vJ l0.length),(0, .slice r l0.length G),(1, .func (.func 88) #[] #[vP g1c0 0])] _ _
 obtain⟨h,S,j⟩:=g.1 u
 refine sr (Kz (.bool (decide (((a:Nat):Int) < ((l0.length:Nat):Int)))) (nt (EP ?_)))
 by_cases y:((a:Nat):Int) < ((l0.length:Nat):Int)
 obtain⟨b,f⟩:=dK (ls:=C) (i:=a) bB.len (by decide) (h.ro p) (by first | omega | (simp; done) | (simp; omega))
 have z:=eQ t f
 have T:=(l _ (List.mem_of_getElem? f)).2.1
 have U:=(l _ (List.mem_of_getElem? f)).2.2.2.1
 have V:List.length (List.map bG.abs b.aF.ls)=b.aF.ls.length:=List.length_map ..
 have W:=(l _ (List.mem_of_getElem? f)).2.2.2.2.2.2.1
 have X:=(l _ (List.mem_of_getElem? f)).2.2.2.2.2.2.2.2.1
 have Y:List.length (List.map bM.abs b.ae.ls)=b.ae.ls.length:=List.length_map ..
 have o:=drop_at z
 refine jT (dT y) (sk (EP (bo (sr (Mz rfl (Ar rfl (Mz rfl (Mz rfl (Mz rfl (fw (.pointer (some ⟨ab r,ao r+a *9,none⟩)) (ET (oQ) rfl rfl ((h.ro p).addr (i:=a) (by omega)) (by omega)) (fw (.agg (bB.cells b).toArray) (EY rfl (Fb (cs:=(bB.cells b)) Tryz.isAgg107 Tryz.sizeOf107 ((h.ro p).elem bB.len f (by decide)))) ?_)))))))))))
 refine WL.do rfl (Fw Tryz.call88 rfl rfl ?_ (fun _ _ k=>k))
 refine cb Tryz.func88 ?_
 refine sr ?_
 refine dP (bB.cells b) 107 h ?_
 intro L ae m
 refine Ar rfl (Kz (vP L 1) (Lz (vI b.aW) m 0 Tryz.isAgg3 (Lz (vI p1c0) m 1 Tryz.isAgg3 (Kz (.bool (decide (b.aW=p1c0))) (An rfl (rt (rs (nt ?_))))))))
 by_cases n:b.aW=p1c0
 refine jT (dT n) (EP ?_)
 have M:=m.pk [1]
 refine EO (Mz rfl (An rfl (rt (bR (tR (tR (bR (tR (rs ?_)))))))))
 have N:=M.pf []
 obtain rfl:_=((a:Nat):Int):=hr.symm.trans (iZ (et (j) (et (congrArg (fun q=>fe p1c0 q a) o) (ip n))))
 exact⟨rfl,N,(by omega)⟩
 refine jF (dF n) (Fs (bN (ER ?_)))
 have O:=m.pk [1]
 refine EO (fw (vJ (a+1)) (EQ (e:=IntKind.i64.wrap (((a:Nat):Int)+1)) yk (by rw [IR _ (by omega)]; omega)) (Mz rfl (WL.nil ?_)))
 have P:=O.pf []
 exact E8 (a+1) ⟨rfl,rfl,rfl,rfl,rfl,trivial⟩ (g.2 ⟨P,by omega,et (j) (et (congrArg (fun q=>fe p1c0 q a) o) (iN n))⟩) (by show l0.length - (a+1) < l0.length - a; omega)
 refine jF (dF y) (Wp.exit (EX ?_))
 have B:fe p1c0 l0 0=Sum.inl ():=et (j) (et (congrArg (fun q=>fe p1c0 q a) (eD (ls:=l0) (i:=a) (by omega))) rfl)
 refine EX (Fg (ER (sr (An rfl (rt (rs ?_))))))
 have Q:=h.pf []
 obtain rfl:_=(-1):=hr.symm.trans (nJ B)
 exact⟨rfl,Q,(by omega)⟩
def jR (l0:List dM) (p1c0:Int):Bool:=
 bnd (ko l0 p1c0) fun a=>decide (a ≥ 0)
theorem nC (w:World) (D:Nat→Prop) (r:Option Addr) (s B:Nat) (p:List bB) (l0:List dM) (g1c0:Nat) (p1c0:Int) (C:Bool) (H:Own w D w [blk g1c0 [.int .i64 p1c0] 3]) (l:List.map bB.abs p=l0) (t:Ro w D fun w'=>bD w' 9 r s (List.flatMap bB.cells p)) (a:∀ x ∈ p,Ro w D (fun w'=>bD w' 6 x.bU.A x.bU.ls.length (List.flatMap bC.cells x.bU.ls))∧(x.bU.ls.length≤x.bU.c∧x.bU.ls.length≤9223372036854775807)∧Ro w D (fun w'=>bD w' 3 x.aF.A x.aF.ls.length (List.flatMap bG.cells x.aF.ls))∧(x.aF.ls.length≤x.aF.c∧x.aF.ls.length≤9223372036854775807)∧(∀ b ∈ x.aF.ls,Ro w D (fun w'=>bD w' 6 b.aD.A b.aD.ls.length (List.flatMap bC.cells b.aD.ls))∧(b.aD.ls.length≤b.aD.c∧b.aD.ls.length≤9223372036854775807)∧Ro w D (fun w'=>bD w' 1 b.aJ.A b.aJ.ls.length (List.flatMap (eI .i64) b.aJ.ls))∧(b.aJ.ls.length≤b.aJ.c∧b.aJ.ls.length≤9223372036854775807))∧Ro w D (fun w'=>bD w' 1 x.bF.A x.bF.ls.length (List.flatMap eL x.bF.ls))∧(x.bF.ls.length≤x.bF.c∧x.bF.ls.length≤9223372036854775807)∧Ro w D (fun w'=>bD w' 1 x.ae.A x.ae.ls.length (List.flatMap (FJ (β:=af)) x.ae.ls))∧(x.ae.ls.length≤x.ae.c∧x.ae.ls.length≤9223372036854775807)∧(∀ b ∈ x.ae.ls,Ro w D (fun w'=>bD w' 3 b.A b.ls.length (List.flatMap af.cells b.ls))∧(b.ls.length≤b.c∧b.ls.length≤9223372036854775807)∧(∀ h ∈ b.ls,Ro w D (fun w'=>bD w' 2 h.av.A h.av.ls.length (List.flatMap aL.cells h.av.ls))∧(h.av.ls.length≤h.av.c∧h.av.ls.length≤9223372036854775807)))) (u:s=l0.length) (G:l0.length≤9223372036854775807) (hr:jR l0 p1c0=C):
    Calls Tryz.prog 87 #[.slice r s B, .func (.func 88) #[] #[vP g1c0 0]] w (dW fun v w'=>v= .bool C∧Own w D w' [blk g1c0 [vI p1c0] 3]):=by
 subst u
 have E:=aA l
 refine cb Tryz.func87 ?_
 refine sr (Ar rfl (Mz rfl (Mz rfl ?_)))
 obtain⟨g,j⟩:∃ q,ko l0 p1c0=q:=⟨_,rfl⟩
 obtain⟨I,m,d,n,F⟩:=Fu H
 refine cl Tryz.call125 (nY _ _ r l0.length B p l0 g1c0 p1c0 g m l (d _ t) (fun e f=>⟨d _ (a e f).1,(a e f).2.1,d _ (a e f).2.2.1,(a e f).2.2.2.1,(fun b i=>⟨d _ ((a e f).2.2.2.2.1 b i).1,((a e f).2.2.2.2.1 b i).2.1,d _ ((a e f).2.2.2.2.1 b i).2.2.1,((a e f).2.2.2.2.1 b i).2.2.2⟩),d _ (a e f).2.2.2.2.2.1,(a e f).2.2.2.2.2.2.1,d _ (a e f).2.2.2.2.2.2.2.1,(a e f).2.2.2.2.2.2.2.2.1,(fun b i=>⟨d _ ((a e f).2.2.2.2.2.2.2.2.2 b i).1,((a e f).2.2.2.2.2.2.2.2.2 b i).2.1,(fun h k2=>⟨d _ (((a e f).2.2.2.2.2.2.2.2.2 b i).2.2 h k2).1,(((a e f).2.2.2.2.2.2.2.2.2 b i).2.2 h k2).2⟩)⟩)⟩) rfl (by omega) j) ?_
 rintro _ J ⟨rfl,o,k⟩
 have y:=n _ _ o
 replace k: -1≤g∧g < ((l0.length:Nat):Int):=k
 refine Kz (.bool (decide (g ≥ 0))) (An rfl (rt (rs ?_)))
 have z:=y.pf []
 obtain rfl:_=decide (g ≥ 0):=hr.symm.trans (ai j)
 exact⟨rfl,z⟩
def kr (c:bQ) (b:bP) (a:aC):bQ × aC:=
 if((b.ay:Nat):Int)=((a.aa.ay:Nat):Int) then bnd (jR a.aB.ls (b.aJ - 10)) fun p=>if p=true then(c,a) else if b.aJ - 10=1 then if a.aN.aS=true then if((a.aN.aK:Nat):Int) ≥ ((b.aU:Nat):Int) then if((a.aN.aK:Nat):Int)=((b.aU:Nat):Int) then bnd (dD c (bP.mk 2 0 (10+(b.aJ - 10)) 0 a.aN.bi 0 a.aN.aK a.aa.ay 0 0 0 0 0 0 0 false (bK.mk ([]) ([])) (Ll.mk ([])) (Ll.mk a.aN.ae.ls) (Ll.mk ([])))) fun q=>(q,a) else(c,a) else bnd (eP c (b.aJ - 10) b a) fun k=>(k.1,k.2) else bnd (eP c (b.aJ - 10) b a) fun d=>(d.1,d.2) else if b.aJ - 10=2 then if a.aM.aS=true then if((a.aM.aK:Nat):Int) ≥ ((b.aU:Nat):Int) then if((a.aM.aK:Nat):Int)=((b.aU:Nat):Int) then bnd (dD c (bP.mk 2 0 (10+(b.aJ - 10)) 0 a.aM.bi 0 a.aM.aK a.aa.ay 0 0 0 0 0 0 0 false (bK.mk ([]) ([])) (Ll.mk ([])) (Ll.mk a.aM.ae.ls) (Ll.mk ([])))) fun l=>(l,a) else(c,a) else bnd (eP c (b.aJ - 10) b a) fun e=>(e.1,e.2) else bnd (eP c (b.aJ - 10) b a) fun f=>(f.1,f.2) else if b.aJ - 10=3 then if a.aO.aS=true then if((a.aO.aK:Nat):Int) ≥ ((b.aU:Nat):Int) then if((a.aO.aK:Nat):Int)=((b.aU:Nat):Int) then bnd (dD c (bP.mk 2 0 (10+(b.aJ - 10)) 0 a.aO.bi 0 a.aO.aK a.aa.ay 0 0 0 0 0 0 0 false (bK.mk ([]) ([])) (Ll.mk ([])) (Ll.mk a.aO.ae.ls) (Ll.mk ([])))) fun m=>(m,a) else(c,a) else bnd (eP c (b.aJ - 10) b a) fun g=>(g.1,g.2) else bnd (eP c (b.aJ - 10) b a) fun h=>(h.1,h.2) else if a.aP.aS=true then if((a.aP.aK:Nat):Int) ≥ ((b.aU:Nat):Int) then if((a.aP.aK:Nat):Int)=((b.aU:Nat):Int) then bnd (dD c (bP.mk 2 0 (10+(b.aJ - 10)) 0 a.aP.bi 0 a.aP.aK a.aa.ay 0 0 0 0 0 0 0 false (bK.mk ([]) ([])) (Ll.mk ([])) (Ll.mk a.aP.ae.ls) (Ll.mk ([])))) fun n=>(n,a) else(c,a) else bnd (eP c (b.aJ - 10) b a) fun i=>(i.1,i.2) else bnd (eP c (b.aJ - 10) b a) fun j=>(j.1,j.2) else bnd (lq c (b.aJ - 10) b a) fun o=>(o,a)
set_option maxHeartbeats 4000000 in
theorem tT (w:World) (D:Nat→Prop) (g0:Nat) (p0:bQ) (aD:Option Addr) (aF:Nat) (au:List bA) (b:bP) (av:Option Addr) (iV Z:Nat) (ay:Option Addr) (iW aa:Nat) (bf:List af) (aB:Option Addr) (iX ae:Nat) (r:Nat) (a:aC) (S:Option Addr) (T:Nat) (U:Option Addr) (V:Nat) (W:List az) (X:Option Addr) (N:Nat) (O:List aX) (F:Option Addr) (G:Nat) (P:List bB) (Y:Option Addr) (Q:Nat) (R:List af) (j:Option Addr) (d:Nat) (I:List af) (l:Option Addr) (f:Nat) (J:List af) (n:Option Addr) (g:Nat) (K:List af) (p:Option Addr) (h:Nat) (L:List af) (r0:bQ) (r1:aC) (H:Own w D w [blk g0 [.pointer (some ⟨r,0,none⟩), .slice aD p0.bE.ls.length aF] 98,row aD p0.bE.ls.length aF (List.flatMap bA.cells au) 42 21,sepL (List.flatMap bA.own au),blk r [.int .i64 a.aa.au, .int .u64 ((a.aa.ay:Nat):Int), .int .u64 ((a.aa.aY:Nat):Int), .int .u64 ((a.aa.aH:Nat):Int), .slice S a.aa.ag.ls.length T, .slice U a.aa.aj.ls.length V, .slice X a.aa.aG.ls.length N, .int .u64 ((a.bH:Nat):Int), .slice F a.aB.ls.length G, .bool a.aR.aS, .int .u64 ((a.aR.aK:Nat):Int), .int .i64 a.aR.bi, .slice Y a.aR.ae.ls.length Q, .bool a.aN.aS, .int .u64 ((a.aN.aK:Nat):Int), .int .i64 a.aN.bi, .slice j a.aN.ae.ls.length d, .bool a.aM.aS, .int .u64 ((a.aM.aK:Nat):Int), .int .i64 a.aM.bi, .slice l a.aM.ae.ls.length f, .bool a.aO.aS, .int .u64 ((a.aO.aK:Nat):Int), .int .i64 a.aO.bi, .slice n a.aO.ae.ls.length g, .bool a.aP.aS, .int .u64 ((a.aP.aK:Nat):Int), .int .i64 a.aP.bi, .slice p a.aP.ae.ls.length h, .int .u64 ((a.di:Nat):Int), .int .u64 ((a.cB:Nat):Int), .int .u64 ((a.cZ:Nat):Int), .int .u64 ((a.cK:Nat):Int), .int .u64 ((a.cO:Nat):Int), .pointer none] 86,row S a.aa.ag.ls.length T (List.flatMap bv.cells a.aa.ag.ls) 89 2,row U a.aa.aj.ls.length V (List.flatMap az.cells W) 60 5,sepL (List.flatMap az.own W),row X a.aa.aG.ls.length N (List.flatMap aX.cells O) 56 4,sepL (List.flatMap aX.own O),row F a.aB.ls.length G (List.flatMap bB.cells P) 107 9,sepL (List.flatMap bB.own P),row Y a.aR.ae.ls.length Q (List.flatMap af.cells R) 149 3,sepL (List.flatMap af.own R),row j a.aN.ae.ls.length d (List.flatMap af.cells I) 149 3,sepL (List.flatMap af.own I),row l a.aM.ae.ls.length f (List.flatMap af.cells J) 149 3,sepL (List.flatMap af.own J),row n a.aO.ae.ls.length g (List.flatMap af.cells K) 149 3,sepL (List.flatMap af.own K),row p a.aP.ae.ls.length h (List.flatMap af.cells L) 149 3,sepL (List.flatMap af.own L)]) (ag:List.map bA.abs au=p0.bE.ls) (jP:iV=b.aD.ls.length) (aW:Ro w D fun w'=>bD w' 6 av b.aD.ls.length (List.flatMap bC.cells b.aD.ls)) (vL:b.aD.ls.length≤Z∧b.aD.ls.length≤9223372036854775807) (aR:List.map af.abs bf=b.ah.ls) (jQ:iW=b.ah.ls.length) (aY:Ro w D fun w'=>bD w' 3 ay b.ah.ls.length (List.flatMap af.cells bf)) (vM:b.ah.ls.length≤aa∧b.ah.ls.length≤9223372036854775807) (ah:∀ x ∈ bf,Ro w D (fun w'=>bD w' 2 x.av.A x.av.ls.length (List.flatMap aL.cells x.av.ls))∧(x.av.ls.length≤x.av.c∧x.av.ls.length≤9223372036854775807)) (jS:iX=b.ag.ls.length) (aZ:Ro w D fun w'=>bD w' 2 aB b.ag.ls.length (List.flatMap bv.cells b.ag.ls)) (vN:b.ag.ls.length≤ae∧b.ag.ls.length≤9223372036854775807) (M:List.map az.abs W=a.aa.aj.ls) (B:List.map aX.abs O=a.aa.aG.ls) (C:List.map bB.abs P=a.aB.ls) (E:List.map af.abs R=a.aR.ae.ls) (s:List.map af.abs I=a.aN.ae.ls) (u:List.map af.abs J=a.aM.ae.ls) (y:List.map af.abs K=a.aO.ae.ls) (z:List.map af.abs L=a.aP.ae.ls) (BD:a.aa.ag.ls.length≤1000∧a.aa.aj.ls.length≤1000∧a.aa.aG.ls.length≤1000∧a.aB.ls.length≤1000∧p0.bE.ls.length≤100000) (BF:Mk a) (BG:a.aR.ae.ls.length≤1000∧a.aN.ae.ls.length≤1000∧a.aM.ae.ls.length≤1000∧a.aO.ae.ls.length≤1000∧a.aP.ae.ls.length≤1000) (BH:11≤b.aJ∧b.aJ≤14) (BI:b.aD.ls.length≤24∧b.ag.ls.length≤1000∧b.ah.ls.length≤1000∧jh b.aU) (hr:kr p0 b a=(r0,r1)):
    Calls Tryz.prog 56 #[vP g0 0, .agg (gN b.aI b.aJ b.eU b.aQ b.dz b.dL b.aU b.ay b.bf b.cz b.aY b.aH b.dG b.bT b.xN b.dI b.bO.bJ b.bO.bW av iV Z ay iW aa aB iX ae).toArray] w (dW fun v w'=> ∃ (B0ox0:Option Addr) (b0ox0:Nat) (e0ox0:List bA) (B1ox0:Option Addr) (b1ox0:Nat) (B1ox1:Option Addr) (b1ox1:Nat) (e1ox1:List az) (B1ox2:Option Addr) (b1ox2:Nat) (e1ox2:List aX) (B1ox3:Option Addr) (b1ox3:Nat) (e1ox3:List bB) (B1ox4:Option Addr) (b1ox4:Nat) (e1ox4:List af) (B1ox5:Option Addr) (b1ox5:Nat) (e1ox5:List af) (B1ox6:Option Addr) (b1ox6:Nat) (e1ox6:List af) (B1ox7:Option Addr) (b1ox7:Nat) (e1ox7:List af) (B1ox8:Option Addr) (b1ox8:Nat) (e1ox8:List af),v= .tuple #[]∧Own w D w' [blk g0 [vP r 0, .slice B0ox0 r0.bE.ls.length b0ox0] 98,row B0ox0 r0.bE.ls.length b0ox0 (List.flatMap bA.cells e0ox0) 42 21,sepL (List.flatMap bA.own e0ox0),blk r [vI r1.aa.au,vU r1.aa.ay,vU r1.aa.aY,vU r1.aa.aH, .slice B1ox0 r1.aa.ag.ls.length b1ox0, .slice B1ox1 r1.aa.aj.ls.length b1ox1, .slice B1ox2 r1.aa.aG.ls.length b1ox2,vU r1.bH, .slice B1ox3 r1.aB.ls.length b1ox3, .bool r1.aR.aS,vU r1.aR.aK,vI r1.aR.bi, .slice B1ox4 r1.aR.ae.ls.length b1ox4, .bool r1.aN.aS,vU r1.aN.aK,vI r1.aN.bi, .slice B1ox5 r1.aN.ae.ls.length b1ox5, .bool r1.aM.aS,vU r1.aM.aK,vI r1.aM.bi, .slice B1ox6 r1.aM.ae.ls.length b1ox6, .bool r1.aO.aS,vU r1.aO.aK,vI r1.aO.bi, .slice B1ox7 r1.aO.ae.ls.length b1ox7, .bool r1.aP.aS,vU r1.aP.aK,vI r1.aP.bi, .slice B1ox8 r1.aP.ae.ls.length b1ox8,vU r1.di,vU r1.cB,vU r1.cZ,vU r1.cK,vU r1.cO, .pointer none] 86,row B1ox0 r1.aa.ag.ls.length b1ox0 (List.flatMap bv.cells r1.aa.ag.ls) 89 2,row B1ox1 r1.aa.aj.ls.length b1ox1 (List.flatMap az.cells e1ox1) 60 5,sepL (List.flatMap az.own e1ox1),row B1ox2 r1.aa.aG.ls.length b1ox2 (List.flatMap aX.cells e1ox2) 56 4,sepL (List.flatMap aX.own e1ox2),row B1ox3 r1.aB.ls.length b1ox3 (List.flatMap bB.cells e1ox3) 107 9,sepL (List.flatMap bB.own e1ox3),row B1ox4 r1.aR.ae.ls.length b1ox4 (List.flatMap af.cells e1ox4) 149 3,sepL (List.flatMap af.own e1ox4),row B1ox5 r1.aN.ae.ls.length b1ox5 (List.flatMap af.cells e1ox5) 149 3,sepL (List.flatMap af.own e1ox5),row B1ox6 r1.aM.ae.ls.length b1ox6 (List.flatMap af.cells e1ox6) 149 3,sepL (List.flatMap af.own e1ox6),row B1ox7 r1.aO.ae.ls.length b1ox7 (List.flatMap af.cells e1ox7) 149 3,sepL (List.flatMap af.own e1ox7),row B1ox8 r1.aP.ae.ls.length b1ox8 (List.flatMap af.cells e1ox8) 149 3,sepL (List.flatMap af.own e1ox8)]∧(List.map bA.abs e0ox0=r0.bE.ls)∧(List.map az.abs e1ox1=r1.aa.aj.ls)∧(List.map aX.abs e1ox2=r1.aa.aG.ls)∧(List.map bB.abs e1ox3=r1.aB.ls)∧(List.map af.abs e1ox4=r1.aR.ae.ls)∧(List.map af.abs e1ox5=r1.aN.ae.ls)∧(List.map af.abs e1ox6=r1.aM.ae.ls)∧(List.map af.abs e1ox7=r1.aO.ae.ls)∧(List.map af.abs e1ox8=r1.aP.ae.ls)):=by
 subst jP jQ jS
 have vJ:=aA ag
 have vK:=aA aR
 have kW:=aA M
 have kX:=aA B
 have kY:=aA C
 have kZ:=aA E
 have lc:=aA s
 have lg:=aA u
 have lh:=aA y
 have ll:=aA z
 have vO:=H.rowC (i:=1) rfl
 have lm:=H.rowC (i:=4) rfl
 have lu:=H.rowC (i:=5) rfl
 have lv:=H.rowC (i:=7) rfl
 have lw:=H.rowC (i:=9) rfl
 have lC:=H.rowC (i:=11) rfl
 have lD:=H.rowC (i:=13) rfl
 have lF:=H.rowC (i:=15) rfl
 have lG:=H.rowC (i:=17) rfl
 have lH:=H.rowC (i:=19) rfl
 refine cb Tryz.func56 ?_
 refine sr ?_
 refine dP (gP b av Z ay aa aB ae) 42 H ?_
 intro bT BJ lI
 refine ns (Kz (vP bT 1) (Lz (vI b.aJ) lI 0 Tryz.isAgg3 (fw (vI (b.aJ - 10)) (EQ (e:=IntKind.i64.wrap (b.aJ - 10)) yk (by rw [IR _ (by omega)])) ?_)))
 refine dP [vI 0] 3 lI ?_
 intro lJ BK vQ
 refine dO [vI (b.aJ - 10)] 0 vQ Tryz.sizeOf3 ?_
 intro BL vR
 refine nt (EP (EP ?_))
 refine oF 23 [] (E9 (E9 Fp)) vR ?_
 intro BM bN
 refine qp bT 7 0 rfl (ql 1 rfl 1 Tryz.isAgg28 rfl rfl rfl (qv 2 rfl rfl (qp g0 0 3 rfl (qp g0 0 4 rfl (ql 5 rfl 2 Tryz.isAgg24 rfl rfl rfl (qp r 0 6 rfl (qp r 0 7 rfl (qp r 1 8 rfl (ql 9 rfl 5 Tryz.isAgg28 rfl rfl rfl (qt (v:= .bool (decide (¬ (((b.ay:Nat):Int)=((a.aa.ay:Nat):Int))))) 10 rfl (fun _ _=>Fq (e:= !(decide (((b.ay:Nat):Int)=((a.aa.ay:Nat):Int)))) yk decide_not.symm) (qn (ER ?_))))))))))))
 by_cases aS:((b.ay:Nat):Int)=((a.aa.ay:Nat):Int)
 refine jF (dF (IV aS)) (sk (EP (sr (Mz rfl (Kz (vP g0 0) (Kz (vP g0 0) (Lz (vP r 0) bN 2 Tryz.isAgg24 (Kz (vP r 0) (Kz (vP r 8) (Lz (.slice F a.aB.ls.length G) bN 5 Tryz.isAgg79 (Kz (.func (.func 88) #[] #[vP lJ 0]) ?_)))))))))))
 obtain⟨lK,aG⟩:∃ q,jR a.aB.ls (b.aJ - 10)=q:=⟨_,rfl⟩
 obtain⟨BN,lL,AQ,lM,bO⟩:=Fu bN
 refine cl Tryz.call87 (nC _ _ F a.aB.ls.length G P a.aB.ls lJ (b.aJ - 10) lK lL C (bO _ 10 _ rfl aT) (fun x9 h9=>⟨bO _ 11 _ rfl (ax (List.mem_flatMap.2 ⟨x9,h9, .head _⟩) aT),bz (φ:=fun _=>_) bN (i:=12) rfl (ax (List.mem_flatMap.2 ⟨x9,h9, .head _⟩) bn),bO _ 11 _ rfl (ax (List.mem_flatMap.2 ⟨x9,h9, .tail _ (.head _)⟩) aT),bz (φ:=fun _=>_) bN (i:=12) rfl (ax (List.mem_flatMap.2 ⟨x9,h9, .tail _ (.head _)⟩) bn),(fun y1 k1=>⟨bO _ 11 _ rfl (ax (List.mem_flatMap.2 ⟨x9,h9, .tail _ (.tail _ (.tail _ (.tail _ (.head _))))⟩) (ax (List.mem_flatMap.2 ⟨y1,k1, .head _⟩) aT)),bz (φ:=fun _=>_) bN (i:=12) rfl (ax (List.mem_flatMap.2 ⟨x9,h9, .tail _ (.tail _ (.tail _ (.tail _ (.head _))))⟩) (ax (List.mem_flatMap.2 ⟨y1,k1, .head _⟩) bn)),bO _ 11 _ rfl (ax (List.mem_flatMap.2 ⟨x9,h9, .tail _ (.tail _ (.tail _ (.tail _ (.head _))))⟩) (ax (List.mem_flatMap.2 ⟨y1,k1, .tail _ (.head _)⟩) aT)),bz (φ:=fun _=>_) bN (i:=12) rfl (ax (List.mem_flatMap.2 ⟨x9,h9, .tail _ (.tail _ (.tail _ (.tail _ (.head _))))⟩) (ax (List.mem_flatMap.2 ⟨y1,k1, .tail _ (.head _)⟩) bn))⟩),bO _ 11 _ rfl (ax (List.mem_flatMap.2 ⟨x9,h9, .tail _ (.tail _ (.head _))⟩) aT),bz (φ:=fun _=>_) bN (i:=12) rfl (ax (List.mem_flatMap.2 ⟨x9,h9, .tail _ (.tail _ (.head _))⟩) bn),bO _ 11 _ rfl (ax (List.mem_flatMap.2 ⟨x9,h9, .tail _ (.tail _ (.tail _ (.head _)))⟩) aT),bz (φ:=fun _=>_) bN (i:=12) rfl (ax (List.mem_flatMap.2 ⟨x9,h9, .tail _ (.tail _ (.tail _ (.head _)))⟩) bn),(fun y1 k1=>⟨bO _ 11 _ rfl (ax (List.mem_flatMap.2 ⟨x9,h9, .tail _ (.tail _ (.tail _ (.tail _ (.tail _ (.head _)))))⟩) (ax (List.mem_flatMap.2 ⟨y1,k1, .head _⟩) aT)),bz (φ:=fun _=>_) bN (i:=12) rfl (ax (List.mem_flatMap.2 ⟨x9,h9, .tail _ (.tail _ (.tail _ (.tail _ (.tail _ (.head _)))))⟩) (ax (List.mem_flatMap.2 ⟨y1,k1, .head _⟩) bn)),(fun y2 k2=>⟨bO _ 11 _ rfl (ax (List.mem_flatMap.2 ⟨x9,h9, .tail _ (.tail _ (.tail _ (.tail _ (.tail _ (.head _)))))⟩) (ax (List.mem_flatMap.2 ⟨y1,k1, .tail _ (.head _)⟩) (ax (List.mem_flatMap.2 ⟨y2,k2, .head _⟩) aT))),bz (φ:=fun _=>_) bN (i:=12) rfl (ax (List.mem_flatMap.2 ⟨x9,h9, .tail _ (.tail _ (.tail _ (.tail _ (.tail _ (.head _)))))⟩) (ax (List.mem_flatMap.2 ⟨y1,k1, .tail _ (.head _)⟩) (ax (List.mem_flatMap.2 ⟨y2,k2, .head _⟩) bn)))⟩)⟩)⟩) rfl (by omega) aG) ?_
 rintro _ BO ⟨rfl,lN⟩
 have lQ:=lM _ _ lN
 refine nt ?_
 rcases IW (lK) with aU | aU
 refine jT aU (rt (tR (Fin.res (res0 rfl) ?_)))
 have vS:=lQ.px [] [0,1] []
 obtain⟨rfl,rfl⟩:=fT (hr.symm.trans (show _=(p0,a) from et (ip aS) (et (ai aG) (ip aU))))
 exact⟨aD,aF,au,S,T,U,V,W,X,N,O,F,G,P,Y,Q,R,j,d,I,l,f,J,n,g,K,p,h,L,rfl,vS,ag,M,B,C,E,s,u,y,z⟩
 refine jF aU (sk (EP (EP ?_)))
 refine oF 23 [] (E9 (E9 Fp)) lQ ?_
 intro BP iT
 refine qv 0 rfl rfl (qp g0 0 1 rfl (qp g0 0 2 rfl (ql 3 rfl 2 Tryz.isAgg24 rfl rfl rfl (ql 4 rfl 0 Tryz.isAgg3 rfl rfl rfl (qp r 0 5 rfl (qp r 9 6 rfl ?_))))))
 by_cases bJ:b.aJ - 10=1
 refine qt (v:=vP r 13) 7 rfl (fun _ _=>by rw [show b.aJ - 10=1 from by omega]; exact yk) (qt (v:= .agg #[.bool a.aN.aS,vU a.aN.aK,vI a.aN.bi, .slice j a.aN.ae.ls.length d]) 8 rfl (fun _ ⟨_,H9⟩=>EY rfl (Fb (cs:= [.bool a.aN.aS,vU a.aN.aK,vI a.aN.bi, .slice j a.aN.ae.ls.length d]) Tryz.isAgg81 Tryz.sizeOf81 ((H9.cls (i:=5) rfl).lit (k:=13) (m:=4) rfl))) ?_)
 refine qd 9 rfl (FP (cs:= [.bool false, .int .u64 0,vI 0, .slice none 0 0]) (t:=81) iT rfl rfl (fun _=>by kernel_rfl) ?_)
 intro dx BQ vT
 have lS:=vT.pb [0]
 refine⟨.inr ⟨_,lS⟩, ?_⟩
 have vV:=lS.pf [23]
 refine qe 10 rfl (Do.store (vs:= [.bool a.aN.aS,vU a.aN.aK,vI a.aN.bi, .slice j a.aN.ae.ls.length d]) (o:=0) vV rfl rfl Tryz.sizeOf81 rfl rfl rfl rfl ?_)
 intro BR vW
 have bL:=vW.pb [0]
 refine⟨.inr ⟨_,bL⟩, ?_⟩
 refine qn (ER (sr (Kz (vP dx 0) (Lz (.bool a.aN.aS) bL 23 Tryz.isAgg4 (Mz rfl ?_)))))
 rcases IW (a.aN.aS) with bi | bi
 refine Gz (vP dx 1) bi (Gl (vU a.aN.aK) bi bL 23 Tryz.isAgg28 (Gz (vP bT 6) bi (Gl (vU b.aU) bi bL 1 Tryz.isAgg28 (Gz (.bool (decide (((a.aN.aK:Nat):Int) ≥ ((b.aU:Nat):Int)))) bi (fw (.bool (decide (((a.aN.aK:Nat):Int) ≥ ((b.aU:Nat):Int)))) (Fa rfl bi rfl) (nt ?_))))))
 by_cases dB:((a.aN.aK:Nat):Int) ≥ ((b.aU:Nat):Int)
 refine jT (dT dB) (EP (sr (Kz (vP dx 1) (Lz (vU a.aN.aK) bL 23 Tryz.isAgg28 (Kz (vP bT 6) (Lz (vU b.aU) bL 1 Tryz.isAgg28 (Kz (.bool (decide (((a.aN.aK:Nat):Int)=((b.aU:Nat):Int)))) (nt ?_))))))))
 by_cases iU:((a.aN.aK:Nat):Int)=((b.aU:Nat):Int)
 refine jT (dT iU) (EO (Mz rfl (Lz (vI (b.aJ - 10)) bL 0 Tryz.isAgg3 (Kz (vP dx 1) (Lz (vU a.aN.aK) bL 23 Tryz.isAgg28 (Kz (vP dx 2) (Lz (vI a.aN.bi) bL 23 Tryz.isAgg3 (Kz (vP dx 3) (Lz (.slice j a.aN.ae.ls.length d) bL 23 Tryz.isAgg40 ?_)))))))))
 refine WL.do rfl (Fe Tryz.call89 rfl ?_ (fun _ _ k=>k))
 refine cb Tryz.func89 ?_
 refine EO (Mz rfl (Mz rfl (fw (vI (10+(b.aJ - 10))) (EQ (e:=IntKind.i64.wrap (10+(b.aJ - 10))) yk (by rw [IR _ (by omega)])) (Mz rfl (Mz rfl (Kz (vP g0 0) (Kz (vP g0 0) (Lz (vP r 0) bL 2 Tryz.isAgg24 (Kz (vP r 0) (Kz (vP r 0) (Kz (vP r 1) (Lz (vU a.aa.ay) bL 5 Tryz.isAgg28 (Mz rfl (Mz rfl (Kz (.agg (gN 2 0 (10+(b.aJ - 10)) 0 a.aN.bi 0 a.aN.aK a.aa.ay 0 0 0 0 0 0 0 false ([]) ([]) none 0 0 j a.aN.ae.ls.length d none 0 0).toArray) ?_)))))))))))))))
 have lT:=bL.pf [2,3,4]
 obtain⟨jV,iY⟩:∃ q,dD p0 (bP.mk 2 0 (10+(b.aJ - 10)) 0 a.aN.bi 0 a.aN.aK a.aa.ay 0 0 0 0 0 0 0 false (bK.mk ([]) ([])) (Ll.mk ([])) (Ll.mk a.aN.ae.ls) (Ll.mk ([])))=q:=⟨_,rfl⟩
 obtain⟨BS,lU,AU,lV,iZ⟩:=FC lT
 refine cl Tryz.call65 (fE _ _ g0 p0 aD aF au r (bP.mk 2 0 (10+(b.aJ - 10)) 0 a.aN.bi 0 a.aN.aK a.aa.ay 0 0 0 0 0 0 0 false (bK.mk ([]) ([])) (Ll.mk ([])) (Ll.mk a.aN.ae.ls) (Ll.mk ([]))) none 0 0 j a.aN.ae.ls.length d I none 0 0 jV lU ag rfl (fun _ _=>bD.nil _ _ _) (by first | exact⟨IQ rfl,IQ rfl⟩ | omega | exact⟨Nat.le_refl _,by omega⟩) s rfl (iZ _ 12 _ rfl aT) (show a.aN.ae.ls.length≤d∧a.aN.ae.ls.length≤9223372036854775807 from by omega) (fun x9 h9=>⟨iZ _ 13 _ rfl (ax (List.mem_flatMap.2 ⟨x9,h9, .head _⟩) aT),bz (φ:=fun _=>_) lT (i:=16) rfl (ax (List.mem_flatMap.2 ⟨x9,h9, .head _⟩) bn)⟩) rfl (fun _ _=>bD.nil _ _ _) (by first | exact⟨IQ rfl,IQ rfl⟩ | omega | exact⟨Nat.le_refl _,by omega⟩) (by first | omega | (dsimp only; omega) | (simp only [List.length_nil]; omega) | decide) (by first | assumption | exact dH (by assumption) | exact fun x hx=>absurd hx List.not_mem_nil | exact dH (Mk.lW (by assumption)).1 | exact dH (Mk.kZ (by assumption)).1 | exact dH (Mk.mg (by assumption)).1 | exact dH (Mk.mf (by assumption)).1 | exact dH (Mk.mh (by assumption)).1) iY) ?_
 rintro _ BU ⟨vX,vY,vZ,rfl,lW,ja,jb⟩
 have lX:=lV _ _ lW
 have AV:=aA ja
 have AX:=lX.rowC (i:=1) rfl
 replace jb:jV.bE.ls.length=p0.bE.ls.length+1:=jb
 refine WL.nil (Ff (res0 rfl) (nt (rt (tR (Fin.res (res0 rfl) ?_)))))
 have wh:=lX.px [] [3,4,23] []
 obtain⟨rfl,rfl⟩:=fT (hr.symm.trans (show _=(jV,a) from et (ip aS) (et (ai aG) (et (fU aU) (et (ip bJ) (et (ip bi) (et (ip dB) (et (ip iU) (ai iY)))))))))
 exact⟨vX,vY,vZ,S,T,U,V,W,X,N,O,F,G,P,Y,Q,R,j,d,I,l,f,J,n,g,K,p,h,L,rfl,wh,ja,M,B,C,E,s,u,y,z⟩
 refine jF (dF iU) (sk (rt (tR (Fin.res (res0 rfl) ?_))))
 have wm:=bL.px [] [0,1,23] []
 obtain⟨rfl,rfl⟩:=fT (hr.symm.trans (show _=(p0,a) from et (ip aS) (et (ai aG) (et (fU aU) (et (ip bJ) (et (ip bi) (et (ip dB) (iN iU))))))))
 exact⟨aD,aF,au,S,T,U,V,W,X,N,O,F,G,P,Y,Q,R,j,d,I,l,f,J,n,g,K,p,h,L,rfl,wm,ag,M,B,C,E,s,u,y,z⟩
 refine jF (dF dB) (sk ?_)
 have jW:=bL.px [] [23] []
 refine EO (Mz rfl (Lz (vI (b.aJ - 10)) jW 0 Tryz.isAgg3 (La (gP b av Z ay aa aB ae) jW 1 Tryz.isAgg42 Tryz.sizeOf42 ?_)))
 have wo:=jW.pb [0,1]
 obtain⟨⟨lY,lZ⟩,jc⟩:∃ q:bQ × aC,eP p0 (b.aJ - 10) b a=q:=⟨_,rfl⟩
 obtain⟨BV,l5,di,l6,AY⟩:=FM wo
 refine cl Tryz.call90 (jr _ _ g0 p0 aD aF au (b.aJ - 10) b av b.aD.ls.length Z ay b.ah.ls.length aa bf aB b.ag.ls.length ae r a S T U V W X N O F G P Y Q R j d I l f J n g K p h L lY lZ l5 ag rfl (di _ aW) (show b.aD.ls.length≤Z∧b.aD.ls.length≤9223372036854775807 from by omega) aR rfl (di _ aY) (show b.ah.ls.length≤aa∧b.ah.ls.length≤9223372036854775807 from by omega) (fun x9 h9=>⟨di _ (ah x9 h9).1,(ah x9 h9).2⟩) rfl (di _ aZ) (show b.ag.ls.length≤ae∧b.ag.ls.length≤9223372036854775807 from by omega) M B C E s u y z (by first | omega | (dsimp only; omega) | (simp only [List.length_nil]; omega) | decide) (by omega) (by first | omega | (dsimp only; omega) | (simp only [List.length_nil]; omega) | decide) jc) ?_
 rintro _ BX ⟨wu,ww,wy,wz,wB,wC,wD,l7,wE,l8,l9,ma,mf,mg,mh,mi,mo,mq,mr,mD,mE,mF,mG,mH,mI,mJ,mK,mM,mO,rfl,mP,jd,dC,dE,dG,dI,dJ,dK,dL,dM⟩
 have bS:=l6 _ _ mP
 have wF:=aA jd
 have wG:=aA dC
 have wH:=aA dE
 have wI:=aA dG
 have wJ:=aA dI
 have wK:=aA dJ
 have wL:=aA dK
 have wM:=aA dL
 have wN:=aA dM
 have wO:=bS.rowC (i:=1) rfl
 have wP:=bS.rowC (i:=4) rfl
 have wQ:=bS.rowC (i:=5) rfl
 have wR:=bS.rowC (i:=7) rfl
 have wS:=bS.rowC (i:=9) rfl
 have wT:=bS.rowC (i:=11) rfl
 have wU:=bS.rowC (i:=13) rfl
 have wV:=bS.rowC (i:=15) rfl
 have wW:=bS.rowC (i:=17) rfl
 have wX:=bS.rowC (i:=19) rfl
 refine WL.nil (Ff (res0 rfl) ?_)
 have mQ:=bS.px [] [21,22] []
 obtain⟨rfl,rfl⟩:=fT (hr.symm.trans (show _=(lY,lZ) from et (ip aS) (et (ai aG) (et (fU aU) (et (ip bJ) (et (ip bi) (et (iN dB) (ai jc))))))))
 exact⟨wu,ww,wy,wz,wB,wC,wD,l7,wE,l8,l9,ma,mf,mg,mh,mi,mo,mq,mr,mD,mE,mF,mG,mH,mI,mJ,mK,mM,mO,rfl,mQ,jd,dC,dE,dG,dI,dJ,dK,dL,dM⟩
 refine Sz bi (Sz bi (Sz bi (Sz bi (Sz bi (fw (.bool false) (ES rfl bi rfl) (nt (jf (sk ?_))))))))
 have dN:=bL.px [] [23] []
 refine EO (Mz rfl (Lz (vI (b.aJ - 10)) dN 0 Tryz.isAgg3 (La (gP b av Z ay aa aB ae) dN 1 Tryz.isAgg42 Tryz.sizeOf42 ?_)))
 have mR:=dN.pb [0,1]
 obtain⟨⟨je,jg⟩,dQ⟩:∃ q:bQ × aC,eP p0 (b.aJ - 10) b a=q:=⟨_,rfl⟩
 obtain⟨AZ,jX,bX,jY,wY⟩:=FM mR
 refine cl Tryz.call90 (jr _ _ g0 p0 aD aF au (b.aJ - 10) b av b.aD.ls.length Z ay b.ah.ls.length aa bf aB b.ag.ls.length ae r a S T U V W X N O F G P Y Q R j d I l f J n g K p h L je jg jX ag rfl (bX _ aW) (show b.aD.ls.length≤Z∧b.aD.ls.length≤9223372036854775807 from by omega) aR rfl (bX _ aY) (show b.ah.ls.length≤aa∧b.ah.ls.length≤9223372036854775807 from by omega) (fun x9 h9=>⟨bX _ (ah x9 h9).1,(ah x9 h9).2⟩) rfl (bX _ aZ) (show b.ag.ls.length≤ae∧b.ag.ls.length≤9223372036854775807 from by omega) M B C E s u y z (by first | omega | (dsimp only; omega) | (simp only [List.length_nil]; omega) | decide) (by omega) (by first | omega | (dsimp only; omega) | (simp only [List.length_nil]; omega) | decide) dQ) ?_
 rintro _ A7 ⟨mU,mV,mW,mX,mY,mZ,ng,ni,nk,nu,ny,nz,nA,nD,nE,nG,nH,nI,nJ,nK,nL,nM,nN,nO,nP,nQ,nR,nS,nT,rfl,jZ,dR,dS,dU,dV,dX,dY,dZ,d9,ed⟩
 have bq:=jY _ _ jZ
 have wZ:=aA dR
 have w9:=aA dS
 have xc:=aA dU
 have xe:=aA dV
 have xg:=aA dX
 have xh:=aA dY
 have xk:=aA dZ
 have xm:=aA d9
 have xn:=aA ed
 have xq:=bq.rowC (i:=1) rfl
 have xu:=bq.rowC (i:=4) rfl
 have xw:=bq.rowC (i:=5) rfl
 have xx:=bq.rowC (i:=7) rfl
 have xy:=bq.rowC (i:=9) rfl
 have xz:=bq.rowC (i:=11) rfl
 have xA:=bq.rowC (i:=13) rfl
 have xB:=bq.rowC (i:=15) rfl
 have xC:=bq.rowC (i:=17) rfl
 have xD:=bq.rowC (i:=19) rfl
 refine WL.nil (Ff (res0 rfl) ?_)
 have nU:=bq.px [] [21,22] []
 obtain⟨rfl,rfl⟩:=fT (hr.symm.trans (show _=(je,jg) from et (ip aS) (et (ai aG) (et (fU aU) (et (ip bJ) (et (fU bi) (ai dQ)))))))
 exact⟨mU,mV,mW,mX,mY,mZ,ng,ni,nk,nu,ny,nz,nA,nD,nE,nG,nH,nI,nJ,nK,nL,nM,nN,nO,nP,nQ,nR,nS,nT,rfl,nU,dR,dS,dU,dV,dX,dY,dZ,d9,ed⟩
 by_cases bg:b.aJ - 10=2
 refine qt (v:=vP r 17) 7 rfl (fun _ _=>by rw [show b.aJ - 10=2 from by omega]; exact yk) (qt (v:= .agg #[.bool a.aM.aS,vU a.aM.aK,vI a.aM.bi, .slice l a.aM.ae.ls.length f]) 8 rfl (fun _ ⟨_,H9⟩=>EY rfl (Fb (cs:= [.bool a.aM.aS,vU a.aM.aK,vI a.aM.bi, .slice l a.aM.ae.ls.length f]) Tryz.isAgg81 Tryz.sizeOf81 ((H9.cls (i:=5) rfl).lit (k:=17) (m:=4) rfl))) ?_)
 refine qd 9 rfl (FP (cs:= [.bool false, .int .u64 0,vI 0, .slice none 0 0]) (t:=81) iT rfl rfl (fun _=>by kernel_rfl) ?_)
 intro bU A8 nV
 have ji:=nV.pb [0]
 refine⟨.inr ⟨_,ji⟩, ?_⟩
 have nW:=ji.pf [23]
 refine qe 10 rfl (Do.store (vs:= [.bool a.aM.aS,vU a.aM.aK,vI a.aM.bi, .slice l a.aM.ae.ls.length f]) (o:=0) nW rfl rfl Tryz.sizeOf81 rfl rfl rfl rfl ?_)
 intro A9 nX
 have aN:=nX.pb [0]
 refine⟨.inr ⟨_,aN⟩, ?_⟩
 refine qn (ER (sr (Kz (vP bU 0) (Lz (.bool a.aM.aS) aN 23 Tryz.isAgg4 (Mz rfl ?_)))))
 rcases IW (a.aM.aS) with aJ | aJ
 refine Gz (vP bU 1) aJ (Gl (vU a.aM.aK) aJ aN 23 Tryz.isAgg28 (Gz (vP bT 6) aJ (Gl (vU b.aU) aJ aN 1 Tryz.isAgg28 (Gz (.bool (decide (((a.aM.aK:Nat):Int) ≥ ((b.aU:Nat):Int)))) aJ (fw (.bool (decide (((a.aM.aK:Nat):Int) ≥ ((b.aU:Nat):Int)))) (Fa rfl aJ rfl) (nt ?_))))))
 by_cases cZ:((a.aM.aK:Nat):Int) ≥ ((b.aU:Nat):Int)
 refine jT (dT cZ) (EP (sr (Kz (vP bU 1) (Lz (vU a.aM.aK) aN 23 Tryz.isAgg28 (Kz (vP bT 6) (Lz (vU b.aU) aN 1 Tryz.isAgg28 (Kz (.bool (decide (((a.aM.aK:Nat):Int)=((b.aU:Nat):Int)))) (nt ?_))))))))
 by_cases dm:((a.aM.aK:Nat):Int)=((b.aU:Nat):Int)
 refine jT (dT dm) (EO (Mz rfl (Lz (vI (b.aJ - 10)) aN 0 Tryz.isAgg3 (Kz (vP bU 1) (Lz (vU a.aM.aK) aN 23 Tryz.isAgg28 (Kz (vP bU 2) (Lz (vI a.aM.bi) aN 23 Tryz.isAgg3 (Kz (vP bU 3) (Lz (.slice l a.aM.ae.ls.length f) aN 23 Tryz.isAgg40 ?_)))))))))
 refine WL.do rfl (Fe Tryz.call89 rfl ?_ (fun _ _ k=>k))
 refine cb Tryz.func89 ?_
 refine EO (Mz rfl (Mz rfl (fw (vI (10+(b.aJ - 10))) (EQ (e:=IntKind.i64.wrap (10+(b.aJ - 10))) yk (by rw [IR _ (by omega)])) (Mz rfl (Mz rfl (Kz (vP g0 0) (Kz (vP g0 0) (Lz (vP r 0) aN 2 Tryz.isAgg24 (Kz (vP r 0) (Kz (vP r 0) (Kz (vP r 1) (Lz (vU a.aa.ay) aN 5 Tryz.isAgg28 (Mz rfl (Mz rfl (Kz (.agg (gN 2 0 (10+(b.aJ - 10)) 0 a.aM.bi 0 a.aM.aK a.aa.ay 0 0 0 0 0 0 0 false ([]) ([]) none 0 0 l a.aM.ae.ls.length f none 0 0).toArray) ?_)))))))))))))))
 have jk:=aN.pf [2,3,4]
 obtain⟨ek,eu⟩:∃ q,dD p0 (bP.mk 2 0 (10+(b.aJ - 10)) 0 a.aM.bi 0 a.aM.aK a.aa.ay 0 0 0 0 0 0 0 false (bK.mk ([]) ([])) (Ll.mk ([])) (Ll.mk a.aM.ae.ls) (Ll.mk ([])))=q:=⟨_,rfl⟩
 obtain⟨Ba,j3,xE,j4,eB⟩:=FC jk
 refine cl Tryz.call65 (fE _ _ g0 p0 aD aF au r (bP.mk 2 0 (10+(b.aJ - 10)) 0 a.aM.bi 0 a.aM.aK a.aa.ay 0 0 0 0 0 0 0 false (bK.mk ([]) ([])) (Ll.mk ([])) (Ll.mk a.aM.ae.ls) (Ll.mk ([]))) none 0 0 l a.aM.ae.ls.length f J none 0 0 ek j3 ag rfl (fun _ _=>bD.nil _ _ _) (by first | exact⟨IQ rfl,IQ rfl⟩ | omega | exact⟨Nat.le_refl _,by omega⟩) u rfl (eB _ 14 _ rfl aT) (show a.aM.ae.ls.length≤f∧a.aM.ae.ls.length≤9223372036854775807 from by omega) (fun x9 h9=>⟨eB _ 15 _ rfl (ax (List.mem_flatMap.2 ⟨x9,h9, .head _⟩) aT),bz (φ:=fun _=>_) jk (i:=18) rfl (ax (List.mem_flatMap.2 ⟨x9,h9, .head _⟩) bn)⟩) rfl (fun _ _=>bD.nil _ _ _) (by first | exact⟨IQ rfl,IQ rfl⟩ | omega | exact⟨Nat.le_refl _,by omega⟩) (by first | omega | (dsimp only; omega) | (simp only [List.length_nil]; omega) | decide) (by first | assumption | exact dH (by assumption) | exact fun x hx=>absurd hx List.not_mem_nil | exact dH (Mk.lW (by assumption)).1 | exact dH (Mk.kZ (by assumption)).1 | exact dH (Mk.mg (by assumption)).1 | exact dH (Mk.mf (by assumption)).1 | exact dH (Mk.mh (by assumption)).1) eu) ?_
 rintro _ Bb ⟨nY,nZ,og,rfl,j5,eD,eF⟩
 have jl:=j4 _ _ j5
 have xG:=aA eD
 have xH:=jl.rowC (i:=1) rfl
 replace eF:ek.bE.ls.length=p0.bE.ls.length+1:=eF
 refine WL.nil (Ff (res0 rfl) (nt (rt (tR (Fin.res (res0 rfl) ?_)))))
 have oh:=jl.px [] [3,4,23] []
 obtain⟨rfl,rfl⟩:=fT (hr.symm.trans (show _=(ek,a) from et (ip aS) (et (ai aG) (et (fU aU) (et (iN bJ) (et (ip bg) (et (ip aJ) (et (ip cZ) (et (ip dm) (ai eu))))))))))
 exact⟨nY,nZ,og,S,T,U,V,W,X,N,O,F,G,P,Y,Q,R,j,d,I,l,f,J,n,g,K,p,h,L,rfl,oh,eD,M,B,C,E,s,u,y,z⟩
 refine jF (dF dm) (sk (rt (tR (Fin.res (res0 rfl) ?_))))
 have ol:=aN.px [] [0,1,23] []
 obtain⟨rfl,rfl⟩:=fT (hr.symm.trans (show _=(p0,a) from et (ip aS) (et (ai aG) (et (fU aU) (et (iN bJ) (et (ip bg) (et (ip aJ) (et (ip cZ) (iN dm)))))))))
 exact⟨aD,aF,au,S,T,U,V,W,X,N,O,F,G,P,Y,Q,R,j,d,I,l,f,J,n,g,K,p,h,L,rfl,ol,ag,M,B,C,E,s,u,y,z⟩
 refine jF (dF cZ) (sk ?_)
 have eG:=aN.px [] [23] []
 refine EO (Mz rfl (Lz (vI (b.aJ - 10)) eG 0 Tryz.isAgg3 (La (gP b av Z ay aa aB ae) eG 1 Tryz.isAgg42 Tryz.sizeOf42 ?_)))
 have om:=eG.pb [0,1]
 obtain⟨⟨jm,jo⟩,eH⟩:∃ q:bQ × aC,eP p0 (b.aJ - 10) b a=q:=⟨_,rfl⟩
 obtain⟨Bc,j6,bY,kg,xI⟩:=FM om
 refine cl Tryz.call90 (jr _ _ g0 p0 aD aF au (b.aJ - 10) b av b.aD.ls.length Z ay b.ah.ls.length aa bf aB b.ag.ls.length ae r a S T U V W X N O F G P Y Q R j d I l f J n g K p h L jm jo j6 ag rfl (bY _ aW) (show b.aD.ls.length≤Z∧b.aD.ls.length≤9223372036854775807 from by omega) aR rfl (bY _ aY) (show b.ah.ls.length≤aa∧b.ah.ls.length≤9223372036854775807 from by omega) (fun x9 h9=>⟨bY _ (ah x9 h9).1,(ah x9 h9).2⟩) rfl (bY _ aZ) (show b.ag.ls.length≤ae∧b.ag.ls.length≤9223372036854775807 from by omega) M B C E s u y z (by first | omega | (dsimp only; omega) | (simp only [List.length_nil]; omega) | decide) (by omega) (by first | omega | (dsimp only; omega) | (simp only [List.length_nil]; omega) | decide) eH) ?_
 rintro _ Bd ⟨oo,oq,ou,ow,oz,oC,oD,oG,oH,oI,oJ,oK,oL,oM,oN,oO,oP,oQ,oU,oV,oW,oZ,o5,o6,o7,o8,o9,pg,pq,rfl,ko,eO,eQ,eT,eU,eX,eY,eZ,fe,fo⟩
 have bu:=kg _ _ ko
 have xJ:=aA eO
 have xK:=aA eQ
 have xL:=aA eT
 have xM:=aA eU
 have xO:=aA eX
 have xP:=aA eY
 have xQ:=aA eZ
 have xR:=aA fe
 have xS:=aA fo
 have xU:=bu.rowC (i:=1) rfl
 have xV:=bu.rowC (i:=4) rfl
 have xW:=bu.rowC (i:=5) rfl
 have xX:=bu.rowC (i:=7) rfl
 have xY:=bu.rowC (i:=9) rfl
 have xZ:=bu.rowC (i:=11) rfl
 have x8:=bu.rowC (i:=13) rfl
 have yc:=bu.rowC (i:=15) rfl
 have yf:=bu.rowC (i:=17) rfl
 have yg:=bu.rowC (i:=19) rfl
 refine WL.nil (Ff (res0 rfl) ?_)
 have pu:=bu.px [] [21,22] []
 obtain⟨rfl,rfl⟩:=fT (hr.symm.trans (show _=(jm,jo) from et (ip aS) (et (ai aG) (et (fU aU) (et (iN bJ) (et (ip bg) (et (ip aJ) (et (iN cZ) (ai eH)))))))))
 exact⟨oo,oq,ou,ow,oz,oC,oD,oG,oH,oI,oJ,oK,oL,oM,oN,oO,oP,oQ,oU,oV,oW,oZ,o5,o6,o7,o8,o9,pg,pq,rfl,pu,eO,eQ,eT,eU,eX,eY,eZ,fe,fo⟩
 refine Sz aJ (Sz aJ (Sz aJ (Sz aJ (Sz aJ (fw (.bool false) (ES rfl aJ rfl) (nt (jf (sk ?_))))))))
 have fq:=aN.px [] [23] []
 refine EO (Mz rfl (Lz (vI (b.aJ - 10)) fq 0 Tryz.isAgg3 (La (gP b av Z ay aa aB ae) fq 1 Tryz.isAgg42 Tryz.sizeOf42 ?_)))
 have pz:=fq.pb [0,1]
 obtain⟨⟨jq,jv⟩,fu⟩:∃ q:bQ × aC,eP p0 (b.aJ - 10) b a=q:=⟨_,rfl⟩
 obtain⟨Be,ku,bZ,kv,yh⟩:=FM pz
 refine cl Tryz.call90 (jr _ _ g0 p0 aD aF au (b.aJ - 10) b av b.aD.ls.length Z ay b.ah.ls.length aa bf aB b.ag.ls.length ae r a S T U V W X N O F G P Y Q R j d I l f J n g K p h L jq jv ku ag rfl (bZ _ aW) (show b.aD.ls.length≤Z∧b.aD.ls.length≤9223372036854775807 from by omega) aR rfl (bZ _ aY) (show b.ah.ls.length≤aa∧b.ah.ls.length≤9223372036854775807 from by omega) (fun x9 h9=>⟨bZ _ (ah x9 h9).1,(ah x9 h9).2⟩) rfl (bZ _ aZ) (show b.ag.ls.length≤ae∧b.ag.ls.length≤9223372036854775807 from by omega) M B C E s u y z (by first | omega | (dsimp only; omega) | (simp only [List.length_nil]; omega) | decide) (by omega) (by first | omega | (dsimp only; omega) | (simp only [List.length_nil]; omega) | decide) fu) ?_
 rintro _ Bf ⟨pE,pF,pG,pI,pJ,pK,pM,pO,pQ,pR,pU,pV,pW,pX,pY,p8,p9,qa,qb,qc,qf,qg,qh,qi,qj,qm,qo,qw,qx,rfl,kw,fA,fB,fC,fD,fF,fG,fH,fI,fJ⟩
 have bE:=kv _ _ kw
 have yj:=aA fA
 have yl:=aA fB
 have ym:=aA fC
 have yn:=aA fD
 have yo:=aA fF
 have yt:=aA fG
 have yu:=aA fH
 have yw:=aA fI
 have yx:=aA fJ
 have yz:=bE.rowC (i:=1) rfl
 have yA:=bE.rowC (i:=4) rfl
 have yB:=bE.rowC (i:=5) rfl
 have yC:=bE.rowC (i:=7) rfl
 have yD:=bE.rowC (i:=9) rfl
 have yE:=bE.rowC (i:=11) rfl
 have yF:=bE.rowC (i:=13) rfl
 have yG:=bE.rowC (i:=15) rfl
 have yH:=bE.rowC (i:=17) rfl
 have yI:=bE.rowC (i:=19) rfl
 refine WL.nil (Ff (res0 rfl) ?_)
 have qy:=bE.px [] [21,22] []
 obtain⟨rfl,rfl⟩:=fT (hr.symm.trans (show _=(jq,jv) from et (ip aS) (et (ai aG) (et (fU aU) (et (iN bJ) (et (ip bg) (et (fU aJ) (ai fu))))))))
 exact⟨pE,pF,pG,pI,pJ,pK,pM,pO,pQ,pR,pU,pV,pW,pX,pY,p8,p9,qa,qb,qc,qf,qg,qh,qi,qj,qm,qo,qw,qx,rfl,qy,fA,fB,fC,fD,fF,fG,fH,fI,fJ⟩
 by_cases bR:b.aJ - 10=3
 refine qt (v:=vP r 21) 7 rfl (fun _ _=>by rw [show b.aJ - 10=3 from by omega]; exact yk) (qt (v:= .agg #[.bool a.aO.aS,vU a.aO.aK,vI a.aO.bi, .slice n a.aO.ae.ls.length g]) 8 rfl (fun _ ⟨_,H9⟩=>EY rfl (Fb (cs:= [.bool a.aO.aS,vU a.aO.aK,vI a.aO.bi, .slice n a.aO.ae.ls.length g]) Tryz.isAgg81 Tryz.sizeOf81 ((H9.cls (i:=5) rfl).lit (k:=21) (m:=4) rfl))) ?_)
 refine qd 9 rfl (FP (cs:= [.bool false, .int .u64 0,vI 0, .slice none 0 0]) (t:=81) iT rfl rfl (fun _=>by kernel_rfl) ?_)
 intro bV Bg qz
 have jw:=qz.pb [0]
 refine⟨.inr ⟨_,jw⟩, ?_⟩
 have qA:=jw.pf [23]
 refine qe 10 rfl (Do.store (vs:= [.bool a.aO.aS,vU a.aO.aK,vI a.aO.bi, .slice n a.aO.ae.ls.length g]) (o:=0) qA rfl rfl Tryz.sizeOf81 rfl rfl rfl rfl ?_)
 intro Bh qB
 have aO:=qB.pb [0]
 refine⟨.inr ⟨_,aO⟩, ?_⟩
 refine qn (ER (sr (Kz (vP bV 0) (Lz (.bool a.aO.aS) aO 23 Tryz.isAgg4 (Mz rfl ?_)))))
 rcases IW (a.aO.aS) with aK | aK
 refine Gz (vP bV 1) aK (Gl (vU a.aO.aK) aK aO 23 Tryz.isAgg28 (Gz (vP bT 6) aK (Gl (vU b.aU) aK aO 1 Tryz.isAgg28 (Gz (.bool (decide (((a.aO.aK:Nat):Int) ≥ ((b.aU:Nat):Int)))) aK (fw (.bool (decide (((a.aO.aK:Nat):Int) ≥ ((b.aU:Nat):Int)))) (Fa rfl aK rfl) (nt ?_))))))
 by_cases df:((a.aO.aK:Nat):Int) ≥ ((b.aU:Nat):Int)
 refine jT (dT df) (EP (sr (Kz (vP bV 1) (Lz (vU a.aO.aK) aO 23 Tryz.isAgg28 (Kz (vP bT 6) (Lz (vU b.aU) aO 1 Tryz.isAgg28 (Kz (.bool (decide (((a.aO.aK:Nat):Int)=((b.aU:Nat):Int)))) (nt ?_))))))))
 by_cases dn:((a.aO.aK:Nat):Int)=((b.aU:Nat):Int)
 refine jT (dT dn) (EO (Mz rfl (Lz (vI (b.aJ - 10)) aO 0 Tryz.isAgg3 (Kz (vP bV 1) (Lz (vU a.aO.aK) aO 23 Tryz.isAgg28 (Kz (vP bV 2) (Lz (vI a.aO.bi) aO 23 Tryz.isAgg3 (Kz (vP bV 3) (Lz (.slice n a.aO.ae.ls.length g) aO 23 Tryz.isAgg40 ?_)))))))))
 refine WL.do rfl (Fe Tryz.call89 rfl ?_ (fun _ _ k=>k))
 refine cb Tryz.func89 ?_
 refine EO (Mz rfl (Mz rfl (fw (vI (10+(b.aJ - 10))) (EQ (e:=IntKind.i64.wrap (10+(b.aJ - 10))) yk (by rw [IR _ (by omega)])) (Mz rfl (Mz rfl (Kz (vP g0 0) (Kz (vP g0 0) (Lz (vP r 0) aO 2 Tryz.isAgg24 (Kz (vP r 0) (Kz (vP r 0) (Kz (vP r 1) (Lz (vU a.aa.ay) aO 5 Tryz.isAgg28 (Mz rfl (Mz rfl (Kz (.agg (gN 2 0 (10+(b.aJ - 10)) 0 a.aO.bi 0 a.aO.aK a.aa.ay 0 0 0 0 0 0 0 false ([]) ([]) none 0 0 n a.aO.ae.ls.length g none 0 0).toArray) ?_)))))))))))))))
 have jy:=aO.pf [2,3,4]
 obtain⟨fK,fM⟩:∃ q,dD p0 (bP.mk 2 0 (10+(b.aJ - 10)) 0 a.aO.bi 0 a.aO.aK a.aa.ay 0 0 0 0 0 0 0 false (bK.mk ([]) ([])) (Ll.mk ([])) (Ll.mk a.aO.ae.ls) (Ll.mk ([])))=q:=⟨_,rfl⟩
 obtain⟨Bi,ky,yJ,kz,fO⟩:=FC jy
 refine cl Tryz.call65 (fE _ _ g0 p0 aD aF au r (bP.mk 2 0 (10+(b.aJ - 10)) 0 a.aO.bi 0 a.aO.aK a.aa.ay 0 0 0 0 0 0 0 false (bK.mk ([]) ([])) (Ll.mk ([])) (Ll.mk a.aO.ae.ls) (Ll.mk ([]))) none 0 0 n a.aO.ae.ls.length g K none 0 0 fK ky ag rfl (fun _ _=>bD.nil _ _ _) (by first | exact⟨IQ rfl,IQ rfl⟩ | omega | exact⟨Nat.le_refl _,by omega⟩) y rfl (fO _ 16 _ rfl aT) (show a.aO.ae.ls.length≤g∧a.aO.ae.ls.length≤9223372036854775807 from by omega) (fun x9 h9=>⟨fO _ 17 _ rfl (ax (List.mem_flatMap.2 ⟨x9,h9, .head _⟩) aT),bz (φ:=fun _=>_) jy (i:=20) rfl (ax (List.mem_flatMap.2 ⟨x9,h9, .head _⟩) bn)⟩) rfl (fun _ _=>bD.nil _ _ _) (by first | exact⟨IQ rfl,IQ rfl⟩ | omega | exact⟨Nat.le_refl _,by omega⟩) (by first | omega | (dsimp only; omega) | (simp only [List.length_nil]; omega) | decide) (by first | assumption | exact dH (by assumption) | exact fun x hx=>absurd hx List.not_mem_nil | exact dH (Mk.lW (by assumption)).1 | exact dH (Mk.kZ (by assumption)).1 | exact dH (Mk.mg (by assumption)).1 | exact dH (Mk.mf (by assumption)).1 | exact dH (Mk.mh (by assumption)).1) fM) ?_
 rintro _ Bj ⟨qC,qD,qE,rfl,kC,fP,fQ⟩
 have jA:=kz _ _ kC
 have yK:=aA fP
 have yL:=jA.rowC (i:=1) rfl
 replace fQ:fK.bE.ls.length=p0.bE.ls.length+1:=fQ
 refine WL.nil (Ff (res0 rfl) (nt (rt (tR (Fin.res (res0 rfl) ?_)))))
 have qF:=jA.px [] [3,4,23] []
 obtain⟨rfl,rfl⟩:=fT (hr.symm.trans (show _=(fK,a) from et (ip aS) (et (ai aG) (et (fU aU) (et (iN bJ) (et (iN bg) (et (ip bR) (et (ip aK) (et (ip df) (et (ip dn) (ai fM)))))))))))
 exact⟨qC,qD,qE,S,T,U,V,W,X,N,O,F,G,P,Y,Q,R,j,d,I,l,f,J,n,g,K,p,h,L,rfl,qF,fP,M,B,C,E,s,u,y,z⟩
 refine jF (dF dn) (sk (rt (tR (Fin.res (res0 rfl) ?_))))
 have qG:=aO.px [] [0,1,23] []
 obtain⟨rfl,rfl⟩:=fT (hr.symm.trans (show _=(p0,a) from et (ip aS) (et (ai aG) (et (fU aU) (et (iN bJ) (et (iN bg) (et (ip bR) (et (ip aK) (et (ip df) (iN dn))))))))))
 exact⟨aD,aF,au,S,T,U,V,W,X,N,O,F,G,P,Y,Q,R,j,d,I,l,f,J,n,g,K,p,h,L,rfl,qG,ag,M,B,C,E,s,u,y,z⟩
 refine jF (dF df) (sk ?_)
 have fV:=aO.px [] [23] []
 refine EO (Mz rfl (Lz (vI (b.aJ - 10)) fV 0 Tryz.isAgg3 (La (gP b av Z ay aa aB ae) fV 1 Tryz.isAgg42 Tryz.sizeOf42 ?_)))
 have qH:=fV.pb [0,1]
 obtain⟨⟨jB,jC⟩,fZ⟩:∃ q:bQ × aC,eP p0 (b.aJ - 10) b a=q:=⟨_,rfl⟩
 obtain⟨Bl,kD,cu,kE,yM⟩:=FM qH
 refine cl Tryz.call90 (jr _ _ g0 p0 aD aF au (b.aJ - 10) b av b.aD.ls.length Z ay b.ah.ls.length aa bf aB b.ag.ls.length ae r a S T U V W X N O F G P Y Q R j d I l f J n g K p h L jB jC kD ag rfl (cu _ aW) (show b.aD.ls.length≤Z∧b.aD.ls.length≤9223372036854775807 from by omega) aR rfl (cu _ aY) (show b.ah.ls.length≤aa∧b.ah.ls.length≤9223372036854775807 from by omega) (fun x9 h9=>⟨cu _ (ah x9 h9).1,(ah x9 h9).2⟩) rfl (cu _ aZ) (show b.ag.ls.length≤ae∧b.ag.ls.length≤9223372036854775807 from by omega) M B C E s u y z (by first | omega | (dsimp only; omega) | (simp only [List.length_nil]; omega) | decide) (by omega) (by first | omega | (dsimp only; omega) | (simp only [List.length_nil]; omega) | decide) fZ) ?_
 rintro _ Bn ⟨qI,qJ,qK,qL,qM,qN,qO,qP,qQ,qR,qU,qV,qW,qX,qY,qZ,q8,q9,rf,rq,ru,ry,rz,rA,rC,rD,rE,rF,rG,rfl,kF,gm,gp,gq,gu,gy,gz,gB,gD,gF⟩
 have bF:=kE _ _ kF
 have yN:=aA gm
 have yO:=aA gp
 have yP:=aA gq
 have yQ:=aA gu
 have yR:=aA gy
 have yS:=aA gz
 have yT:=aA gB
 have yU:=aA gD
 have yV:=aA gF
 have yX:=bF.rowC (i:=1) rfl
 have yY:=bF.rowC (i:=4) rfl
 have yZ:=bF.rowC (i:=5) rfl
 have y5:=bF.rowC (i:=7) rfl
 have y7:=bF.rowC (i:=9) rfl
 have y8:=bF.rowC (i:=11) rfl
 have y9:=bF.rowC (i:=13) rfl
 have za:=bF.rowC (i:=15) rfl
 have zb:=bF.rowC (i:=17) rfl
 have ze:=bF.rowC (i:=19) rfl
 refine WL.nil (Ff (res0 rfl) ?_)
 have rH:=bF.px [] [21,22] []
 obtain⟨rfl,rfl⟩:=fT (hr.symm.trans (show _=(jB,jC) from et (ip aS) (et (ai aG) (et (fU aU) (et (iN bJ) (et (iN bg) (et (ip bR) (et (ip aK) (et (iN df) (ai fZ))))))))))
 exact⟨qI,qJ,qK,qL,qM,qN,qO,qP,qQ,qR,qU,qV,qW,qX,qY,qZ,q8,q9,rf,rq,ru,ry,rz,rA,rC,rD,rE,rF,rG,rfl,rH,gm,gp,gq,gu,gy,gz,gB,gD,gF⟩
 refine Sz aK (Sz aK (Sz aK (Sz aK (Sz aK (fw (.bool false) (ES rfl aK rfl) (nt (jf (sk ?_))))))))
 have gG:=aO.px [] [23] []
 refine EO (Mz rfl (Lz (vI (b.aJ - 10)) gG 0 Tryz.isAgg3 (La (gP b av Z ay aa aB ae) gG 1 Tryz.isAgg42 Tryz.sizeOf42 ?_)))
 have rJ:=gG.pb [0,1]
 obtain⟨⟨jD,jE⟩,gH⟩:∃ q:bQ × aC,eP p0 (b.aJ - 10) b a=q:=⟨_,rfl⟩
 obtain⟨Bo,kG,cz,kH,zf⟩:=FM rJ
 refine cl Tryz.call90 (jr _ _ g0 p0 aD aF au (b.aJ - 10) b av b.aD.ls.length Z ay b.ah.ls.length aa bf aB b.ag.ls.length ae r a S T U V W X N O F G P Y Q R j d I l f J n g K p h L jD jE kG ag rfl (cz _ aW) (show b.aD.ls.length≤Z∧b.aD.ls.length≤9223372036854775807 from by omega) aR rfl (cz _ aY) (show b.ah.ls.length≤aa∧b.ah.ls.length≤9223372036854775807 from by omega) (fun x9 h9=>⟨cz _ (ah x9 h9).1,(ah x9 h9).2⟩) rfl (cz _ aZ) (show b.ag.ls.length≤ae∧b.ag.ls.length≤9223372036854775807 from by omega) M B C E s u y z (by first | omega | (dsimp only; omega) | (simp only [List.length_nil]; omega) | decide) (by omega) (by first | omega | (dsimp only; omega) | (simp only [List.length_nil]; omega) | decide) gH) ?_
 rintro _ Bp ⟨rM,rO,rP,rQ,rR,rT,rU,rV,rW,rX,rY,rZ,r9,si,sj,su,sw,sD,sF,sG,sH,sI,sJ,sK,sM,sN,sO,sP,sQ,rfl,kI,gI,gJ,gK,gL,gM,gQ,gT,gU,gV⟩
 have bG:=kH _ _ kI
 have zg:=aA gI
 have zh:=aA gJ
 have zi:=aA gK
 have zk:=aA gL
 have zl:=aA gM
 have zm:=aA gQ
 have zn:=aA gT
 have zo:=aA gU
 have zq:=aA gV
 have zt:=bG.rowC (i:=1) rfl
 have zu:=bG.rowC (i:=4) rfl
 have zw:=bG.rowC (i:=5) rfl
 have zx:=bG.rowC (i:=7) rfl
 have zy:=bG.rowC (i:=9) rfl
 have zz:=bG.rowC (i:=11) rfl
 have zA:=bG.rowC (i:=13) rfl
 have zB:=bG.rowC (i:=15) rfl
 have zC:=bG.rowC (i:=17) rfl
 have zD:=bG.rowC (i:=19) rfl
 refine WL.nil (Ff (res0 rfl) ?_)
 have sS:=bG.px [] [21,22] []
 obtain⟨rfl,rfl⟩:=fT (hr.symm.trans (show _=(jD,jE) from et (ip aS) (et (ai aG) (et (fU aU) (et (iN bJ) (et (iN bg) (et (ip bR) (et (fU aK) (ai gH)))))))))
 exact⟨rM,rO,rP,rQ,rR,rT,rU,rV,rW,rX,rY,rZ,r9,si,sj,su,sw,sD,sF,sG,sH,sI,sJ,sK,sM,sN,sO,sP,sQ,rfl,sS,gI,gJ,gK,gL,gM,gQ,gT,gU,gV⟩
 refine qt (v:=vP r 25) 7 rfl (fun _ _=>by rw [show b.aJ - 10=4 from by omega]; exact yk) (qt (v:= .agg #[.bool a.aP.aS,vU a.aP.aK,vI a.aP.bi, .slice p a.aP.ae.ls.length h]) 8 rfl (fun _ ⟨_,H9⟩=>EY rfl (Fb (cs:= [.bool a.aP.aS,vU a.aP.aK,vI a.aP.bi, .slice p a.aP.ae.ls.length h]) Tryz.isAgg81 Tryz.sizeOf81 ((H9.cls (i:=5) rfl).lit (k:=25) (m:=4) rfl))) ?_)
 refine qd 9 rfl (FP (cs:= [.bool false, .int .u64 0,vI 0, .slice none 0 0]) (t:=81) iT rfl rfl (fun _=>by kernel_rfl) ?_)
 intro bW Bq sU
 have jG:=sU.pb [0]
 refine⟨.inr ⟨_,jG⟩, ?_⟩
 have sW:=jG.pf [23]
 refine qe 10 rfl (Do.store (vs:= [.bool a.aP.aS,vU a.aP.aK,vI a.aP.bi, .slice p a.aP.ae.ls.length h]) (o:=0) sW rfl rfl Tryz.sizeOf81 rfl rfl rfl rfl ?_)
 intro Br sZ
 have aP:=sZ.pb [0]
 refine⟨.inr ⟨_,aP⟩, ?_⟩
 refine qn (ER (sr (Kz (vP bW 0) (Lz (.bool a.aP.aS) aP 23 Tryz.isAgg4 (Mz rfl ?_)))))
 rcases IW (a.aP.aS) with aM | aM
 refine Gz (vP bW 1) aM (Gl (vU a.aP.aK) aM aP 23 Tryz.isAgg28 (Gz (vP bT 6) aM (Gl (vU b.aU) aM aP 1 Tryz.isAgg28 (Gz (.bool (decide (((a.aP.aK:Nat):Int) ≥ ((b.aU:Nat):Int)))) aM (fw (.bool (decide (((a.aP.aK:Nat):Int) ≥ ((b.aU:Nat):Int)))) (Fa rfl aM rfl) (nt ?_))))))
 by_cases dh:((a.aP.aK:Nat):Int) ≥ ((b.aU:Nat):Int)
 refine jT (dT dh) (EP (sr (Kz (vP bW 1) (Lz (vU a.aP.aK) aP 23 Tryz.isAgg28 (Kz (vP bT 6) (Lz (vU b.aU) aP 1 Tryz.isAgg28 (Kz (.bool (decide (((a.aP.aK:Nat):Int)=((b.aU:Nat):Int)))) (nt ?_))))))))
 by_cases dw:((a.aP.aK:Nat):Int)=((b.aU:Nat):Int)
 refine jT (dT dw) (EO (Mz rfl (Lz (vI (b.aJ - 10)) aP 0 Tryz.isAgg3 (Kz (vP bW 1) (Lz (vU a.aP.aK) aP 23 Tryz.isAgg28 (Kz (vP bW 2) (Lz (vI a.aP.bi) aP 23 Tryz.isAgg3 (Kz (vP bW 3) (Lz (.slice p a.aP.ae.ls.length h) aP 23 Tryz.isAgg40 ?_)))))))))
 refine WL.do rfl (Fe Tryz.call89 rfl ?_ (fun _ _ k=>k))
 refine cb Tryz.func89 ?_
 refine EO (Mz rfl (Mz rfl (fw (vI (10+(b.aJ - 10))) (EQ (e:=IntKind.i64.wrap (10+(b.aJ - 10))) yk (by rw [IR _ (by omega)])) (Mz rfl (Mz rfl (Kz (vP g0 0) (Kz (vP g0 0) (Lz (vP r 0) aP 2 Tryz.isAgg24 (Kz (vP r 0) (Kz (vP r 0) (Kz (vP r 1) (Lz (vU a.aa.ay) aP 5 Tryz.isAgg28 (Mz rfl (Mz rfl (Kz (.agg (gN 2 0 (10+(b.aJ - 10)) 0 a.aP.bi 0 a.aP.aK a.aa.ay 0 0 0 0 0 0 0 false ([]) ([]) none 0 0 p a.aP.ae.ls.length h none 0 0).toArray) ?_)))))))))))))))
 have jH:=aP.pf [2,3,4]
 obtain⟨gW,gX⟩:∃ q,dD p0 (bP.mk 2 0 (10+(b.aJ - 10)) 0 a.aP.bi 0 a.aP.aK a.aa.ay 0 0 0 0 0 0 0 false (bK.mk ([]) ([])) (Ll.mk ([])) (Ll.mk a.aP.ae.ls) (Ll.mk ([])))=q:=⟨_,rfl⟩
 obtain⟨Bt,kJ,zF,kK,gY⟩:=FC jH
 refine cl Tryz.call65 (fE _ _ g0 p0 aD aF au r (bP.mk 2 0 (10+(b.aJ - 10)) 0 a.aP.bi 0 a.aP.aK a.aa.ay 0 0 0 0 0 0 0 false (bK.mk ([]) ([])) (Ll.mk ([])) (Ll.mk a.aP.ae.ls) (Ll.mk ([]))) none 0 0 p a.aP.ae.ls.length h L none 0 0 gW kJ ag rfl (fun _ _=>bD.nil _ _ _) (by first | exact⟨IQ rfl,IQ rfl⟩ | omega | exact⟨Nat.le_refl _,by omega⟩) z rfl (gY _ 18 _ rfl aT) (show a.aP.ae.ls.length≤h∧a.aP.ae.ls.length≤9223372036854775807 from by omega) (fun x9 h9=>⟨gY _ 19 _ rfl (ax (List.mem_flatMap.2 ⟨x9,h9, .head _⟩) aT),bz (φ:=fun _=>_) jH (i:=22) rfl (ax (List.mem_flatMap.2 ⟨x9,h9, .head _⟩) bn)⟩) rfl (fun _ _=>bD.nil _ _ _) (by first | exact⟨IQ rfl,IQ rfl⟩ | omega | exact⟨Nat.le_refl _,by omega⟩) (by first | omega | (dsimp only; omega) | (simp only [List.length_nil]; omega) | decide) (by first | assumption | exact dH (by assumption) | exact fun x hx=>absurd hx List.not_mem_nil | exact dH (Mk.lW (by assumption)).1 | exact dH (Mk.kZ (by assumption)).1 | exact dH (Mk.mg (by assumption)).1 | exact dH (Mk.mf (by assumption)).1 | exact dH (Mk.mh (by assumption)).1) gX) ?_
 rintro _ Bu ⟨tq,tu,tC,rfl,kL,gZ,ib⟩
 have jI:=kK _ _ kL
 have zG:=aA gZ
 have zH:=jI.rowC (i:=1) rfl
 replace ib:gW.bE.ls.length=p0.bE.ls.length+1:=ib
 refine WL.nil (Ff (res0 rfl) (nt (rt (tR (Fin.res (res0 rfl) ?_)))))
 have tF:=jI.px [] [3,4,23] []
 obtain⟨rfl,rfl⟩:=fT (hr.symm.trans (show _=(gW,a) from et (ip aS) (et (ai aG) (et (fU aU) (et (iN bJ) (et (iN bg) (et (iN bR) (et (ip aM) (et (ip dh) (et (ip dw) (ai gX)))))))))))
 exact⟨tq,tu,tC,S,T,U,V,W,X,N,O,F,G,P,Y,Q,R,j,d,I,l,f,J,n,g,K,p,h,L,rfl,tF,gZ,M,B,C,E,s,u,y,z⟩
 refine jF (dF dw) (sk (rt (tR (Fin.res (res0 rfl) ?_))))
 have tH:=aP.px [] [0,1,23] []
 obtain⟨rfl,rfl⟩:=fT (hr.symm.trans (show _=(p0,a) from et (ip aS) (et (ai aG) (et (fU aU) (et (iN bJ) (et (iN bg) (et (iN bR) (et (ip aM) (et (ip dh) (iN dw))))))))))
 exact⟨aD,aF,au,S,T,U,V,W,X,N,O,F,G,P,Y,Q,R,j,d,I,l,f,J,n,g,K,p,h,L,rfl,tH,ag,M,B,C,E,s,u,y,z⟩
 refine jF (dF dh) (sk ?_)
 have ic:=aP.px [] [23] []
 refine EO (Mz rfl (Lz (vI (b.aJ - 10)) ic 0 Tryz.isAgg3 (La (gP b av Z ay aa aB ae) ic 1 Tryz.isAgg42 Tryz.sizeOf42 ?_)))
 have tJ:=ic.pb [0,1]
 obtain⟨⟨jJ,jK⟩,ig⟩:∃ q:bQ × aC,eP p0 (b.aJ - 10) b a=q:=⟨_,rfl⟩
 obtain⟨Bv,kM,cB,kN,zI⟩:=FM tJ
 refine cl Tryz.call90 (jr _ _ g0 p0 aD aF au (b.aJ - 10) b av b.aD.ls.length Z ay b.ah.ls.length aa bf aB b.ag.ls.length ae r a S T U V W X N O F G P Y Q R j d I l f J n g K p h L jJ jK kM ag rfl (cB _ aW) (show b.aD.ls.length≤Z∧b.aD.ls.length≤9223372036854775807 from by omega) aR rfl (cB _ aY) (show b.ah.ls.length≤aa∧b.ah.ls.length≤9223372036854775807 from by omega) (fun x9 h9=>⟨cB _ (ah x9 h9).1,(ah x9 h9).2⟩) rfl (cB _ aZ) (show b.ag.ls.length≤ae∧b.ag.ls.length≤9223372036854775807 from by omega) M B C E s u y z (by first | omega | (dsimp only; omega) | (simp only [List.length_nil]; omega) | decide) (by omega) (by first | omega | (dsimp only; omega) | (simp only [List.length_nil]; omega) | decide) ig) ?_
 rintro _ Bw ⟨tK,tL,tN,tO,tQ,tV,tX,tY,tZ,uf,ug,uh,ui,uj,uk,ul,um,uo,uq,ut,uu,uw,uy,uz,uA,uB,uC,uD,uE,rfl,kP,ik,il,iq,iw,iy,iA,iB,iC,iD⟩
 have bH:=kN _ _ kP
 have zJ:=aA ik
 have zK:=aA il
 have zL:=aA iq
 have zM:=aA iw
 have zN:=aA iy
 have zO:=aA iA
 have zP:=aA iB
 have zQ:=aA iC
 have zR:=aA iD
 have zS:=bH.rowC (i:=1) rfl
 have zT:=bH.rowC (i:=4) rfl
 have zU:=bH.rowC (i:=5) rfl
 have zV:=bH.rowC (i:=7) rfl
 have zW:=bH.rowC (i:=9) rfl
 have zX:=bH.rowC (i:=11) rfl
 have zY:=bH.rowC (i:=13) rfl
 have zZ:=bH.rowC (i:=15) rfl
 have z8:=bH.rowC (i:=17) rfl
 have Aa:=bH.rowC (i:=19) rfl
 refine WL.nil (Ff (res0 rfl) ?_)
 have uF:=bH.px [] [21,22] []
 obtain⟨rfl,rfl⟩:=fT (hr.symm.trans (show _=(jJ,jK) from et (ip aS) (et (ai aG) (et (fU aU) (et (iN bJ) (et (iN bg) (et (iN bR) (et (ip aM) (et (iN dh) (ai ig))))))))))
 exact⟨tK,tL,tN,tO,tQ,tV,tX,tY,tZ,uf,ug,uh,ui,uj,uk,ul,um,uo,uq,ut,uu,uw,uy,uz,uA,uB,uC,uD,uE,rfl,uF,ik,il,iq,iw,iy,iA,iB,iC,iD⟩
 refine Sz aM (Sz aM (Sz aM (Sz aM (Sz aM (fw (.bool false) (ES rfl aM rfl) (nt (jf (sk ?_))))))))
 have iE:=aP.px [] [23] []
 refine EO (Mz rfl (Lz (vI (b.aJ - 10)) iE 0 Tryz.isAgg3 (La (gP b av Z ay aa aB ae) iE 1 Tryz.isAgg42 Tryz.sizeOf42 ?_)))
 have uG:=iE.pb [0,1]
 obtain⟨⟨jL,jM⟩,iF⟩:∃ q:bQ × aC,eP p0 (b.aJ - 10) b a=q:=⟨_,rfl⟩
 obtain⟨Bz,kQ,cK,kR,Ab⟩:=FM uG
 refine cl Tryz.call90 (jr _ _ g0 p0 aD aF au (b.aJ - 10) b av b.aD.ls.length Z ay b.ah.ls.length aa bf aB b.ag.ls.length ae r a S T U V W X N O F G P Y Q R j d I l f J n g K p h L jL jM kQ ag rfl (cK _ aW) (show b.aD.ls.length≤Z∧b.aD.ls.length≤9223372036854775807 from by omega) aR rfl (cK _ aY) (show b.ah.ls.length≤aa∧b.ah.ls.length≤9223372036854775807 from by omega) (fun x9 h9=>⟨cK _ (ah x9 h9).1,(ah x9 h9).2⟩) rfl (cK _ aZ) (show b.ag.ls.length≤ae∧b.ag.ls.length≤9223372036854775807 from by omega) M B C E s u y z (by first | omega | (dsimp only; omega) | (simp only [List.length_nil]; omega) | decide) (by omega) (by first | omega | (dsimp only; omega) | (simp only [List.length_nil]; omega) | decide) iF) ?_
 rintro _ BA ⟨uH,uI,uJ,uK,uL,uM,uN,uO,uP,uQ,uR,uS,uT,uU,uV,uW,uX,uY,uZ,u6,u7,ve,vg,vk,vo,vv,vw,vz,vB,rfl,kS,iG,iH,iI,iJ,iK,iL,iM,iO,iP⟩
 have bI:=kR _ _ kS
 have Ac:=aA iG
 have Ad:=aA iH
 have Ae:=aA iI
 have Af:=aA iJ
 have Ag:=aA iK
 have Ah:=aA iL
 have Ai:=aA iM
 have Aj:=aA iO
 have Ak:=aA iP
 have Al:=bI.rowC (i:=1) rfl
 have Am:=bI.rowC (i:=4) rfl
 have Ao:=bI.rowC (i:=5) rfl
 have Ap:=bI.rowC (i:=7) rfl
 have Aq:=bI.rowC (i:=9) rfl
 have Ar:=bI.rowC (i:=11) rfl
 have Au:=bI.rowC (i:=13) rfl
 have Av:=bI.rowC (i:=15) rfl
 have Aw:=bI.rowC (i:=17) rfl
 have Ay:=bI.rowC (i:=19) rfl
 refine WL.nil (Ff (res0 rfl) ?_)
 have vC:=bI.px [] [21,22] []
 obtain⟨rfl,rfl⟩:=fT (hr.symm.trans (show _=(jL,jM) from et (ip aS) (et (ai aG) (et (fU aU) (et (iN bJ) (et (iN bg) (et (iN bR) (et (fU aM) (ai iF)))))))))
 exact⟨uH,uI,uJ,uK,uL,uM,uN,uO,uP,uQ,uR,uS,uT,uU,uV,uW,uX,uY,uZ,u6,u7,ve,vg,vk,vo,vv,vw,vz,vB,rfl,vC,iG,iH,iI,iJ,iK,iL,iM,iO,iP⟩
 refine jT (dT aS) (sr (Mz rfl (Lz (vI (b.aJ - 10)) bN 0 Tryz.isAgg3 (La (gP b av Z ay aa aB ae) bN 1 Tryz.isAgg42 Tryz.sizeOf42 ?_))))
 have aQ:=bN.pf [2,3,4,5]
 have Az:=aQ.rowC (i:=9) rfl
 have AA:=aQ.rowC (i:=13) rfl
 have AB:=aQ.rowC (i:=15) rfl
 have AC:=aQ.rowC (i:=17) rfl
 have AJ:=aQ.rowC (i:=19) rfl
 have AL:=aQ.rowC (i:=21) rfl
 obtain⟨jN,iQ⟩:∃ q,lq p0 (b.aJ - 10) b a=q:=⟨_,rfl⟩
 obtain⟨BB,kT,cO,kU,aH⟩:=FL aQ
 refine cl Tryz.call86 (sV _ _ g0 p0 aD aF au (b.aJ - 10) b av b.aD.ls.length Z ay b.ah.ls.length aa bf aB b.ag.ls.length ae r a S T U V X N O F G Y Q R j d I l f J n g K p h L jN kT ag rfl (cO _ aW) (show b.aD.ls.length≤Z∧b.aD.ls.length≤9223372036854775807 from by omega) aR rfl (cO _ aY) (show b.ah.ls.length≤aa∧b.ah.ls.length≤9223372036854775807 from by omega) (fun x9 h9=>⟨cO _ (ah x9 h9).1,(ah x9 h9).2⟩) rfl (cO _ aZ) (show b.ag.ls.length≤ae∧b.ag.ls.length≤9223372036854775807 from by omega) B (aH _ 5 _ rfl aT) (show a.aa.aG.ls.length≤N∧a.aa.aG.ls.length≤9223372036854775807 from by omega) (fun x9 h9=>⟨aH _ 6 _ rfl (ax (List.mem_flatMap.2 ⟨x9,h9, .head _⟩) aT),bz (φ:=fun _=>_) aQ (i:=10) rfl (ax (List.mem_flatMap.2 ⟨x9,h9, .head _⟩) bn),(fun y1 k1=>⟨aH _ 6 _ rfl (ax (List.mem_flatMap.2 ⟨x9,h9, .tail _ (.head _)⟩) (ax (List.mem_flatMap.2 ⟨y1,k1, .head _⟩) aT)),bz (φ:=fun _=>_) aQ (i:=10) rfl (ax (List.mem_flatMap.2 ⟨x9,h9, .tail _ (.head _)⟩) (ax (List.mem_flatMap.2 ⟨y1,k1, .head _⟩) bn))⟩)⟩) E (aH _ 9 _ rfl aT) (show a.aR.ae.ls.length≤Q∧a.aR.ae.ls.length≤9223372036854775807 from by omega) (fun x9 h9=>⟨aH _ 10 _ rfl (ax (List.mem_flatMap.2 ⟨x9,h9, .head _⟩) aT),bz (φ:=fun _=>_) aQ (i:=14) rfl (ax (List.mem_flatMap.2 ⟨x9,h9, .head _⟩) bn)⟩) s (aH _ 11 _ rfl aT) (show a.aN.ae.ls.length≤d∧a.aN.ae.ls.length≤9223372036854775807 from by omega) (fun x9 h9=>⟨aH _ 12 _ rfl (ax (List.mem_flatMap.2 ⟨x9,h9, .head _⟩) aT),bz (φ:=fun _=>_) aQ (i:=16) rfl (ax (List.mem_flatMap.2 ⟨x9,h9, .head _⟩) bn)⟩) u (aH _ 13 _ rfl aT) (show a.aM.ae.ls.length≤f∧a.aM.ae.ls.length≤9223372036854775807 from by omega) (fun x9 h9=>⟨aH _ 14 _ rfl (ax (List.mem_flatMap.2 ⟨x9,h9, .head _⟩) aT),bz (φ:=fun _=>_) aQ (i:=18) rfl (ax (List.mem_flatMap.2 ⟨x9,h9, .head _⟩) bn)⟩) y (aH _ 15 _ rfl aT) (show a.aO.ae.ls.length≤g∧a.aO.ae.ls.length≤9223372036854775807 from by omega) (fun x9 h9=>⟨aH _ 16 _ rfl (ax (List.mem_flatMap.2 ⟨x9,h9, .head _⟩) aT),bz (φ:=fun _=>_) aQ (i:=20) rfl (ax (List.mem_flatMap.2 ⟨x9,h9, .head _⟩) bn)⟩) z (aH _ 17 _ rfl aT) (show a.aP.ae.ls.length≤h∧a.aP.ae.ls.length≤9223372036854775807 from by omega) (fun x9 h9=>⟨aH _ 18 _ rfl (ax (List.mem_flatMap.2 ⟨x9,h9, .head _⟩) aT),bz (φ:=fun _=>_) aQ (i:=22) rfl (ax (List.mem_flatMap.2 ⟨x9,h9, .head _⟩) bn)⟩) (by first | omega | (dsimp only; omega) | (simp only [List.length_nil]; omega) | decide) (by assumption) iQ) ?_
 rintro _ BC ⟨vD,vE,vF,rfl,kV,iR⟩
 have jO:=kU _ _ kV
 have AO:=aA iR
 have AP:=jO.rowC (i:=1) rfl
 refine nt (rt (tR (Fin.res (res0 rfl) ?_)))
 have vG:=jO.px [] [4,5] []
 obtain⟨rfl,rfl⟩:=fT (hr.symm.trans (show _=(jN,a) from et (iN aS) (ai iQ)))
 exact⟨vD,vE,vF,S,T,U,V,W,X,N,O,F,G,P,Y,Q,R,j,d,I,l,f,J,n,g,K,p,h,L,rfl,vG,iR,M,B,C,E,s,u,y,z⟩
end Go.Proofs.YtbkagebjhbphaaaGreat
