/-
 coord: a request.
-/
import Derived.Test.YtbkagebjhbphaaaGreatCc
import Derived.Test.YtbkagebjhbphaaaGreatCe
namespace Go.Proofs.YtbkagebjhbphaaaGreat
open IntKind renaming i64→C7
open List renaming flatMap→q6,length_map→s6,map→s8,mem_flatMap→O7,mem_of_getElem?→E0,not_mem_nil→B3
open Ll renaming mk→E4
open _root_.Go.Proofs.Tryz renaming call65→O0,call89→N8,call90→P4,func89→N9,isAgg24→N7,isAgg28→E1,isAgg3→C6,isAgg4→L7,isAgg40→E6,isAgg42→L9,isAgg81→P3,prog→y4,sizeOf42→M0,sizeOf81→O1
open WL renaming nil→D0
set_option maxRecDepth 100000
open Go.RowKit
set_option linter.unusedVariables false
set_option linter.unusedSectionVars false
set_option linter.unusedSimpArgs false
def eY (p1c0:Int):List dH→Nat→Unit ⊕ Int
  | [],a=>Sum.inl ()
  | b::c,a=>if b.aW=p1c0 then Sum.inr ((a:Nat):Int) else eY p1c0 c (a+1)
def ko (l0:List dH) (p1c0:Int):Int:=
 lp (eY p1c0 l0 0) fun _=>(-1)
theorem nX (w:World) (D:Nat→Prop) (r:Option Addr) (F G:Nat) (C:List bB) (l0:List dH) (g1c0:Nat) (p1c0:Int) (E:Int) (H:Own w D w [blk g1c0 [.int .i64 p1c0] 3]) (t:s8 bB.abs C=l0) (p:Ro w D fun w'=>bD w' 9 r F (q6 bB.cells C)) (l:∀ x ∈ C,Ro w D (fun w'=>bD w' 6 x.bS.A x.bS.ls.length (q6 bC.cells x.bS.ls))∧(x.bS.ls.length≤x.bS.c∧x.bS.ls.length≤9223372036854775807)∧Ro w D (fun w'=>bD w' 3 x.aC.A x.aC.ls.length (q6 bG.cells x.aC.ls))∧(x.aC.ls.length≤x.aC.c∧x.aC.ls.length≤9223372036854775807)∧(∀ d ∈ x.aC.ls,Ro w D (fun w'=>bD w' 6 d.aD.A d.aD.ls.length (q6 bC.cells d.aD.ls))∧(d.aD.ls.length≤d.aD.c∧d.aD.ls.length≤9223372036854775807)∧Ro w D (fun w'=>bD w' 1 d.aP.A d.aP.ls.length (q6 (eI .i64) d.aP.ls))∧(d.aP.ls.length≤d.aP.c∧d.aP.ls.length≤9223372036854775807))∧Ro w D (fun w'=>bD w' 1 x.bF.A x.bF.ls.length (q6 eL x.bF.ls))∧(x.bF.ls.length≤x.bF.c∧x.bF.ls.length≤9223372036854775807)∧Ro w D (fun w'=>bD w' 1 x.ae.A x.ae.ls.length (q6 (FJ (β:=af)) x.ae.ls))∧(x.ae.ls.length≤x.ae.c∧x.ae.ls.length≤9223372036854775807)∧(∀ d ∈ x.ae.ls,Ro w D (fun w'=>bD w' 3 d.A d.ls.length (q6 af.cells d.ls))∧(d.ls.length≤d.c∧d.ls.length≤9223372036854775807)∧(∀ s ∈ d.ls,Ro w D (fun w'=>bD w' 2 s.au.A s.au.ls.length (q6 aJ.cells s.au.ls))∧(s.au.ls.length≤s.au.c∧s.au.ls.length≤9223372036854775807)))) (I:F=l0.length) (Z:l0.length≤9223372036854775807) (hr:ko l0 p1c0=E):
    Calls y4 125 #[.slice r F G, .func (.func 88) #[] #[vP g1c0 0]] w (dS fun v w'=>v=vI E∧Own w D w' [blk g1c0 [vI p1c0] 3]∧(-1≤E∧E < ((l0.length:Nat):Int))):=by
 subst I
 have R:=az t
 refine cb Tryz.func125 ?_
 refine sr (An rfl (EP (sr (Mz rfl (Kz (vJ l0.length) (Mn rfl (bo ?_)))))))
 have J:=H.pf []
 obtain⟨K,g⟩:=lK fun(a:Nat) (w':World)=>Own w D w' [blk g1c0 [vI p1c0] 3]∧a≤l0.length∧eY p1c0 l0 0=eY p1c0 (List.drop a l0) a
 refine Wp.loop (fun i:Nat=> [(4,vI 0),(8,vJ i),(7,vJ l0.length),(0, .slice r l0.length G),(1, .func (.func 88) #[] #[vP g1c0 0])]) K (fun i=>l0.length - i) 0 ⟨rfl,rfl,rfl,rfl,rfl,trivial⟩ (g.2 ⟨J,e6,rfl⟩) ?_
 rintro a aa u
 obtain⟨h,S,j⟩:=g.1 u
 refine sr (Kz (.bool (decide (((a:Nat):Int) < ((l0.length:Nat):Int)))) (nt (EP ?_)))
 by_cases y:((a:Nat):Int) < ((l0.length:Nat):Int)
 obtain⟨b,f⟩:=dG (ls:=C) (i:=a) bB.len f3 (h.ro p) e9
 have z:=eP t f
 have T:=(l _ (E0 f)).2.1
 have U:=(l _ (E0 f)).2.2.2.1
 have V:List.length (s8 bG.abs b.aC.ls)=b.aC.ls.length:=s6 ..
 have W:=(l _ (E0 f)).2.2.2.2.2.2.1
 have X:=(l _ (E0 f)).2.2.2.2.2.2.2.2.1
 have Y:List.length (s8 bM.abs b.ae.ls)=b.ae.ls.length:=s6 ..
 have o:=drop_at z
 refine jT (dT y) (sk (EP (bo (sr (Mz rfl (Ar rfl (Mz rfl (Mz rfl (Mz rfl (fw (.pointer (some ⟨ab r,ao r+a *9,none⟩)) (ET (oQ) rfl rfl ((h.ro p).addr (i:=a) e6) e6) (fw (.agg (bB.cells b).toArray) (EY rfl (Fb (cs:=(bB.cells b)) Tryz.isAgg107 Tryz.sizeOf107 ((h.ro p).elem bB.len f f3))) ?_)))))))))))
 refine WL.do rfl (Fw Tryz.call88 rfl rfl ?_ (fun _ _ k=>k))
 refine cb Tryz.func88 ?_
 refine sr ?_
 refine dK (bB.cells b) 107 h ?_
 intro L ae m
 refine Ar rfl (Kz (vP L 1) (Lz (vI b.aW) m 0 C6 (Lz (vI p1c0) m 1 C6 (Kz (.bool (decide (b.aW=p1c0))) (An rfl (rt (rs (nt ?_))))))))
 by_cases n:b.aW=p1c0
 refine jT (dT n) (EP ?_)
 have M:=m.pk [1]
 refine EO (Mz rfl (An rfl (rt (bR (tR (tR (bR (tR (rs ?_)))))))))
 have N:=M.pf []
 obtain rfl:_=((a:Nat):Int):=hr.symm.trans (iY (et (j) (et (congrArg (fun q=>eY p1c0 q a) o) (ip n))))
 exact⟨rfl,N,e6⟩
 refine jF (dF n) (Fq (bN (ER ?_)))
 have O:=m.pk [1]
 refine EO (fw (vJ (a+1)) (EQ (e:=C7.wrap (((a:Nat):Int)+1)) yk f1) (Mz rfl (D0 ?_)))
 have P:=O.pf []
 exact E8 (a+1) ⟨rfl,rfl,rfl,rfl,rfl,trivial⟩ (g.2 ⟨P,e6,et (j) (et (congrArg (fun q=>eY p1c0 q a) o) (iN n))⟩) (by show l0.length - (a+1) < l0.length - a; omega)
 refine jF (dF y) (Wp.exit (EX ?_))
 have B:eY p1c0 l0 0=Sum.inl ():=et (j) (et (congrArg (fun q=>eY p1c0 q a) (eD (ls:=l0) (i:=a) e6)) rfl)
 refine EX (Fg (ER (sr (An rfl (rt (rs ?_))))))
 have Q:=h.pf []
 obtain rfl:_=(-1):=hr.symm.trans (nI B)
 exact⟨rfl,Q,e6⟩
def jR (l0:List dH) (p1c0:Int):Bool:=
 bnd (ko l0 p1c0) fun a=>decide (a ≥ 0)
theorem nz (w:World) (D:Nat→Prop) (r:Option Addr) (s B:Nat) (p:List bB) (l0:List dH) (g1c0:Nat) (p1c0:Int) (C:Bool) (H:Own w D w [blk g1c0 [.int .i64 p1c0] 3]) (l:s8 bB.abs p=l0) (t:Ro w D fun w'=>bD w' 9 r s (q6 bB.cells p)) (a:∀ x ∈ p,Ro w D (fun w'=>bD w' 6 x.bS.A x.bS.ls.length (q6 bC.cells x.bS.ls))∧(x.bS.ls.length≤x.bS.c∧x.bS.ls.length≤9223372036854775807)∧Ro w D (fun w'=>bD w' 3 x.aC.A x.aC.ls.length (q6 bG.cells x.aC.ls))∧(x.aC.ls.length≤x.aC.c∧x.aC.ls.length≤9223372036854775807)∧(∀ b ∈ x.aC.ls,Ro w D (fun w'=>bD w' 6 b.aD.A b.aD.ls.length (q6 bC.cells b.aD.ls))∧(b.aD.ls.length≤b.aD.c∧b.aD.ls.length≤9223372036854775807)∧Ro w D (fun w'=>bD w' 1 b.aP.A b.aP.ls.length (q6 (eI .i64) b.aP.ls))∧(b.aP.ls.length≤b.aP.c∧b.aP.ls.length≤9223372036854775807))∧Ro w D (fun w'=>bD w' 1 x.bF.A x.bF.ls.length (q6 eL x.bF.ls))∧(x.bF.ls.length≤x.bF.c∧x.bF.ls.length≤9223372036854775807)∧Ro w D (fun w'=>bD w' 1 x.ae.A x.ae.ls.length (q6 (FJ (β:=af)) x.ae.ls))∧(x.ae.ls.length≤x.ae.c∧x.ae.ls.length≤9223372036854775807)∧(∀ b ∈ x.ae.ls,Ro w D (fun w'=>bD w' 3 b.A b.ls.length (q6 af.cells b.ls))∧(b.ls.length≤b.c∧b.ls.length≤9223372036854775807)∧(∀ h ∈ b.ls,Ro w D (fun w'=>bD w' 2 h.au.A h.au.ls.length (q6 aJ.cells h.au.ls))∧(h.au.ls.length≤h.au.c∧h.au.ls.length≤9223372036854775807)))) (u:s=l0.length) (G:l0.length≤9223372036854775807) (hr:jR l0 p1c0=C):
    Calls y4 87 #[.slice r s B, .func (.func 88) #[] #[vP g1c0 0]] w (dS fun v w'=>v= .bool C∧Own w D w' [blk g1c0 [vI p1c0] 3]):=by
 subst u
 have E:=az l
 refine cb Tryz.func87 ?_
 refine sr (Ar rfl (Mz rfl (Mz rfl ?_)))
 obtain⟨g,j⟩:∃ q,ko l0 p1c0=q:=⟨_,rfl⟩
 obtain⟨I,m,d,n,F⟩:=Fu H
 refine cl Tryz.call125 (nX _ _ r l0.length B p l0 g1c0 p1c0 g m l (d _ t) (fun e f=>⟨d _ (a e f).1,(a e f).2.1,d _ (a e f).2.2.1,(a e f).2.2.2.1,(fun b i=>⟨d _ ((a e f).2.2.2.2.1 b i).1,((a e f).2.2.2.2.1 b i).2.1,d _ ((a e f).2.2.2.2.1 b i).2.2.1,((a e f).2.2.2.2.1 b i).2.2.2⟩),d _ (a e f).2.2.2.2.2.1,(a e f).2.2.2.2.2.2.1,d _ (a e f).2.2.2.2.2.2.2.1,(a e f).2.2.2.2.2.2.2.2.1,(fun b i=>⟨d _ ((a e f).2.2.2.2.2.2.2.2.2 b i).1,((a e f).2.2.2.2.2.2.2.2.2 b i).2.1,(fun h k2=>⟨d _ (((a e f).2.2.2.2.2.2.2.2.2 b i).2.2 h k2).1,(((a e f).2.2.2.2.2.2.2.2.2 b i).2.2 h k2).2⟩)⟩)⟩) rfl e6 j) ?_
 rintro _ J ⟨rfl,o,k⟩
 have y:=n _ _ o
 replace k: -1≤g∧g < ((l0.length:Nat):Int):=k
 refine Kz (.bool (decide (g ≥ 0))) (An rfl (rt (rs ?_)))
 have z:=y.pf []
 obtain rfl:_=decide (g ≥ 0):=hr.symm.trans (ah j)
 exact⟨rfl,z⟩
def kr (c:bO) (b:bQ) (a:aB):bO × aB:=
 if((b.ax:Nat):Int)=((a.aa.ax:Nat):Int) then bnd (jR a.aA.ls (b.aP - 10)) fun p=>if p=true then(c,a) else if b.aP - 10=1 then if a.aO.aR=true then if((a.aO.aH:Nat):Int) ≥ ((b.aY:Nat):Int) then if((a.aO.aH:Nat):Int)=((b.aY:Nat):Int) then bnd (dB c (bQ.mk 2 0 (10+(b.aP - 10)) 0 a.aO.aZ 0 a.aO.aH a.aa.ax 0 0 0 0 0 0 0 false (bK.mk ([]) ([])) (E4 ([])) (E4 a.aO.ae.ls) (E4 ([])))) fun q=>(q,a) else(c,a) else bnd (eO c (b.aP - 10) b a) fun k=>(k.1,k.2) else bnd (eO c (b.aP - 10) b a) fun d=>(d.1,d.2) else if b.aP - 10=2 then if a.aL.aR=true then if((a.aL.aH:Nat):Int) ≥ ((b.aY:Nat):Int) then if((a.aL.aH:Nat):Int)=((b.aY:Nat):Int) then bnd (dB c (bQ.mk 2 0 (10+(b.aP - 10)) 0 a.aL.aZ 0 a.aL.aH a.aa.ax 0 0 0 0 0 0 0 false (bK.mk ([]) ([])) (E4 ([])) (E4 a.aL.ae.ls) (E4 ([])))) fun l=>(l,a) else(c,a) else bnd (eO c (b.aP - 10) b a) fun e=>(e.1,e.2) else bnd (eO c (b.aP - 10) b a) fun f=>(f.1,f.2) else if b.aP - 10=3 then if a.aN.aR=true then if((a.aN.aH:Nat):Int) ≥ ((b.aY:Nat):Int) then if((a.aN.aH:Nat):Int)=((b.aY:Nat):Int) then bnd (dB c (bQ.mk 2 0 (10+(b.aP - 10)) 0 a.aN.aZ 0 a.aN.aH a.aa.ax 0 0 0 0 0 0 0 false (bK.mk ([]) ([])) (E4 ([])) (E4 a.aN.ae.ls) (E4 ([])))) fun m=>(m,a) else(c,a) else bnd (eO c (b.aP - 10) b a) fun g=>(g.1,g.2) else bnd (eO c (b.aP - 10) b a) fun h=>(h.1,h.2) else if a.aK.aR=true then if((a.aK.aH:Nat):Int) ≥ ((b.aY:Nat):Int) then if((a.aK.aH:Nat):Int)=((b.aY:Nat):Int) then bnd (dB c (bQ.mk 2 0 (10+(b.aP - 10)) 0 a.aK.aZ 0 a.aK.aH a.aa.ax 0 0 0 0 0 0 0 false (bK.mk ([]) ([])) (E4 ([])) (E4 a.aK.ae.ls) (E4 ([])))) fun n=>(n,a) else(c,a) else bnd (eO c (b.aP - 10) b a) fun i=>(i.1,i.2) else bnd (eO c (b.aP - 10) b a) fun j=>(j.1,j.2) else bnd (lq c (b.aP - 10) b a) fun o=>(o,a)
set_option maxHeartbeats 4000000 in
theorem tT (w:World) (D:Nat→Prop) (g0:Nat) (p0:bO) (aD:Option Addr) (aF:Nat) (au:List bA) (b:bQ) (ax:Option Addr) (iV Z:Nat) (aA:Option Addr) (iW aa:Nat) (bf:List af) (aC:Option Addr) (iX ae:Nat) (r:Nat) (a:aB) (S:Option Addr) (T:Nat) (U:Option Addr) (V:Nat) (W:List ay) (X:Option Addr) (N:Nat) (O:List aV) (F:Option Addr) (G:Nat) (P:List bB) (Y:Option Addr) (Q:Nat) (R:List af) (j:Option Addr) (d:Nat) (I:List af) (l:Option Addr) (f:Nat) (J:List af) (n:Option Addr) (g:Nat) (K:List af) (p:Option Addr) (h:Nat) (L:List af) (r0:bO) (r1:aB) (H:Own w D w [blk g0 [.pointer (some ⟨r,0,none⟩), .slice aD p0.bE.ls.length aF] 98,row aD p0.bE.ls.length aF (q6 bA.cells au) 42 21,sepL (q6 bA.own au),blk r [.int .i64 a.aa.ak, .int .u64 ((a.aa.ax:Nat):Int), .int .u64 ((a.aa.bi:Nat):Int), .int .u64 ((a.aa.aI:Nat):Int), .slice S a.aa.ag.ls.length T, .slice U a.aa.aj.ls.length V, .slice X a.aa.aF.ls.length N, .int .u64 ((a.bH:Nat):Int), .slice F a.aA.ls.length G, .bool a.aQ.aR, .int .u64 ((a.aQ.aH:Nat):Int), .int .i64 a.aQ.aZ, .slice Y a.aQ.ae.ls.length Q, .bool a.aO.aR, .int .u64 ((a.aO.aH:Nat):Int), .int .i64 a.aO.aZ, .slice j a.aO.ae.ls.length d, .bool a.aL.aR, .int .u64 ((a.aL.aH:Nat):Int), .int .i64 a.aL.aZ, .slice l a.aL.ae.ls.length f, .bool a.aN.aR, .int .u64 ((a.aN.aH:Nat):Int), .int .i64 a.aN.aZ, .slice n a.aN.ae.ls.length g, .bool a.aK.aR, .int .u64 ((a.aK.aH:Nat):Int), .int .i64 a.aK.aZ, .slice p a.aK.ae.ls.length h, .int .u64 ((a.df:Nat):Int), .int .u64 ((a.cu:Nat):Int), .int .u64 ((a.cz:Nat):Int), .int .u64 ((a.cB:Nat):Int), .int .u64 ((a.cK:Nat):Int), .pointer none] 86,row S a.aa.ag.ls.length T (q6 bv.cells a.aa.ag.ls) 89 2,row U a.aa.aj.ls.length V (q6 ay.cells W) 60 5,sepL (q6 ay.own W),row X a.aa.aF.ls.length N (q6 aV.cells O) 56 4,sepL (q6 aV.own O),row F a.aA.ls.length G (q6 bB.cells P) 107 9,sepL (q6 bB.own P),row Y a.aQ.ae.ls.length Q (q6 af.cells R) 149 3,sepL (q6 af.own R),row j a.aO.ae.ls.length d (q6 af.cells I) 149 3,sepL (q6 af.own I),row l a.aL.ae.ls.length f (q6 af.cells J) 149 3,sepL (q6 af.own J),row n a.aN.ae.ls.length g (q6 af.cells K) 149 3,sepL (q6 af.own K),row p a.aK.ae.ls.length h (q6 af.cells L) 149 3,sepL (q6 af.own L)]) (ag:s8 bA.abs au=p0.bE.ls) (jP:iV=b.aD.ls.length) (aX:Ro w D fun w'=>bD w' 6 ax b.aD.ls.length (q6 bC.cells b.aD.ls)) (vL:b.aD.ls.length≤Z∧b.aD.ls.length≤9223372036854775807) (aR:s8 af.abs bf=b.ai.ls) (jQ:iW=b.ai.ls.length) (aY:Ro w D fun w'=>bD w' 3 aA b.ai.ls.length (q6 af.cells bf)) (vM:b.ai.ls.length≤aa∧b.ai.ls.length≤9223372036854775807) (ai:∀ x ∈ bf,Ro w D (fun w'=>bD w' 2 x.au.A x.au.ls.length (q6 aJ.cells x.au.ls))∧(x.au.ls.length≤x.au.c∧x.au.ls.length≤9223372036854775807)) (jS:iX=b.ag.ls.length) (aZ:Ro w D fun w'=>bD w' 2 aC b.ag.ls.length (q6 bv.cells b.ag.ls)) (vN:b.ag.ls.length≤ae∧b.ag.ls.length≤9223372036854775807) (M:s8 ay.abs W=a.aa.aj.ls) (B:s8 aV.abs O=a.aa.aF.ls) (C:s8 bB.abs P=a.aA.ls) (E:s8 af.abs R=a.aQ.ae.ls) (s:s8 af.abs I=a.aO.ae.ls) (u:s8 af.abs J=a.aL.ae.ls) (y:s8 af.abs K=a.aN.ae.ls) (z:s8 af.abs L=a.aK.ae.ls) (BD:a.aa.ag.ls.length≤1000∧a.aa.aj.ls.length≤1000∧a.aa.aF.ls.length≤1000∧a.aA.ls.length≤1000∧p0.bE.ls.length≤100000) (BF:Mk a) (BG:a.aQ.ae.ls.length≤1000∧a.aO.ae.ls.length≤1000∧a.aL.ae.ls.length≤1000∧a.aN.ae.ls.length≤1000∧a.aK.ae.ls.length≤1000) (BH:11≤b.aP∧b.aP≤14) (BI:b.aD.ls.length≤24∧b.ag.ls.length≤1000∧b.ai.ls.length≤1000∧jy b.aY) (hr:kr p0 b a=(r0,r1)):
    Calls y4 56 #[vP g0 0, .agg (gH b.aM b.aP b.fO b.aS b.dJ b.d9 b.aY b.ax b.bf b.di b.bi b.aI b.dM b.cZ b.xN b.dY b.bW.bJ b.bW.bX ax iV Z aA iW aa aC iX ae).toArray] w (dS fun v w'=> ∃ (B0ox0:Option Addr) (b0ox0:Nat) (e0ox0:List bA) (B1ox0:Option Addr) (b1ox0:Nat) (B1ox1:Option Addr) (b1ox1:Nat) (e1ox1:List ay) (B1ox2:Option Addr) (b1ox2:Nat) (e1ox2:List aV) (B1ox3:Option Addr) (b1ox3:Nat) (e1ox3:List bB) (B1ox4:Option Addr) (b1ox4:Nat) (e1ox4:List af) (B1ox5:Option Addr) (b1ox5:Nat) (e1ox5:List af) (B1ox6:Option Addr) (b1ox6:Nat) (e1ox6:List af) (B1ox7:Option Addr) (b1ox7:Nat) (e1ox7:List af) (B1ox8:Option Addr) (b1ox8:Nat) (e1ox8:List af),v= .tuple #[]∧Own w D w' [blk g0 [vP r 0, .slice B0ox0 r0.bE.ls.length b0ox0] 98,row B0ox0 r0.bE.ls.length b0ox0 (q6 bA.cells e0ox0) 42 21,sepL (q6 bA.own e0ox0),blk r [vI r1.aa.ak,vU r1.aa.ax,vU r1.aa.bi,vU r1.aa.aI, .slice B1ox0 r1.aa.ag.ls.length b1ox0, .slice B1ox1 r1.aa.aj.ls.length b1ox1, .slice B1ox2 r1.aa.aF.ls.length b1ox2,vU r1.bH, .slice B1ox3 r1.aA.ls.length b1ox3, .bool r1.aQ.aR,vU r1.aQ.aH,vI r1.aQ.aZ, .slice B1ox4 r1.aQ.ae.ls.length b1ox4, .bool r1.aO.aR,vU r1.aO.aH,vI r1.aO.aZ, .slice B1ox5 r1.aO.ae.ls.length b1ox5, .bool r1.aL.aR,vU r1.aL.aH,vI r1.aL.aZ, .slice B1ox6 r1.aL.ae.ls.length b1ox6, .bool r1.aN.aR,vU r1.aN.aH,vI r1.aN.aZ, .slice B1ox7 r1.aN.ae.ls.length b1ox7, .bool r1.aK.aR,vU r1.aK.aH,vI r1.aK.aZ, .slice B1ox8 r1.aK.ae.ls.length b1ox8,vU r1.df,vU r1.cu,vU r1.cz,vU r1.cB,vU r1.cK, .pointer none] 86,row B1ox0 r1.aa.ag.ls.length b1ox0 (q6 bv.cells r1.aa.ag.ls) 89 2,row B1ox1 r1.aa.aj.ls.length b1ox1 (q6 ay.cells e1ox1) 60 5,sepL (q6 ay.own e1ox1),row B1ox2 r1.aa.aF.ls.length b1ox2 (q6 aV.cells e1ox2) 56 4,sepL (q6 aV.own e1ox2),row B1ox3 r1.aA.ls.length b1ox3 (q6 bB.cells e1ox3) 107 9,sepL (q6 bB.own e1ox3),row B1ox4 r1.aQ.ae.ls.length b1ox4 (q6 af.cells e1ox4) 149 3,sepL (q6 af.own e1ox4),row B1ox5 r1.aO.ae.ls.length b1ox5 (q6 af.cells e1ox5) 149 3,sepL (q6 af.own e1ox5),row B1ox6 r1.aL.ae.ls.length b1ox6 (q6 af.cells e1ox6) 149 3,sepL (q6 af.own e1ox6),row B1ox7 r1.aN.ae.ls.length b1ox7 (q6 af.cells e1ox7) 149 3,sepL (q6 af.own e1ox7),row B1ox8 r1.aK.ae.ls.length b1ox8 (q6 af.cells e1ox8) 149 3,sepL (q6 af.own e1ox8)]∧(s8 bA.abs e0ox0=r0.bE.ls)∧(s8 ay.abs e1ox1=r1.aa.aj.ls)∧(s8 aV.abs e1ox2=r1.aa.aF.ls)∧(s8 bB.abs e1ox3=r1.aA.ls)∧(s8 af.abs e1ox4=r1.aQ.ae.ls)∧(s8 af.abs e1ox5=r1.aO.ae.ls)∧(s8 af.abs e1ox6=r1.aL.ae.ls)∧(s8 af.abs e1ox7=r1.aN.ae.ls)∧(s8 af.abs e1ox8=r1.aK.ae.ls)):=by
 subst jP jQ jS
 have vJ:=az ag
 have vK:=az aR
 have kW:=az M
 have kX:=az B
 have kY:=az C
 have kZ:=az E
 have lc:=az s
 have lg:=az u
 have lh:=az y
 have ll:=az z
 have vO:=H.rowC (i:=1) rfl
 have lm:=H.rowC (i:=4) rfl
 have lu:=H.rowC (i:=5) rfl
 have lv:=H.rowC (i:=7) rfl
 have lw:=H.rowC (i:=9) rfl
 have lC:=H.rowC (i:=11) rfl
 have lD:=H.rowC (i:=13) rfl
 have lF:=H.rowC (i:=15) rfl
 have lG:=H.rowC (i:=17) rfl
 have lH:=H.rowC (i:=19) rfl
 refine cb Tryz.func56 ?_
 refine sr ?_
 refine dK (gM b ax Z aA aa aC ae) 42 H ?_
 intro bT BJ lI
 refine ns (Kz (vP bT 1) (Lz (vI b.aP) lI 0 C6 (fw (vI (b.aP - 10)) (EQ (e:=C7.wrap (b.aP - 10)) yk g2) ?_)))
 refine dK [vI 0] 3 lI ?_
 intro lJ BK vQ
 refine dN [vI (b.aP - 10)] 0 vQ Tryz.sizeOf3 ?_
 intro BL vR
 refine nt (EP (EP ?_))
 refine oF 23 [] (E9 (E9 Fp)) vR ?_
 intro BM bN
 refine qp bT 7 0 rfl (ql 1 rfl 1 E1 rfl rfl rfl (qv 2 rfl rfl (qp g0 0 3 rfl (qp g0 0 4 rfl (ql 5 rfl 2 N7 rfl rfl rfl (qp r 0 6 rfl (qp r 0 7 rfl (qp r 1 8 rfl (ql 9 rfl 5 E1 rfl rfl rfl (qt (v:= .bool (decide (¬ (((b.ax:Nat):Int)=((a.aa.ax:Nat):Int))))) 10 rfl (fun _ _=>Fs (e:= !(decide (((b.ax:Nat):Int)=((a.aa.ax:Nat):Int)))) yk decide_not.symm) (qn (ER ?_))))))))))))
 by_cases aS:((b.ax:Nat):Int)=((a.aa.ax:Nat):Int)
 refine jF (dF (IV aS)) (sk (EP (sr (Mz rfl (Kz (vP g0 0) (Kz (vP g0 0) (Lz (vP r 0) bN 2 N7 (Kz (vP r 0) (Kz (vP r 8) (Lz (.slice F a.aA.ls.length G) bN 5 Tryz.isAgg79 (Kz (.func (.func 88) #[] #[vP lJ 0]) ?_)))))))))))
 obtain⟨lK,aG⟩:∃ q,jR a.aA.ls (b.aP - 10)=q:=⟨_,rfl⟩
 obtain⟨BN,lL,AQ,lM,bP⟩:=Fu bN
 refine cl Tryz.call87 (nz _ _ F a.aA.ls.length G P a.aA.ls lJ (b.aP - 10) lK lL C (bP _ 10 _ rfl aT) (fun x9 h9=>⟨bP _ 11 _ rfl (av (O7.2 ⟨x9,h9,b1⟩) aT),bz (φ:=fun _=>_) bN (i:=12) rfl (av (O7.2 ⟨x9,h9,b1⟩) bn),bP _ 11 _ rfl (av (O7.2 ⟨x9,h9, .tail _ b1⟩) aT),bz (φ:=fun _=>_) bN (i:=12) rfl (av (O7.2 ⟨x9,h9, .tail _ b1⟩) bn),(fun y1 k1=>⟨bP _ 11 _ rfl (av (O7.2 ⟨x9,h9, .tail _ b4⟩) (av (O7.2 ⟨y1,k1,b1⟩) aT)),bz (φ:=fun _=>_) bN (i:=12) rfl (av (O7.2 ⟨x9,h9, .tail _ b4⟩) (av (O7.2 ⟨y1,k1,b1⟩) bn)),bP _ 11 _ rfl (av (O7.2 ⟨x9,h9, .tail _ b4⟩) (av (O7.2 ⟨y1,k1, .tail _ b1⟩) aT)),bz (φ:=fun _=>_) bN (i:=12) rfl (av (O7.2 ⟨x9,h9, .tail _ b4⟩) (av (O7.2 ⟨y1,k1, .tail _ b1⟩) bn))⟩),bP _ 11 _ rfl (av (O7.2 ⟨x9,h9, .tail _ b2⟩) aT),bz (φ:=fun _=>_) bN (i:=12) rfl (av (O7.2 ⟨x9,h9, .tail _ b2⟩) bn),bP _ 11 _ rfl (av (O7.2 ⟨x9,h9, .tail _ b3⟩) aT),bz (φ:=fun _=>_) bN (i:=12) rfl (av (O7.2 ⟨x9,h9, .tail _ b3⟩) bn),(fun y1 k1=>⟨bP _ 11 _ rfl (av (O7.2 ⟨x9,h9, .tail _ b5⟩) (av (O7.2 ⟨y1,k1,b1⟩) aT)),bz (φ:=fun _=>_) bN (i:=12) rfl (av (O7.2 ⟨x9,h9, .tail _ b5⟩) (av (O7.2 ⟨y1,k1,b1⟩) bn)),(fun y2 k2=>⟨bP _ 11 _ rfl (av (O7.2 ⟨x9,h9, .tail _ b5⟩) (av (O7.2 ⟨y1,k1, .tail _ b1⟩) (av (O7.2 ⟨y2,k2,b1⟩) aT))),bz (φ:=fun _=>_) bN (i:=12) rfl (av (O7.2 ⟨x9,h9, .tail _ b5⟩) (av (O7.2 ⟨y1,k1, .tail _ b1⟩) (av (O7.2 ⟨y2,k2,b1⟩) bn)))⟩)⟩)⟩) rfl e6 aG) ?_
 rintro _ BO ⟨rfl,lN⟩
 have lQ:=lM _ _ lN
 refine nt ?_
 rcases IW (lK) with aU | aU
 refine jT aU (rt (tR (Fin.res (res0 rfl) ?_)))
 have vS:=lQ.px [] [0,1] []
 obtain⟨rfl,rfl⟩:=fT (hr.symm.trans (show _=(p0,a) from et (ip aS) (et (ah aG) (ip aU))))
 exact⟨aD,aF,au,S,T,U,V,W,X,N,O,F,G,P,Y,Q,R,j,d,I,l,f,J,n,g,K,p,h,L,rfl,vS,ag,M,B,C,E,s,u,y,z⟩
 refine jF aU (sk (EP (EP ?_)))
 refine oF 23 [] (E9 (E9 Fp)) lQ ?_
 intro BP iT
 refine qv 0 rfl rfl (qp g0 0 1 rfl (qp g0 0 2 rfl (ql 3 rfl 2 N7 rfl rfl rfl (ql 4 rfl 0 C6 rfl rfl rfl (qp r 0 5 rfl (qp r 9 6 rfl ?_))))))
 by_cases bJ:b.aP - 10=1
 refine qt (v:=vP r 13) 7 rfl (fun _ _=>by rw [show b.aP - 10=1 from by omega]; exact yk) (qt (v:= .agg #[.bool a.aO.aR,vU a.aO.aH,vI a.aO.aZ, .slice j a.aO.ae.ls.length d]) 8 rfl (fun _ ⟨_,H9⟩=>EY rfl (Fb (cs:= [.bool a.aO.aR,vU a.aO.aH,vI a.aO.aZ, .slice j a.aO.ae.ls.length d]) P3 O1 ((H9.cls (i:=5) rfl).lit (k:=13) (m:=4) rfl))) ?_)
 refine qd 9 rfl (FQ (cs:= [.bool false, .int .u64 0,vI 0, .slice none 0 0]) (t:=81) iT rfl rfl (fun _=>by kernel_rfl) ?_)
 intro dx BQ vT
 have lS:=vT.pb [0]
 refine⟨.inr ⟨_,lS⟩, ?_⟩
 have vV:=lS.pf [23]
 refine qe 10 rfl (Do.store (vs:= [.bool a.aO.aR,vU a.aO.aH,vI a.aO.aZ, .slice j a.aO.ae.ls.length d]) (o:=0) vV rfl rfl O1 rfl rfl rfl rfl ?_)
 intro BR vW
 have bL:=vW.pb [0]
 refine⟨.inr ⟨_,bL⟩, ?_⟩
 refine qn (ER (sr (Kz (vP dx 0) (Lz (.bool a.aO.aR) bL 23 L7 (Mz rfl ?_)))))
 rcases IW (a.aO.aR) with bi | bi
 refine Gz (vP dx 1) bi (Gl (vU a.aO.aH) bi bL 23 E1 (Gz (vP bT 6) bi (Gl (vU b.aY) bi bL 1 E1 (Gz (.bool (decide (((a.aO.aH:Nat):Int) ≥ ((b.aY:Nat):Int)))) bi (fw (.bool (decide (((a.aO.aH:Nat):Int) ≥ ((b.aY:Nat):Int)))) (Fa rfl bi rfl) (nt ?_))))))
 by_cases dC:((a.aO.aH:Nat):Int) ≥ ((b.aY:Nat):Int)
 refine jT (dT dC) (EP (sr (Kz (vP dx 1) (Lz (vU a.aO.aH) bL 23 E1 (Kz (vP bT 6) (Lz (vU b.aY) bL 1 E1 (Kz (.bool (decide (((a.aO.aH:Nat):Int)=((b.aY:Nat):Int)))) (nt ?_))))))))
 by_cases iU:((a.aO.aH:Nat):Int)=((b.aY:Nat):Int)
 refine jT (dT iU) (EO (Mz rfl (Lz (vI (b.aP - 10)) bL 0 C6 (Kz (vP dx 1) (Lz (vU a.aO.aH) bL 23 E1 (Kz (vP dx 2) (Lz (vI a.aO.aZ) bL 23 C6 (Kz (vP dx 3) (Lz (.slice j a.aO.ae.ls.length d) bL 23 E6 ?_)))))))))
 refine WL.do rfl (Fe N8 rfl ?_ (fun _ _ k=>k))
 refine cb N9 ?_
 refine EO (Mz rfl (Mz rfl (fw (vI (10+(b.aP - 10))) (EQ (e:=C7.wrap (10+(b.aP - 10))) yk g2) (Mz rfl (Mz rfl (Kz (vP g0 0) (Kz (vP g0 0) (Lz (vP r 0) bL 2 N7 (Kz (vP r 0) (Kz (vP r 0) (Kz (vP r 1) (Lz (vU a.aa.ax) bL 5 E1 (Mz rfl (Mz rfl (Kz (.agg (gH 2 0 (10+(b.aP - 10)) 0 a.aO.aZ 0 a.aO.aH a.aa.ax 0 0 0 0 0 0 0 false ([]) ([]) none 0 0 j a.aO.ae.ls.length d none 0 0).toArray) ?_)))))))))))))))
 have lT:=bL.pf [2,3,4]
 obtain⟨jV,iY⟩:∃ q,dB p0 (bQ.mk 2 0 (10+(b.aP - 10)) 0 a.aO.aZ 0 a.aO.aH a.aa.ax 0 0 0 0 0 0 0 false (bK.mk ([]) ([])) (E4 ([])) (E4 a.aO.ae.ls) (E4 ([])))=q:=⟨_,rfl⟩
 obtain⟨BS,lU,AU,lV,iZ⟩:=FC lT
 refine cl O0 (fD _ _ g0 p0 aD aF au r (bQ.mk 2 0 (10+(b.aP - 10)) 0 a.aO.aZ 0 a.aO.aH a.aa.ax 0 0 0 0 0 0 0 false (bK.mk ([]) ([])) (E4 ([])) (E4 a.aO.ae.ls) (E4 ([]))) none 0 0 j a.aO.ae.ls.length d I none 0 0 jV lU ag rfl (fun _ _=>bD.nil _ _ _) f2 s rfl (iZ _ 12 _ rfl aT) (show a.aO.ae.ls.length≤d∧a.aO.ae.ls.length≤9223372036854775807 from by omega) (fun x9 h9=>⟨iZ _ 13 _ rfl (av (O7.2 ⟨x9,h9,b1⟩) aT),bz (φ:=fun _=>_) lT (i:=16) rfl (av (O7.2 ⟨x9,h9,b1⟩) bn)⟩) rfl (fun _ _=>bD.nil _ _ _) f2 e8 (by first | assumption | exact dD f5 | exact fun x hx=>absurd hx B3 | exact dD (Mk.lX f5).1 | exact dD (Mk.kZ f5).1 | exact dD (Mk.ma f5).1 | exact dD (Mk.mg f5).1 | exact dD (Mk.mf f5).1) iY) ?_
 rintro _ BU ⟨vX,vY,vZ,rfl,lW,ja,jb⟩
 have lX:=lV _ _ lW
 have AV:=az ja
 have AX:=lX.rowC (i:=1) rfl
 replace jb:jV.bE.ls.length=p0.bE.ls.length+1:=jb
 refine D0 (Ff (res0 rfl) (nt (rt (tR (Fin.res (res0 rfl) ?_)))))
 have wh:=lX.px [] [3,4,23] []
 obtain⟨rfl,rfl⟩:=fT (hr.symm.trans (show _=(jV,a) from et (ip aS) (et (ah aG) (et (fU aU) (et (ip bJ) (et (ip bi) (et (ip dC) (et (ip iU) (ah iY)))))))))
 exact⟨vX,vY,vZ,S,T,U,V,W,X,N,O,F,G,P,Y,Q,R,j,d,I,l,f,J,n,g,K,p,h,L,rfl,wh,ja,M,B,C,E,s,u,y,z⟩
 refine jF (dF iU) (sk (rt (tR (Fin.res (res0 rfl) ?_))))
 have wm:=bL.px [] [0,1,23] []
 obtain⟨rfl,rfl⟩:=fT (hr.symm.trans (show _=(p0,a) from et (ip aS) (et (ah aG) (et (fU aU) (et (ip bJ) (et (ip bi) (et (ip dC) (iN iU))))))))
 exact⟨aD,aF,au,S,T,U,V,W,X,N,O,F,G,P,Y,Q,R,j,d,I,l,f,J,n,g,K,p,h,L,rfl,wm,ag,M,B,C,E,s,u,y,z⟩
 refine jF (dF dC) (sk ?_)
 have jW:=bL.px [] [23] []
 refine EO (Mz rfl (Lz (vI (b.aP - 10)) jW 0 C6 (La (gM b ax Z aA aa aC ae) jW 1 L9 M0 ?_)))
 have wo:=jW.pb [0,1]
 obtain⟨⟨lY,lZ⟩,jc⟩:∃ q:bO × aB,eO p0 (b.aP - 10) b a=q:=⟨_,rfl⟩
 obtain⟨BV,l5,di,l6,AY⟩:=FN wo
 refine cl P4 (jm _ _ g0 p0 aD aF au (b.aP - 10) b ax b.aD.ls.length Z aA b.ai.ls.length aa bf aC b.ag.ls.length ae r a S T U V W X N O F G P Y Q R j d I l f J n g K p h L lY lZ l5 ag rfl (di _ aX) (show b.aD.ls.length≤Z∧b.aD.ls.length≤9223372036854775807 from by omega) aR rfl (di _ aY) (show b.ai.ls.length≤aa∧b.ai.ls.length≤9223372036854775807 from by omega) (fun x9 h9=>⟨di _ (ai x9 h9).1,(ai x9 h9).2⟩) rfl (di _ aZ) (show b.ag.ls.length≤ae∧b.ag.ls.length≤9223372036854775807 from by omega) M B C E s u y z e8 e6 e8 jc) ?_
 rintro _ BX ⟨wu,ww,wy,wz,wB,wC,wD,l7,wE,l8,l9,ma,mf,mg,mh,mi,mo,mq,mr,mD,mE,mF,mG,mH,mI,mJ,mK,mM,mO,rfl,mP,jd,dE,dG,dH,dI,dJ,dL,dM,dO⟩
 have bS:=l6 _ _ mP
 have wF:=az jd
 have wG:=az dE
 have wH:=az dG
 have wI:=az dH
 have wJ:=az dI
 have wK:=az dJ
 have wL:=az dL
 have wM:=az dM
 have wN:=az dO
 have wO:=bS.rowC (i:=1) rfl
 have wP:=bS.rowC (i:=4) rfl
 have wQ:=bS.rowC (i:=5) rfl
 have wR:=bS.rowC (i:=7) rfl
 have wS:=bS.rowC (i:=9) rfl
 have wT:=bS.rowC (i:=11) rfl
 have wU:=bS.rowC (i:=13) rfl
 have wV:=bS.rowC (i:=15) rfl
 have wW:=bS.rowC (i:=17) rfl
 have wX:=bS.rowC (i:=19) rfl
 refine D0 (Ff (res0 rfl) ?_)
 have mQ:=bS.px [] [21,22] []
 obtain⟨rfl,rfl⟩:=fT (hr.symm.trans (show _=(lY,lZ) from et (ip aS) (et (ah aG) (et (fU aU) (et (ip bJ) (et (ip bi) (et (iN dC) (ah jc))))))))
 exact⟨wu,ww,wy,wz,wB,wC,wD,l7,wE,l8,l9,ma,mf,mg,mh,mi,mo,mq,mr,mD,mE,mF,mG,mH,mI,mJ,mK,mM,mO,rfl,mQ,jd,dE,dG,dH,dI,dJ,dL,dM,dO⟩
 refine Sz bi (Sz bi (Sz bi (Sz bi (Sz bi (fw (.bool false) (ES rfl bi rfl) (nt (jf (sk ?_))))))))
 have dP:=bL.px [] [23] []
 refine EO (Mz rfl (Lz (vI (b.aP - 10)) dP 0 C6 (La (gM b ax Z aA aa aC ae) dP 1 L9 M0 ?_)))
 have mR:=dP.pb [0,1]
 obtain⟨⟨je,jg⟩,dQ⟩:∃ q:bO × aB,eO p0 (b.aP - 10) b a=q:=⟨_,rfl⟩
 obtain⟨AZ,jX,bX,jY,wY⟩:=FN mR
 refine cl P4 (jm _ _ g0 p0 aD aF au (b.aP - 10) b ax b.aD.ls.length Z aA b.ai.ls.length aa bf aC b.ag.ls.length ae r a S T U V W X N O F G P Y Q R j d I l f J n g K p h L je jg jX ag rfl (bX _ aX) (show b.aD.ls.length≤Z∧b.aD.ls.length≤9223372036854775807 from by omega) aR rfl (bX _ aY) (show b.ai.ls.length≤aa∧b.ai.ls.length≤9223372036854775807 from by omega) (fun x9 h9=>⟨bX _ (ai x9 h9).1,(ai x9 h9).2⟩) rfl (bX _ aZ) (show b.ag.ls.length≤ae∧b.ag.ls.length≤9223372036854775807 from by omega) M B C E s u y z e8 e6 e8 dQ) ?_
 rintro _ A7 ⟨mU,mV,mW,mX,mY,mZ,ng,ni,nk,nu,ny,nA,nC,nD,nE,nG,nH,nI,nJ,nK,nL,nM,nN,nO,nP,nQ,nR,nS,nT,rfl,jZ,dR,dU,dV,dW,dX,dY,dZ,d9,ed⟩
 have bq:=jY _ _ jZ
 have wZ:=az dR
 have w9:=az dU
 have xc:=az dV
 have xe:=az dW
 have xg:=az dX
 have xh:=az dY
 have xk:=az dZ
 have xm:=az d9
 have xn:=az ed
 have xq:=bq.rowC (i:=1) rfl
 have xu:=bq.rowC (i:=4) rfl
 have xw:=bq.rowC (i:=5) rfl
 have xx:=bq.rowC (i:=7) rfl
 have xy:=bq.rowC (i:=9) rfl
 have xz:=bq.rowC (i:=11) rfl
 have xA:=bq.rowC (i:=13) rfl
 have xB:=bq.rowC (i:=15) rfl
 have xC:=bq.rowC (i:=17) rfl
 have xD:=bq.rowC (i:=19) rfl
 refine D0 (Ff (res0 rfl) ?_)
 have nU:=bq.px [] [21,22] []
 obtain⟨rfl,rfl⟩:=fT (hr.symm.trans (show _=(je,jg) from et (ip aS) (et (ah aG) (et (fU aU) (et (ip bJ) (et (fU bi) (ah dQ)))))))
 exact⟨mU,mV,mW,mX,mY,mZ,ng,ni,nk,nu,ny,nA,nC,nD,nE,nG,nH,nI,nJ,nK,nL,nM,nN,nO,nP,nQ,nR,nS,nT,rfl,nU,dR,dU,dV,dW,dX,dY,dZ,d9,ed⟩
 by_cases bg:b.aP - 10=2
 refine qt (v:=vP r 17) 7 rfl (fun _ _=>by rw [show b.aP - 10=2 from by omega]; exact yk) (qt (v:= .agg #[.bool a.aL.aR,vU a.aL.aH,vI a.aL.aZ, .slice l a.aL.ae.ls.length f]) 8 rfl (fun _ ⟨_,H9⟩=>EY rfl (Fb (cs:= [.bool a.aL.aR,vU a.aL.aH,vI a.aL.aZ, .slice l a.aL.ae.ls.length f]) P3 O1 ((H9.cls (i:=5) rfl).lit (k:=17) (m:=4) rfl))) ?_)
 refine qd 9 rfl (FQ (cs:= [.bool false, .int .u64 0,vI 0, .slice none 0 0]) (t:=81) iT rfl rfl (fun _=>by kernel_rfl) ?_)
 intro bU A8 nV
 have jh:=nV.pb [0]
 refine⟨.inr ⟨_,jh⟩, ?_⟩
 have nW:=jh.pf [23]
 refine qe 10 rfl (Do.store (vs:= [.bool a.aL.aR,vU a.aL.aH,vI a.aL.aZ, .slice l a.aL.ae.ls.length f]) (o:=0) nW rfl rfl O1 rfl rfl rfl rfl ?_)
 intro A9 nX
 have aN:=nX.pb [0]
 refine⟨.inr ⟨_,aN⟩, ?_⟩
 refine qn (ER (sr (Kz (vP bU 0) (Lz (.bool a.aL.aR) aN 23 L7 (Mz rfl ?_)))))
 rcases IW (a.aL.aR) with aK | aK
 refine Gz (vP bU 1) aK (Gl (vU a.aL.aH) aK aN 23 E1 (Gz (vP bT 6) aK (Gl (vU b.aY) aK aN 1 E1 (Gz (.bool (decide (((a.aL.aH:Nat):Int) ≥ ((b.aY:Nat):Int)))) aK (fw (.bool (decide (((a.aL.aH:Nat):Int) ≥ ((b.aY:Nat):Int)))) (Fa rfl aK rfl) (nt ?_))))))
 by_cases cZ:((a.aL.aH:Nat):Int) ≥ ((b.aY:Nat):Int)
 refine jT (dT cZ) (EP (sr (Kz (vP bU 1) (Lz (vU a.aL.aH) aN 23 E1 (Kz (vP bT 6) (Lz (vU b.aY) aN 1 E1 (Kz (.bool (decide (((a.aL.aH:Nat):Int)=((b.aY:Nat):Int)))) (nt ?_))))))))
 by_cases dm:((a.aL.aH:Nat):Int)=((b.aY:Nat):Int)
 refine jT (dT dm) (EO (Mz rfl (Lz (vI (b.aP - 10)) aN 0 C6 (Kz (vP bU 1) (Lz (vU a.aL.aH) aN 23 E1 (Kz (vP bU 2) (Lz (vI a.aL.aZ) aN 23 C6 (Kz (vP bU 3) (Lz (.slice l a.aL.ae.ls.length f) aN 23 E6 ?_)))))))))
 refine WL.do rfl (Fe N8 rfl ?_ (fun _ _ k=>k))
 refine cb N9 ?_
 refine EO (Mz rfl (Mz rfl (fw (vI (10+(b.aP - 10))) (EQ (e:=C7.wrap (10+(b.aP - 10))) yk g2) (Mz rfl (Mz rfl (Kz (vP g0 0) (Kz (vP g0 0) (Lz (vP r 0) aN 2 N7 (Kz (vP r 0) (Kz (vP r 0) (Kz (vP r 1) (Lz (vU a.aa.ax) aN 5 E1 (Mz rfl (Mz rfl (Kz (.agg (gH 2 0 (10+(b.aP - 10)) 0 a.aL.aZ 0 a.aL.aH a.aa.ax 0 0 0 0 0 0 0 false ([]) ([]) none 0 0 l a.aL.ae.ls.length f none 0 0).toArray) ?_)))))))))))))))
 have ji:=aN.pf [2,3,4]
 obtain⟨ek,eu⟩:∃ q,dB p0 (bQ.mk 2 0 (10+(b.aP - 10)) 0 a.aL.aZ 0 a.aL.aH a.aa.ax 0 0 0 0 0 0 0 false (bK.mk ([]) ([])) (E4 ([])) (E4 a.aL.ae.ls) (E4 ([])))=q:=⟨_,rfl⟩
 obtain⟨Ba,j3,xE,j4,eB⟩:=FC ji
 refine cl O0 (fD _ _ g0 p0 aD aF au r (bQ.mk 2 0 (10+(b.aP - 10)) 0 a.aL.aZ 0 a.aL.aH a.aa.ax 0 0 0 0 0 0 0 false (bK.mk ([]) ([])) (E4 ([])) (E4 a.aL.ae.ls) (E4 ([]))) none 0 0 l a.aL.ae.ls.length f J none 0 0 ek j3 ag rfl (fun _ _=>bD.nil _ _ _) f2 u rfl (eB _ 14 _ rfl aT) (show a.aL.ae.ls.length≤f∧a.aL.ae.ls.length≤9223372036854775807 from by omega) (fun x9 h9=>⟨eB _ 15 _ rfl (av (O7.2 ⟨x9,h9,b1⟩) aT),bz (φ:=fun _=>_) ji (i:=18) rfl (av (O7.2 ⟨x9,h9,b1⟩) bn)⟩) rfl (fun _ _=>bD.nil _ _ _) f2 e8 (by first | assumption | exact dD f5 | exact fun x hx=>absurd hx B3 | exact dD (Mk.lX f5).1 | exact dD (Mk.kZ f5).1 | exact dD (Mk.ma f5).1 | exact dD (Mk.mg f5).1 | exact dD (Mk.mf f5).1) eu) ?_
 rintro _ Bb ⟨nY,nZ,og,rfl,j5,eD,eF⟩
 have jk:=j4 _ _ j5
 have xG:=az eD
 have xH:=jk.rowC (i:=1) rfl
 replace eF:ek.bE.ls.length=p0.bE.ls.length+1:=eF
 refine D0 (Ff (res0 rfl) (nt (rt (tR (Fin.res (res0 rfl) ?_)))))
 have oh:=jk.px [] [3,4,23] []
 obtain⟨rfl,rfl⟩:=fT (hr.symm.trans (show _=(ek,a) from et (ip aS) (et (ah aG) (et (fU aU) (et (iN bJ) (et (ip bg) (et (ip aK) (et (ip cZ) (et (ip dm) (ah eu))))))))))
 exact⟨nY,nZ,og,S,T,U,V,W,X,N,O,F,G,P,Y,Q,R,j,d,I,l,f,J,n,g,K,p,h,L,rfl,oh,eD,M,B,C,E,s,u,y,z⟩
 refine jF (dF dm) (sk (rt (tR (Fin.res (res0 rfl) ?_))))
 have ol:=aN.px [] [0,1,23] []
 obtain⟨rfl,rfl⟩:=fT (hr.symm.trans (show _=(p0,a) from et (ip aS) (et (ah aG) (et (fU aU) (et (iN bJ) (et (ip bg) (et (ip aK) (et (ip cZ) (iN dm)))))))))
 exact⟨aD,aF,au,S,T,U,V,W,X,N,O,F,G,P,Y,Q,R,j,d,I,l,f,J,n,g,K,p,h,L,rfl,ol,ag,M,B,C,E,s,u,y,z⟩
 refine jF (dF cZ) (sk ?_)
 have eG:=aN.px [] [23] []
 refine EO (Mz rfl (Lz (vI (b.aP - 10)) eG 0 C6 (La (gM b ax Z aA aa aC ae) eG 1 L9 M0 ?_)))
 have om:=eG.pb [0,1]
 obtain⟨⟨jl,jo⟩,eH⟩:∃ q:bO × aB,eO p0 (b.aP - 10) b a=q:=⟨_,rfl⟩
 obtain⟨Bc,j6,bY,kg,xI⟩:=FN om
 refine cl P4 (jm _ _ g0 p0 aD aF au (b.aP - 10) b ax b.aD.ls.length Z aA b.ai.ls.length aa bf aC b.ag.ls.length ae r a S T U V W X N O F G P Y Q R j d I l f J n g K p h L jl jo j6 ag rfl (bY _ aX) (show b.aD.ls.length≤Z∧b.aD.ls.length≤9223372036854775807 from by omega) aR rfl (bY _ aY) (show b.ai.ls.length≤aa∧b.ai.ls.length≤9223372036854775807 from by omega) (fun x9 h9=>⟨bY _ (ai x9 h9).1,(ai x9 h9).2⟩) rfl (bY _ aZ) (show b.ag.ls.length≤ae∧b.ag.ls.length≤9223372036854775807 from by omega) M B C E s u y z e8 e6 e8 eH) ?_
 rintro _ Bd ⟨oo,oq,ou,ow,oz,oC,oD,oG,oH,oI,oJ,oK,oL,oM,oN,oO,oP,oQ,oU,oV,oW,oZ,o5,o6,o7,o8,o9,pg,pq,rfl,ko,eP,eQ,eT,eU,eX,eY,eZ,fe,fo⟩
 have bu:=kg _ _ ko
 have xJ:=az eP
 have xK:=az eQ
 have xL:=az eT
 have xM:=az eU
 have xO:=az eX
 have xP:=az eY
 have xQ:=az eZ
 have xR:=az fe
 have xS:=az fo
 have xU:=bu.rowC (i:=1) rfl
 have xV:=bu.rowC (i:=4) rfl
 have xW:=bu.rowC (i:=5) rfl
 have xX:=bu.rowC (i:=7) rfl
 have xY:=bu.rowC (i:=9) rfl
 have xZ:=bu.rowC (i:=11) rfl
 have x8:=bu.rowC (i:=13) rfl
 have yc:=bu.rowC (i:=15) rfl
 have yf:=bu.rowC (i:=17) rfl
 have yg:=bu.rowC (i:=19) rfl
 refine D0 (Ff (res0 rfl) ?_)
 have pu:=bu.px [] [21,22] []
 obtain⟨rfl,rfl⟩:=fT (hr.symm.trans (show _=(jl,jo) from et (ip aS) (et (ah aG) (et (fU aU) (et (iN bJ) (et (ip bg) (et (ip aK) (et (iN cZ) (ah eH)))))))))
 exact⟨oo,oq,ou,ow,oz,oC,oD,oG,oH,oI,oJ,oK,oL,oM,oN,oO,oP,oQ,oU,oV,oW,oZ,o5,o6,o7,o8,o9,pg,pq,rfl,pu,eP,eQ,eT,eU,eX,eY,eZ,fe,fo⟩
 refine Sz aK (Sz aK (Sz aK (Sz aK (Sz aK (fw (.bool false) (ES rfl aK rfl) (nt (jf (sk ?_))))))))
 have fq:=aN.px [] [23] []
 refine EO (Mz rfl (Lz (vI (b.aP - 10)) fq 0 C6 (La (gM b ax Z aA aa aC ae) fq 1 L9 M0 ?_)))
 have pz:=fq.pb [0,1]
 obtain⟨⟨jq,jr⟩,fu⟩:∃ q:bO × aB,eO p0 (b.aP - 10) b a=q:=⟨_,rfl⟩
 obtain⟨Be,ku,bZ,kv,yh⟩:=FN pz
 refine cl P4 (jm _ _ g0 p0 aD aF au (b.aP - 10) b ax b.aD.ls.length Z aA b.ai.ls.length aa bf aC b.ag.ls.length ae r a S T U V W X N O F G P Y Q R j d I l f J n g K p h L jq jr ku ag rfl (bZ _ aX) (show b.aD.ls.length≤Z∧b.aD.ls.length≤9223372036854775807 from by omega) aR rfl (bZ _ aY) (show b.ai.ls.length≤aa∧b.ai.ls.length≤9223372036854775807 from by omega) (fun x9 h9=>⟨bZ _ (ai x9 h9).1,(ai x9 h9).2⟩) rfl (bZ _ aZ) (show b.ag.ls.length≤ae∧b.ag.ls.length≤9223372036854775807 from by omega) M B C E s u y z e8 e6 e8 fu) ?_
 rintro _ Bf ⟨pE,pF,pG,pI,pJ,pK,pM,pO,pQ,pR,pU,pV,pW,pX,pY,p8,p9,qa,qb,qc,qf,qg,qh,qi,qj,qm,qo,qw,qx,rfl,kw,fA,fB,fC,fE,fF,fG,fH,fI,fJ⟩
 have bE:=kv _ _ kw
 have yj:=az fA
 have yl:=az fB
 have ym:=az fC
 have yn:=az fE
 have yo:=az fF
 have yt:=az fG
 have yu:=az fH
 have yw:=az fI
 have yx:=az fJ
 have yz:=bE.rowC (i:=1) rfl
 have yA:=bE.rowC (i:=4) rfl
 have yB:=bE.rowC (i:=5) rfl
 have yC:=bE.rowC (i:=7) rfl
 have yD:=bE.rowC (i:=9) rfl
 have yE:=bE.rowC (i:=11) rfl
 have yF:=bE.rowC (i:=13) rfl
 have yG:=bE.rowC (i:=15) rfl
 have yH:=bE.rowC (i:=17) rfl
 have yI:=bE.rowC (i:=19) rfl
 refine D0 (Ff (res0 rfl) ?_)
 have qy:=bE.px [] [21,22] []
 obtain⟨rfl,rfl⟩:=fT (hr.symm.trans (show _=(jq,jr) from et (ip aS) (et (ah aG) (et (fU aU) (et (iN bJ) (et (ip bg) (et (fU aK) (ah fu))))))))
 exact⟨pE,pF,pG,pI,pJ,pK,pM,pO,pQ,pR,pU,pV,pW,pX,pY,p8,p9,qa,qb,qc,qf,qg,qh,qi,qj,qm,qo,qw,qx,rfl,qy,fA,fB,fC,fE,fF,fG,fH,fI,fJ⟩
 by_cases bR:b.aP - 10=3
 refine qt (v:=vP r 21) 7 rfl (fun _ _=>by rw [show b.aP - 10=3 from by omega]; exact yk) (qt (v:= .agg #[.bool a.aN.aR,vU a.aN.aH,vI a.aN.aZ, .slice n a.aN.ae.ls.length g]) 8 rfl (fun _ ⟨_,H9⟩=>EY rfl (Fb (cs:= [.bool a.aN.aR,vU a.aN.aH,vI a.aN.aZ, .slice n a.aN.ae.ls.length g]) P3 O1 ((H9.cls (i:=5) rfl).lit (k:=21) (m:=4) rfl))) ?_)
 refine qd 9 rfl (FQ (cs:= [.bool false, .int .u64 0,vI 0, .slice none 0 0]) (t:=81) iT rfl rfl (fun _=>by kernel_rfl) ?_)
 intro bV Bg qz
 have jv:=qz.pb [0]
 refine⟨.inr ⟨_,jv⟩, ?_⟩
 have qA:=jv.pf [23]
 refine qe 10 rfl (Do.store (vs:= [.bool a.aN.aR,vU a.aN.aH,vI a.aN.aZ, .slice n a.aN.ae.ls.length g]) (o:=0) qA rfl rfl O1 rfl rfl rfl rfl ?_)
 intro Bh qB
 have aO:=qB.pb [0]
 refine⟨.inr ⟨_,aO⟩, ?_⟩
 refine qn (ER (sr (Kz (vP bV 0) (Lz (.bool a.aN.aR) aO 23 L7 (Mz rfl ?_)))))
 rcases IW (a.aN.aR) with aL | aL
 refine Gz (vP bV 1) aL (Gl (vU a.aN.aH) aL aO 23 E1 (Gz (vP bT 6) aL (Gl (vU b.aY) aL aO 1 E1 (Gz (.bool (decide (((a.aN.aH:Nat):Int) ≥ ((b.aY:Nat):Int)))) aL (fw (.bool (decide (((a.aN.aH:Nat):Int) ≥ ((b.aY:Nat):Int)))) (Fa rfl aL rfl) (nt ?_))))))
 by_cases df:((a.aN.aH:Nat):Int) ≥ ((b.aY:Nat):Int)
 refine jT (dT df) (EP (sr (Kz (vP bV 1) (Lz (vU a.aN.aH) aO 23 E1 (Kz (vP bT 6) (Lz (vU b.aY) aO 1 E1 (Kz (.bool (decide (((a.aN.aH:Nat):Int)=((b.aY:Nat):Int)))) (nt ?_))))))))
 by_cases dn:((a.aN.aH:Nat):Int)=((b.aY:Nat):Int)
 refine jT (dT dn) (EO (Mz rfl (Lz (vI (b.aP - 10)) aO 0 C6 (Kz (vP bV 1) (Lz (vU a.aN.aH) aO 23 E1 (Kz (vP bV 2) (Lz (vI a.aN.aZ) aO 23 C6 (Kz (vP bV 3) (Lz (.slice n a.aN.ae.ls.length g) aO 23 E6 ?_)))))))))
 refine WL.do rfl (Fe N8 rfl ?_ (fun _ _ k=>k))
 refine cb N9 ?_
 refine EO (Mz rfl (Mz rfl (fw (vI (10+(b.aP - 10))) (EQ (e:=C7.wrap (10+(b.aP - 10))) yk g2) (Mz rfl (Mz rfl (Kz (vP g0 0) (Kz (vP g0 0) (Lz (vP r 0) aO 2 N7 (Kz (vP r 0) (Kz (vP r 0) (Kz (vP r 1) (Lz (vU a.aa.ax) aO 5 E1 (Mz rfl (Mz rfl (Kz (.agg (gH 2 0 (10+(b.aP - 10)) 0 a.aN.aZ 0 a.aN.aH a.aa.ax 0 0 0 0 0 0 0 false ([]) ([]) none 0 0 n a.aN.ae.ls.length g none 0 0).toArray) ?_)))))))))))))))
 have jw:=aO.pf [2,3,4]
 obtain⟨fK,fM⟩:∃ q,dB p0 (bQ.mk 2 0 (10+(b.aP - 10)) 0 a.aN.aZ 0 a.aN.aH a.aa.ax 0 0 0 0 0 0 0 false (bK.mk ([]) ([])) (E4 ([])) (E4 a.aN.ae.ls) (E4 ([])))=q:=⟨_,rfl⟩
 obtain⟨Bi,ky,yJ,kz,fO⟩:=FC jw
 refine cl O0 (fD _ _ g0 p0 aD aF au r (bQ.mk 2 0 (10+(b.aP - 10)) 0 a.aN.aZ 0 a.aN.aH a.aa.ax 0 0 0 0 0 0 0 false (bK.mk ([]) ([])) (E4 ([])) (E4 a.aN.ae.ls) (E4 ([]))) none 0 0 n a.aN.ae.ls.length g K none 0 0 fK ky ag rfl (fun _ _=>bD.nil _ _ _) f2 y rfl (fO _ 16 _ rfl aT) (show a.aN.ae.ls.length≤g∧a.aN.ae.ls.length≤9223372036854775807 from by omega) (fun x9 h9=>⟨fO _ 17 _ rfl (av (O7.2 ⟨x9,h9,b1⟩) aT),bz (φ:=fun _=>_) jw (i:=20) rfl (av (O7.2 ⟨x9,h9,b1⟩) bn)⟩) rfl (fun _ _=>bD.nil _ _ _) f2 e8 (by first | assumption | exact dD f5 | exact fun x hx=>absurd hx B3 | exact dD (Mk.lX f5).1 | exact dD (Mk.kZ f5).1 | exact dD (Mk.ma f5).1 | exact dD (Mk.mg f5).1 | exact dD (Mk.mf f5).1) fM) ?_
 rintro _ Bj ⟨qC,qD,qE,rfl,kC,fP,fQ⟩
 have jA:=kz _ _ kC
 have yK:=az fP
 have yL:=jA.rowC (i:=1) rfl
 replace fQ:fK.bE.ls.length=p0.bE.ls.length+1:=fQ
 refine D0 (Ff (res0 rfl) (nt (rt (tR (Fin.res (res0 rfl) ?_)))))
 have qF:=jA.px [] [3,4,23] []
 obtain⟨rfl,rfl⟩:=fT (hr.symm.trans (show _=(fK,a) from et (ip aS) (et (ah aG) (et (fU aU) (et (iN bJ) (et (iN bg) (et (ip bR) (et (ip aL) (et (ip df) (et (ip dn) (ah fM)))))))))))
 exact⟨qC,qD,qE,S,T,U,V,W,X,N,O,F,G,P,Y,Q,R,j,d,I,l,f,J,n,g,K,p,h,L,rfl,qF,fP,M,B,C,E,s,u,y,z⟩
 refine jF (dF dn) (sk (rt (tR (Fin.res (res0 rfl) ?_))))
 have qG:=aO.px [] [0,1,23] []
 obtain⟨rfl,rfl⟩:=fT (hr.symm.trans (show _=(p0,a) from et (ip aS) (et (ah aG) (et (fU aU) (et (iN bJ) (et (iN bg) (et (ip bR) (et (ip aL) (et (ip df) (iN dn))))))))))
 exact⟨aD,aF,au,S,T,U,V,W,X,N,O,F,G,P,Y,Q,R,j,d,I,l,f,J,n,g,K,p,h,L,rfl,qG,ag,M,B,C,E,s,u,y,z⟩
 refine jF (dF df) (sk ?_)
 have fV:=aO.px [] [23] []
 refine EO (Mz rfl (Lz (vI (b.aP - 10)) fV 0 C6 (La (gM b ax Z aA aa aC ae) fV 1 L9 M0 ?_)))
 have qH:=fV.pb [0,1]
 obtain⟨⟨jB,jC⟩,fZ⟩:∃ q:bO × aB,eO p0 (b.aP - 10) b a=q:=⟨_,rfl⟩
 obtain⟨Bl,kD,cu,kE,yM⟩:=FN qH
 refine cl P4 (jm _ _ g0 p0 aD aF au (b.aP - 10) b ax b.aD.ls.length Z aA b.ai.ls.length aa bf aC b.ag.ls.length ae r a S T U V W X N O F G P Y Q R j d I l f J n g K p h L jB jC kD ag rfl (cu _ aX) (show b.aD.ls.length≤Z∧b.aD.ls.length≤9223372036854775807 from by omega) aR rfl (cu _ aY) (show b.ai.ls.length≤aa∧b.ai.ls.length≤9223372036854775807 from by omega) (fun x9 h9=>⟨cu _ (ai x9 h9).1,(ai x9 h9).2⟩) rfl (cu _ aZ) (show b.ag.ls.length≤ae∧b.ag.ls.length≤9223372036854775807 from by omega) M B C E s u y z e8 e6 e8 fZ) ?_
 rintro _ Bn ⟨qI,qJ,qK,qL,qM,qN,qO,qP,qQ,qR,qU,qV,qW,qX,qY,qZ,q8,q9,rf,rq,ru,ry,rz,rA,rC,rD,rE,rF,rG,rfl,kF,gm,gp,gq,gu,gy,gz,gB,gD,gF⟩
 have bF:=kE _ _ kF
 have yN:=az gm
 have yO:=az gp
 have yP:=az gq
 have yQ:=az gu
 have yR:=az gy
 have yS:=az gz
 have yT:=az gB
 have yU:=az gD
 have yV:=az gF
 have yX:=bF.rowC (i:=1) rfl
 have yY:=bF.rowC (i:=4) rfl
 have yZ:=bF.rowC (i:=5) rfl
 have y5:=bF.rowC (i:=7) rfl
 have y7:=bF.rowC (i:=9) rfl
 have y8:=bF.rowC (i:=11) rfl
 have y9:=bF.rowC (i:=13) rfl
 have za:=bF.rowC (i:=15) rfl
 have zb:=bF.rowC (i:=17) rfl
 have ze:=bF.rowC (i:=19) rfl
 refine D0 (Ff (res0 rfl) ?_)
 have rH:=bF.px [] [21,22] []
 obtain⟨rfl,rfl⟩:=fT (hr.symm.trans (show _=(jB,jC) from et (ip aS) (et (ah aG) (et (fU aU) (et (iN bJ) (et (iN bg) (et (ip bR) (et (ip aL) (et (iN df) (ah fZ))))))))))
 exact⟨qI,qJ,qK,qL,qM,qN,qO,qP,qQ,qR,qU,qV,qW,qX,qY,qZ,q8,q9,rf,rq,ru,ry,rz,rA,rC,rD,rE,rF,rG,rfl,rH,gm,gp,gq,gu,gy,gz,gB,gD,gF⟩
 refine Sz aL (Sz aL (Sz aL (Sz aL (Sz aL (fw (.bool false) (ES rfl aL rfl) (nt (jf (sk ?_))))))))
 have gG:=aO.px [] [23] []
 refine EO (Mz rfl (Lz (vI (b.aP - 10)) gG 0 C6 (La (gM b ax Z aA aa aC ae) gG 1 L9 M0 ?_)))
 have rJ:=gG.pb [0,1]
 obtain⟨⟨jD,jE⟩,gI⟩:∃ q:bO × aB,eO p0 (b.aP - 10) b a=q:=⟨_,rfl⟩
 obtain⟨Bo,kG,cz,kH,zf⟩:=FN rJ
 refine cl P4 (jm _ _ g0 p0 aD aF au (b.aP - 10) b ax b.aD.ls.length Z aA b.ai.ls.length aa bf aC b.ag.ls.length ae r a S T U V W X N O F G P Y Q R j d I l f J n g K p h L jD jE kG ag rfl (cz _ aX) (show b.aD.ls.length≤Z∧b.aD.ls.length≤9223372036854775807 from by omega) aR rfl (cz _ aY) (show b.ai.ls.length≤aa∧b.ai.ls.length≤9223372036854775807 from by omega) (fun x9 h9=>⟨cz _ (ai x9 h9).1,(ai x9 h9).2⟩) rfl (cz _ aZ) (show b.ag.ls.length≤ae∧b.ag.ls.length≤9223372036854775807 from by omega) M B C E s u y z e8 e6 e8 gI) ?_
 rintro _ Bp ⟨rM,rO,rP,rQ,rR,rT,rU,rV,rW,rX,rY,rZ,r9,si,sj,su,sw,sD,sF,sG,sH,sI,sJ,sK,sM,sN,sO,sP,sQ,rfl,kI,gJ,gK,gL,gN,gP,gQ,gT,gU,gV⟩
 have bG:=kH _ _ kI
 have zg:=az gJ
 have zh:=az gK
 have zi:=az gL
 have zk:=az gN
 have zl:=az gP
 have zm:=az gQ
 have zn:=az gT
 have zo:=az gU
 have zq:=az gV
 have zt:=bG.rowC (i:=1) rfl
 have zu:=bG.rowC (i:=4) rfl
 have zw:=bG.rowC (i:=5) rfl
 have zx:=bG.rowC (i:=7) rfl
 have zy:=bG.rowC (i:=9) rfl
 have zz:=bG.rowC (i:=11) rfl
 have zA:=bG.rowC (i:=13) rfl
 have zB:=bG.rowC (i:=15) rfl
 have zC:=bG.rowC (i:=17) rfl
 have zD:=bG.rowC (i:=19) rfl
 refine D0 (Ff (res0 rfl) ?_)
 have sS:=bG.px [] [21,22] []
 obtain⟨rfl,rfl⟩:=fT (hr.symm.trans (show _=(jD,jE) from et (ip aS) (et (ah aG) (et (fU aU) (et (iN bJ) (et (iN bg) (et (ip bR) (et (fU aL) (ah gI)))))))))
 exact⟨rM,rO,rP,rQ,rR,rT,rU,rV,rW,rX,rY,rZ,r9,si,sj,su,sw,sD,sF,sG,sH,sI,sJ,sK,sM,sN,sO,sP,sQ,rfl,sS,gJ,gK,gL,gN,gP,gQ,gT,gU,gV⟩
 refine qt (v:=vP r 25) 7 rfl (fun _ _=>by rw [show b.aP - 10=4 from by omega]; exact yk) (qt (v:= .agg #[.bool a.aK.aR,vU a.aK.aH,vI a.aK.aZ, .slice p a.aK.ae.ls.length h]) 8 rfl (fun _ ⟨_,H9⟩=>EY rfl (Fb (cs:= [.bool a.aK.aR,vU a.aK.aH,vI a.aK.aZ, .slice p a.aK.ae.ls.length h]) P3 O1 ((H9.cls (i:=5) rfl).lit (k:=25) (m:=4) rfl))) ?_)
 refine qd 9 rfl (FQ (cs:= [.bool false, .int .u64 0,vI 0, .slice none 0 0]) (t:=81) iT rfl rfl (fun _=>by kernel_rfl) ?_)
 intro bW Bq sU
 have jG:=sU.pb [0]
 refine⟨.inr ⟨_,jG⟩, ?_⟩
 have sW:=jG.pf [23]
 refine qe 10 rfl (Do.store (vs:= [.bool a.aK.aR,vU a.aK.aH,vI a.aK.aZ, .slice p a.aK.ae.ls.length h]) (o:=0) sW rfl rfl O1 rfl rfl rfl rfl ?_)
 intro Br sZ
 have aP:=sZ.pb [0]
 refine⟨.inr ⟨_,aP⟩, ?_⟩
 refine qn (ER (sr (Kz (vP bW 0) (Lz (.bool a.aK.aR) aP 23 L7 (Mz rfl ?_)))))
 rcases IW (a.aK.aR) with aM | aM
 refine Gz (vP bW 1) aM (Gl (vU a.aK.aH) aM aP 23 E1 (Gz (vP bT 6) aM (Gl (vU b.aY) aM aP 1 E1 (Gz (.bool (decide (((a.aK.aH:Nat):Int) ≥ ((b.aY:Nat):Int)))) aM (fw (.bool (decide (((a.aK.aH:Nat):Int) ≥ ((b.aY:Nat):Int)))) (Fa rfl aM rfl) (nt ?_))))))
 by_cases dh:((a.aK.aH:Nat):Int) ≥ ((b.aY:Nat):Int)
 refine jT (dT dh) (EP (sr (Kz (vP bW 1) (Lz (vU a.aK.aH) aP 23 E1 (Kz (vP bT 6) (Lz (vU b.aY) aP 1 E1 (Kz (.bool (decide (((a.aK.aH:Nat):Int)=((b.aY:Nat):Int)))) (nt ?_))))))))
 by_cases dw:((a.aK.aH:Nat):Int)=((b.aY:Nat):Int)
 refine jT (dT dw) (EO (Mz rfl (Lz (vI (b.aP - 10)) aP 0 C6 (Kz (vP bW 1) (Lz (vU a.aK.aH) aP 23 E1 (Kz (vP bW 2) (Lz (vI a.aK.aZ) aP 23 C6 (Kz (vP bW 3) (Lz (.slice p a.aK.ae.ls.length h) aP 23 E6 ?_)))))))))
 refine WL.do rfl (Fe N8 rfl ?_ (fun _ _ k=>k))
 refine cb N9 ?_
 refine EO (Mz rfl (Mz rfl (fw (vI (10+(b.aP - 10))) (EQ (e:=C7.wrap (10+(b.aP - 10))) yk g2) (Mz rfl (Mz rfl (Kz (vP g0 0) (Kz (vP g0 0) (Lz (vP r 0) aP 2 N7 (Kz (vP r 0) (Kz (vP r 0) (Kz (vP r 1) (Lz (vU a.aa.ax) aP 5 E1 (Mz rfl (Mz rfl (Kz (.agg (gH 2 0 (10+(b.aP - 10)) 0 a.aK.aZ 0 a.aK.aH a.aa.ax 0 0 0 0 0 0 0 false ([]) ([]) none 0 0 p a.aK.ae.ls.length h none 0 0).toArray) ?_)))))))))))))))
 have jH:=aP.pf [2,3,4]
 obtain⟨gW,gX⟩:∃ q,dB p0 (bQ.mk 2 0 (10+(b.aP - 10)) 0 a.aK.aZ 0 a.aK.aH a.aa.ax 0 0 0 0 0 0 0 false (bK.mk ([]) ([])) (E4 ([])) (E4 a.aK.ae.ls) (E4 ([])))=q:=⟨_,rfl⟩
 obtain⟨Bt,kJ,zF,kK,gY⟩:=FC jH
 refine cl O0 (fD _ _ g0 p0 aD aF au r (bQ.mk 2 0 (10+(b.aP - 10)) 0 a.aK.aZ 0 a.aK.aH a.aa.ax 0 0 0 0 0 0 0 false (bK.mk ([]) ([])) (E4 ([])) (E4 a.aK.ae.ls) (E4 ([]))) none 0 0 p a.aK.ae.ls.length h L none 0 0 gW kJ ag rfl (fun _ _=>bD.nil _ _ _) f2 z rfl (gY _ 18 _ rfl aT) (show a.aK.ae.ls.length≤h∧a.aK.ae.ls.length≤9223372036854775807 from by omega) (fun x9 h9=>⟨gY _ 19 _ rfl (av (O7.2 ⟨x9,h9,b1⟩) aT),bz (φ:=fun _=>_) jH (i:=22) rfl (av (O7.2 ⟨x9,h9,b1⟩) bn)⟩) rfl (fun _ _=>bD.nil _ _ _) f2 e8 (by first | assumption | exact dD f5 | exact fun x hx=>absurd hx B3 | exact dD (Mk.lX f5).1 | exact dD (Mk.kZ f5).1 | exact dD (Mk.ma f5).1 | exact dD (Mk.mg f5).1 | exact dD (Mk.mf f5).1) gX) ?_
 rintro _ Bu ⟨tq,tu,tC,rfl,kL,gZ,ib⟩
 have jI:=kK _ _ kL
 have zG:=az gZ
 have zH:=jI.rowC (i:=1) rfl
 replace ib:gW.bE.ls.length=p0.bE.ls.length+1:=ib
 refine D0 (Ff (res0 rfl) (nt (rt (tR (Fin.res (res0 rfl) ?_)))))
 have tF:=jI.px [] [3,4,23] []
 obtain⟨rfl,rfl⟩:=fT (hr.symm.trans (show _=(gW,a) from et (ip aS) (et (ah aG) (et (fU aU) (et (iN bJ) (et (iN bg) (et (iN bR) (et (ip aM) (et (ip dh) (et (ip dw) (ah gX)))))))))))
 exact⟨tq,tu,tC,S,T,U,V,W,X,N,O,F,G,P,Y,Q,R,j,d,I,l,f,J,n,g,K,p,h,L,rfl,tF,gZ,M,B,C,E,s,u,y,z⟩
 refine jF (dF dw) (sk (rt (tR (Fin.res (res0 rfl) ?_))))
 have tH:=aP.px [] [0,1,23] []
 obtain⟨rfl,rfl⟩:=fT (hr.symm.trans (show _=(p0,a) from et (ip aS) (et (ah aG) (et (fU aU) (et (iN bJ) (et (iN bg) (et (iN bR) (et (ip aM) (et (ip dh) (iN dw))))))))))
 exact⟨aD,aF,au,S,T,U,V,W,X,N,O,F,G,P,Y,Q,R,j,d,I,l,f,J,n,g,K,p,h,L,rfl,tH,ag,M,B,C,E,s,u,y,z⟩
 refine jF (dF dh) (sk ?_)
 have ic:=aP.px [] [23] []
 refine EO (Mz rfl (Lz (vI (b.aP - 10)) ic 0 C6 (La (gM b ax Z aA aa aC ae) ic 1 L9 M0 ?_)))
 have tJ:=ic.pb [0,1]
 obtain⟨⟨jJ,jK⟩,ig⟩:∃ q:bO × aB,eO p0 (b.aP - 10) b a=q:=⟨_,rfl⟩
 obtain⟨Bv,kM,cB,kN,zI⟩:=FN tJ
 refine cl P4 (jm _ _ g0 p0 aD aF au (b.aP - 10) b ax b.aD.ls.length Z aA b.ai.ls.length aa bf aC b.ag.ls.length ae r a S T U V W X N O F G P Y Q R j d I l f J n g K p h L jJ jK kM ag rfl (cB _ aX) (show b.aD.ls.length≤Z∧b.aD.ls.length≤9223372036854775807 from by omega) aR rfl (cB _ aY) (show b.ai.ls.length≤aa∧b.ai.ls.length≤9223372036854775807 from by omega) (fun x9 h9=>⟨cB _ (ai x9 h9).1,(ai x9 h9).2⟩) rfl (cB _ aZ) (show b.ag.ls.length≤ae∧b.ag.ls.length≤9223372036854775807 from by omega) M B C E s u y z e8 e6 e8 ig) ?_
 rintro _ Bw ⟨tK,tL,tN,tO,tQ,tV,tX,tY,tZ,uf,ug,uh,ui,uj,uk,ul,um,uo,uq,ut,uu,uw,uy,uz,uA,uB,uC,uD,uE,rfl,kP,ik,il,iq,iw,iy,iA,iB,iC,iD⟩
 have bH:=kN _ _ kP
 have zJ:=az ik
 have zK:=az il
 have zL:=az iq
 have zM:=az iw
 have zN:=az iy
 have zO:=az iA
 have zP:=az iB
 have zQ:=az iC
 have zR:=az iD
 have zS:=bH.rowC (i:=1) rfl
 have zT:=bH.rowC (i:=4) rfl
 have zU:=bH.rowC (i:=5) rfl
 have zV:=bH.rowC (i:=7) rfl
 have zW:=bH.rowC (i:=9) rfl
 have zX:=bH.rowC (i:=11) rfl
 have zY:=bH.rowC (i:=13) rfl
 have zZ:=bH.rowC (i:=15) rfl
 have z8:=bH.rowC (i:=17) rfl
 have Aa:=bH.rowC (i:=19) rfl
 refine D0 (Ff (res0 rfl) ?_)
 have uF:=bH.px [] [21,22] []
 obtain⟨rfl,rfl⟩:=fT (hr.symm.trans (show _=(jJ,jK) from et (ip aS) (et (ah aG) (et (fU aU) (et (iN bJ) (et (iN bg) (et (iN bR) (et (ip aM) (et (iN dh) (ah ig))))))))))
 exact⟨tK,tL,tN,tO,tQ,tV,tX,tY,tZ,uf,ug,uh,ui,uj,uk,ul,um,uo,uq,ut,uu,uw,uy,uz,uA,uB,uC,uD,uE,rfl,uF,ik,il,iq,iw,iy,iA,iB,iC,iD⟩
 refine Sz aM (Sz aM (Sz aM (Sz aM (Sz aM (fw (.bool false) (ES rfl aM rfl) (nt (jf (sk ?_))))))))
 have iE:=aP.px [] [23] []
 refine EO (Mz rfl (Lz (vI (b.aP - 10)) iE 0 C6 (La (gM b ax Z aA aa aC ae) iE 1 L9 M0 ?_)))
 have uG:=iE.pb [0,1]
 obtain⟨⟨jL,jM⟩,iF⟩:∃ q:bO × aB,eO p0 (b.aP - 10) b a=q:=⟨_,rfl⟩
 obtain⟨Bz,kQ,cK,kR,Ab⟩:=FN uG
 refine cl P4 (jm _ _ g0 p0 aD aF au (b.aP - 10) b ax b.aD.ls.length Z aA b.ai.ls.length aa bf aC b.ag.ls.length ae r a S T U V W X N O F G P Y Q R j d I l f J n g K p h L jL jM kQ ag rfl (cK _ aX) (show b.aD.ls.length≤Z∧b.aD.ls.length≤9223372036854775807 from by omega) aR rfl (cK _ aY) (show b.ai.ls.length≤aa∧b.ai.ls.length≤9223372036854775807 from by omega) (fun x9 h9=>⟨cK _ (ai x9 h9).1,(ai x9 h9).2⟩) rfl (cK _ aZ) (show b.ag.ls.length≤ae∧b.ag.ls.length≤9223372036854775807 from by omega) M B C E s u y z e8 e6 e8 iF) ?_
 rintro _ BA ⟨uH,uI,uJ,uK,uL,uM,uN,uO,uP,uQ,uR,uS,uT,uU,uV,uW,uX,uY,uZ,u6,u7,ve,vg,vk,vo,vv,vw,vz,vB,rfl,kS,iG,iH,iI,iJ,iK,iL,iM,iO,iP⟩
 have bI:=kR _ _ kS
 have Ac:=az iG
 have Ad:=az iH
 have Ae:=az iI
 have Af:=az iJ
 have Ag:=az iK
 have Ah:=az iL
 have Ai:=az iM
 have Aj:=az iO
 have Ak:=az iP
 have Al:=bI.rowC (i:=1) rfl
 have Am:=bI.rowC (i:=4) rfl
 have Ao:=bI.rowC (i:=5) rfl
 have Ap:=bI.rowC (i:=7) rfl
 have Aq:=bI.rowC (i:=9) rfl
 have Ar:=bI.rowC (i:=11) rfl
 have Au:=bI.rowC (i:=13) rfl
 have Av:=bI.rowC (i:=15) rfl
 have Aw:=bI.rowC (i:=17) rfl
 have Ay:=bI.rowC (i:=19) rfl
 refine D0 (Ff (res0 rfl) ?_)
 have vC:=bI.px [] [21,22] []
 obtain⟨rfl,rfl⟩:=fT (hr.symm.trans (show _=(jL,jM) from et (ip aS) (et (ah aG) (et (fU aU) (et (iN bJ) (et (iN bg) (et (iN bR) (et (fU aM) (ah iF)))))))))
 exact⟨uH,uI,uJ,uK,uL,uM,uN,uO,uP,uQ,uR,uS,uT,uU,uV,uW,uX,uY,uZ,u6,u7,ve,vg,vk,vo,vv,vw,vz,vB,rfl,vC,iG,iH,iI,iJ,iK,iL,iM,iO,iP⟩
 refine jT (dT aS) (sr (Mz rfl (Lz (vI (b.aP - 10)) bN 0 C6 (La (gM b ax Z aA aa aC ae) bN 1 L9 M0 ?_))))
 have aQ:=bN.pf [2,3,4,5]
 have Az:=aQ.rowC (i:=9) rfl
 have AA:=aQ.rowC (i:=13) rfl
 have AB:=aQ.rowC (i:=15) rfl
 have AC:=aQ.rowC (i:=17) rfl
 have AJ:=aQ.rowC (i:=19) rfl
 have AL:=aQ.rowC (i:=21) rfl
 obtain⟨jN,iQ⟩:∃ q,lq p0 (b.aP - 10) b a=q:=⟨_,rfl⟩
 obtain⟨BB,kT,cO,kU,aH⟩:=FM aQ
 refine cl Tryz.call86 (sV _ _ g0 p0 aD aF au (b.aP - 10) b ax b.aD.ls.length Z aA b.ai.ls.length aa bf aC b.ag.ls.length ae r a S T U V X N O F G Y Q R j d I l f J n g K p h L jN kT ag rfl (cO _ aX) (show b.aD.ls.length≤Z∧b.aD.ls.length≤9223372036854775807 from by omega) aR rfl (cO _ aY) (show b.ai.ls.length≤aa∧b.ai.ls.length≤9223372036854775807 from by omega) (fun x9 h9=>⟨cO _ (ai x9 h9).1,(ai x9 h9).2⟩) rfl (cO _ aZ) (show b.ag.ls.length≤ae∧b.ag.ls.length≤9223372036854775807 from by omega) B (aH _ 5 _ rfl aT) (show a.aa.aF.ls.length≤N∧a.aa.aF.ls.length≤9223372036854775807 from by omega) (fun x9 h9=>⟨aH _ 6 _ rfl (av (O7.2 ⟨x9,h9,b1⟩) aT),bz (φ:=fun _=>_) aQ (i:=10) rfl (av (O7.2 ⟨x9,h9,b1⟩) bn),(fun y1 k1=>⟨aH _ 6 _ rfl (av (O7.2 ⟨x9,h9, .tail _ b1⟩) (av (O7.2 ⟨y1,k1,b1⟩) aT)),bz (φ:=fun _=>_) aQ (i:=10) rfl (av (O7.2 ⟨x9,h9, .tail _ b1⟩) (av (O7.2 ⟨y1,k1,b1⟩) bn))⟩)⟩) E (aH _ 9 _ rfl aT) (show a.aQ.ae.ls.length≤Q∧a.aQ.ae.ls.length≤9223372036854775807 from by omega) (fun x9 h9=>⟨aH _ 10 _ rfl (av (O7.2 ⟨x9,h9,b1⟩) aT),bz (φ:=fun _=>_) aQ (i:=14) rfl (av (O7.2 ⟨x9,h9,b1⟩) bn)⟩) s (aH _ 11 _ rfl aT) (show a.aO.ae.ls.length≤d∧a.aO.ae.ls.length≤9223372036854775807 from by omega) (fun x9 h9=>⟨aH _ 12 _ rfl (av (O7.2 ⟨x9,h9,b1⟩) aT),bz (φ:=fun _=>_) aQ (i:=16) rfl (av (O7.2 ⟨x9,h9,b1⟩) bn)⟩) u (aH _ 13 _ rfl aT) (show a.aL.ae.ls.length≤f∧a.aL.ae.ls.length≤9223372036854775807 from by omega) (fun x9 h9=>⟨aH _ 14 _ rfl (av (O7.2 ⟨x9,h9,b1⟩) aT),bz (φ:=fun _=>_) aQ (i:=18) rfl (av (O7.2 ⟨x9,h9,b1⟩) bn)⟩) y (aH _ 15 _ rfl aT) (show a.aN.ae.ls.length≤g∧a.aN.ae.ls.length≤9223372036854775807 from by omega) (fun x9 h9=>⟨aH _ 16 _ rfl (av (O7.2 ⟨x9,h9,b1⟩) aT),bz (φ:=fun _=>_) aQ (i:=20) rfl (av (O7.2 ⟨x9,h9,b1⟩) bn)⟩) z (aH _ 17 _ rfl aT) (show a.aK.ae.ls.length≤h∧a.aK.ae.ls.length≤9223372036854775807 from by omega) (fun x9 h9=>⟨aH _ 18 _ rfl (av (O7.2 ⟨x9,h9,b1⟩) aT),bz (φ:=fun _=>_) aQ (i:=22) rfl (av (O7.2 ⟨x9,h9,b1⟩) bn)⟩) e8 f5 iQ) ?_
 rintro _ BC ⟨vD,vE,vF,rfl,kV,iR⟩
 have jO:=kU _ _ kV
 have AO:=az iR
 have AP:=jO.rowC (i:=1) rfl
 refine nt (rt (tR (Fin.res (res0 rfl) ?_)))
 have vG:=jO.px [] [4,5] []
 obtain⟨rfl,rfl⟩:=fT (hr.symm.trans (show _=(jN,a) from et (iN aS) (ah iQ)))
 exact⟨vD,vE,vF,S,T,U,V,W,X,N,O,F,G,P,Y,Q,R,j,d,I,l,f,J,n,g,K,p,h,L,rfl,vG,iR,M,B,C,E,s,u,y,z⟩
end Go.Proofs.YtbkagebjhbphaaaGreat
