/-
 coord: a request.
-/
import Derived.Test.YtbkagebjhbphaaaGreatCc
import Derived.Test.YtbkagebjhbphaaaGreatCe
namespace Go.Proofs.YtbkagebjhbphaaaGreat
open IntKind renaming i64→C7
open List renaming flatMap→q6,length_map→s6,map→s8,mem_flatMap→P3,mem_of_getElem?→E0,not_mem_nil→B3
open Ll renaming mk→E4
open _root_.Go.Proofs.Tryz renaming call65→O6,call89→O4,call90→Q0,func89→O5,isAgg24→O3,isAgg28→E1,isAgg3→C6,isAgg4→M3,isAgg40→E6,isAgg42→M5,isAgg81→P9,prog→y4,sizeOf42→M6,sizeOf81→O7
open WL renaming nil→D0
set_option maxRecDepth 100000
open Go.RowKit
set_option linter.unusedVariables false
set_option linter.unusedSectionVars false
set_option linter.unusedSimpArgs false
def dY (p1c0:Int):List dE→Nat→Unit ⊕ Int
  | [],a=>Sum.inl ()
  | b::c,a=>if b.aQ=p1c0 then Sum.inr ((a:Nat):Int) else dY p1c0 c (a+1)
def jh (l0:List dE) (p1c0:Int):Int:=
 lp (dY p1c0 l0 0) fun _=>(-1)
theorem ow (w:World) (D:Nat→Prop) (r:Option Addr) (E F:Nat) (d0:List bA) (l0:List dE) (g1c0:Nat) (p1c0:Int) (C:Int) (H:Own w D w [blk g1c0 [.int .i64 p1c0] 3]) (t:s8 bA.abs d0=l0) (p:Ro w D fun w'=>bD w' 9 r E (q6 bA.cells d0)) (l:∀ x ∈ d0,Ro w D (fun w'=>bD w' 6 x.bS.A x.bS.ls.length (q6 bC.cells x.bS.ls))∧(x.bS.ls.length≤x.bS.c∧x.bS.ls.length≤9223372036854775807)∧Ro w D (fun w'=>bD w' 3 x.aD.A x.aD.ls.length (q6 bG.cells x.aD.ls))∧(x.aD.ls.length≤x.aD.c∧x.aD.ls.length≤9223372036854775807)∧(∀ d ∈ x.aD.ls,Ro w D (fun w'=>bD w' 6 d.aG.A d.aG.ls.length (q6 bC.cells d.aG.ls))∧(d.aG.ls.length≤d.aG.c∧d.aG.ls.length≤9223372036854775807)∧Ro w D (fun w'=>bD w' 1 d.aJ.A d.aJ.ls.length (q6 (eI .i64) d.aJ.ls))∧(d.aJ.ls.length≤d.aJ.c∧d.aJ.ls.length≤9223372036854775807))∧Ro w D (fun w'=>bD w' 1 x.bE.A x.bE.ls.length (q6 eL x.bE.ls))∧(x.bE.ls.length≤x.bE.c∧x.bE.ls.length≤9223372036854775807)∧Ro w D (fun w'=>bD w' 1 x.ae.A x.ae.ls.length (q6 (Gy (β:=af)) x.ae.ls))∧(x.ae.ls.length≤x.ae.c∧x.ae.ls.length≤9223372036854775807)∧(∀ d ∈ x.ae.ls,Ro w D (fun w'=>bD w' 3 d.A d.ls.length (q6 af.cells d.ls))∧(d.ls.length≤d.c∧d.ls.length≤9223372036854775807)∧(∀ s ∈ d.ls,Ro w D (fun w'=>bD w' 2 s.au.A s.au.ls.length (q6 aL.cells s.au.ls))∧(s.au.ls.length≤s.au.c∧s.au.ls.length≤9223372036854775807)))) (G:E=l0.length) (Y:l0.length≤9223372036854775807) (hr:jh l0 p1c0=C):
    Calls y4 125 #[.slice r E F, .func (.func 88) #[] #[vP g1c0 0]] w (dR fun v w'=>v=vI C∧Own w D w' [blk g1c0 [vI p1c0] 3]∧(-1≤C∧C < ((l0.length:Nat):Int))):=by
 subst G
 have Q:=az t
 refine cb Tryz.func125 ?_
 refine sr (An rfl (FU (sr (Mz rfl (Kz (vJ l0.length) (Mn rfl (bo ?_)))))))
 have I:=H.pf []
 obtain⟨J,g⟩:=mX fun(a:Nat) (w':World)=>Own w D w' [blk g1c0 [vI p1c0] 3]∧a≤l0.length∧dY p1c0 l0 0=dY p1c0 (List.drop a l0) a
 refine Wp.loop (fun i:Nat=> [(4,vI 0),(8,vJ i),(7,vJ l0.length),(0, .slice r l0.length F),(1, .func (.func 88) #[] #[vP g1c0 0])]) J (fun i=>l0.length - i) 0 ⟨rfl,rfl,rfl,rfl,rfl,trivial⟩ (g.2 ⟨I,e6,rfl⟩) ?_
 rintro a Z u
 obtain⟨h,R,j⟩:=g.1 u
 refine sr (Kz (.bool (decide (((a:Nat):Int) < ((l0.length:Nat):Int)))) (nt (FU ?_)))
 by_cases y:((a:Nat):Int) < ((l0.length:Nat):Int)
 obtain⟨b,f⟩:=dK (ls:=d0) (i:=a) bA.len f3 (h.ro p) e9
 have z:=fo t f
 have S:=(l _ (E0 f)).2.1
 have T:=(l _ (E0 f)).2.2.2.1
 have U:List.length (s8 bG.abs b.aD.ls)=b.aD.ls.length:=s6 ..
 have V:=(l _ (E0 f)).2.2.2.2.2.2.1
 have W:=(l _ (E0 f)).2.2.2.2.2.2.2.2.1
 have X:List.length (s8 bO.abs b.ae.ls)=b.ae.ls.length:=s6 ..
 have o:=drop_at z
 refine jT (dT y) (sk (FU (bo (sr (Mz rfl (Ar rfl (Mz rfl (Mz rfl (Mz rfl (fw (.pointer (some ⟨ab r,ao r+a *9,none⟩)) (FZ (pg) rfl rfl ((h.ro p).addr (i:=a) e6) e6) (fw (.agg (bA.cells b).toArray) (F5 rfl (Gc (cs:=(bA.cells b)) Tryz.isAgg107 Tryz.sizeOf107 ((h.ro p).elem bA.len f f3))) ?_)))))))))))
 refine WL.do rfl (Gp Tryz.call88 rfl rfl ?_ (fun _ _ k=>k))
 refine cb Tryz.func88 ?_
 refine sr ?_
 refine dM (bA.cells b) 107 h ?_
 intro K aa m
 refine Ar rfl (Kz (vP K 1) (Lz (vI b.aQ) m 0 C6 (Lz (vI p1c0) m 1 C6 (Kz (.bool (decide (b.aQ=p1c0))) (An rfl (rt (rs (nt ?_))))))))
 by_cases n:b.aQ=p1c0
 refine jT (dT n) (FU ?_)
 have L:=m.pk [1]
 refine FT (Mz rfl (An rfl (rt (bR (tR (tR (bR (tR (rs ?_)))))))))
 have M:=L.pf []
 obtain rfl:_=((a:Nat):Int):=hr.symm.trans (jq (et (j) (et (congrArg (fun q=>dY p1c0 q a) o) (ip n))))
 exact⟨rfl,M,e6⟩
 refine jF (dF n) (Gj (bN (FW ?_)))
 have N:=m.pk [1]
 refine FT (fw (vJ (a+1)) (FV (e:=C7.wrap (((a:Nat):Int)+1)) yk f1) (Mz rfl (D0 ?_)))
 have O:=N.pf []
 exact F9 (a+1) ⟨rfl,rfl,rfl,rfl,rfl,trivial⟩ (g.2 ⟨O,e6,et (j) (et (congrArg (fun q=>dY p1c0 q a) o) (iN n))⟩) (by show l0.length - (a+1) < l0.length - a; omega)
 refine jF (dF y) (Wp.exit (F4 ?_))
 have B:dY p1c0 l0 0=Sum.inl ():=et (j) (et (congrArg (fun q=>dY p1c0 q a) (eZ (ls:=l0) (i:=a) e6)) rfl)
 refine F4 (Gg (FW (sr (An rfl (rt (rs ?_))))))
 have P:=h.pf []
 obtain rfl:_=(-1):=hr.symm.trans (nS B)
 exact⟨rfl,P,e6⟩
def ic (l0:List dE) (p1c0:Int):Bool:=
 bnd (jh l0 p1c0) fun a=>decide (a ≥ 0)
theorem nL (w:World) (D:Nat→Prop) (p:Option Addr) (r z:Nat) (d0:List bA) (l0:List dE) (g1c0:Nat) (p1c0:Int) (B:Bool) (H:Own w D w [blk g1c0 [.int .i64 p1c0] 3]) (l:s8 bA.abs d0=l0) (s:Ro w D fun w'=>bD w' 9 p r (q6 bA.cells d0)) (a:∀ x ∈ d0,Ro w D (fun w'=>bD w' 6 x.bS.A x.bS.ls.length (q6 bC.cells x.bS.ls))∧(x.bS.ls.length≤x.bS.c∧x.bS.ls.length≤9223372036854775807)∧Ro w D (fun w'=>bD w' 3 x.aD.A x.aD.ls.length (q6 bG.cells x.aD.ls))∧(x.aD.ls.length≤x.aD.c∧x.aD.ls.length≤9223372036854775807)∧(∀ b ∈ x.aD.ls,Ro w D (fun w'=>bD w' 6 b.aG.A b.aG.ls.length (q6 bC.cells b.aG.ls))∧(b.aG.ls.length≤b.aG.c∧b.aG.ls.length≤9223372036854775807)∧Ro w D (fun w'=>bD w' 1 b.aJ.A b.aJ.ls.length (q6 (eI .i64) b.aJ.ls))∧(b.aJ.ls.length≤b.aJ.c∧b.aJ.ls.length≤9223372036854775807))∧Ro w D (fun w'=>bD w' 1 x.bE.A x.bE.ls.length (q6 eL x.bE.ls))∧(x.bE.ls.length≤x.bE.c∧x.bE.ls.length≤9223372036854775807)∧Ro w D (fun w'=>bD w' 1 x.ae.A x.ae.ls.length (q6 (Gy (β:=af)) x.ae.ls))∧(x.ae.ls.length≤x.ae.c∧x.ae.ls.length≤9223372036854775807)∧(∀ b ∈ x.ae.ls,Ro w D (fun w'=>bD w' 3 b.A b.ls.length (q6 af.cells b.ls))∧(b.ls.length≤b.c∧b.ls.length≤9223372036854775807)∧(∀ h ∈ b.ls,Ro w D (fun w'=>bD w' 2 h.au.A h.au.ls.length (q6 aL.cells h.au.ls))∧(h.au.ls.length≤h.au.c∧h.au.ls.length≤9223372036854775807)))) (t:r=l0.length) (F:l0.length≤9223372036854775807) (hr:ic l0 p1c0=B):
    Calls y4 87 #[.slice p r z, .func (.func 88) #[] #[vP g1c0 0]] w (dR fun v w'=>v= .bool B∧Own w D w' [blk g1c0 [vI p1c0] 3]):=by
 subst t
 have C:=az l
 refine cb Tryz.func87 ?_
 refine sr (Ar rfl (Mz rfl (Mz rfl ?_)))
 obtain⟨g,j⟩:∃ q,jh l0 p1c0=q:=⟨_,rfl⟩
 obtain⟨G,m,d,n,E⟩:=Gn H
 refine cl Tryz.call125 (ow _ _ p l0.length z d0 l0 g1c0 p1c0 g m l (d _ s) (fun e f=>⟨d _ (a e f).1,(a e f).2.1,d _ (a e f).2.2.1,(a e f).2.2.2.1,(fun b i=>⟨d _ ((a e f).2.2.2.2.1 b i).1,((a e f).2.2.2.2.1 b i).2.1,d _ ((a e f).2.2.2.2.1 b i).2.2.1,((a e f).2.2.2.2.1 b i).2.2.2⟩),d _ (a e f).2.2.2.2.2.1,(a e f).2.2.2.2.2.2.1,d _ (a e f).2.2.2.2.2.2.2.1,(a e f).2.2.2.2.2.2.2.2.1,(fun b i=>⟨d _ ((a e f).2.2.2.2.2.2.2.2.2 b i).1,((a e f).2.2.2.2.2.2.2.2.2 b i).2.1,(fun h k2=>⟨d _ (((a e f).2.2.2.2.2.2.2.2.2 b i).2.2 h k2).1,(((a e f).2.2.2.2.2.2.2.2.2 b i).2.2 h k2).2⟩)⟩)⟩) rfl e6 j) ?_
 rintro _ I ⟨rfl,o,k⟩
 have u:=n _ _ o
 replace k: -1≤g∧g < ((l0.length:Nat):Int):=k
 refine Kz (.bool (decide (g ≥ 0))) (An rfl (rt (rs ?_)))
 have y:=u.pf []
 obtain rfl:_=decide (g ≥ 0):=hr.symm.trans (ai j)
 exact⟨rfl,y⟩
def iP (c:bH) (b:bQ) (a:aB):bH × aB:=
 if((b.ax:Nat):Int)=((a.aa.ax:Nat):Int) then bnd (ic a.ak.ls (b.aJ - 10)) fun p=>if p=true then(c,a) else if b.aJ - 10=1 then if a.aN.aT=true then if((a.aN.aF:Nat):Int) ≥ ((b.aU:Nat):Int) then if((a.aN.aF:Nat):Int)=((b.aU:Nat):Int) then bnd (dA c (bQ.mk 2 0 (10+(b.aJ - 10)) 0 a.aN.bn 0 a.aN.aF a.aa.ax 0 0 0 0 0 0 0 false (bL.mk ([]) ([])) (E4 ([])) (E4 a.aN.ae.ls) (E4 ([])))) fun q=>(q,a) else(c,a) else bnd (dU c (b.aJ - 10) b a) fun k=>(k.1,k.2) else bnd (dU c (b.aJ - 10) b a) fun d=>(d.1,d.2) else if b.aJ - 10=2 then if a.aO.aT=true then if((a.aO.aF:Nat):Int) ≥ ((b.aU:Nat):Int) then if((a.aO.aF:Nat):Int)=((b.aU:Nat):Int) then bnd (dA c (bQ.mk 2 0 (10+(b.aJ - 10)) 0 a.aO.bn 0 a.aO.aF a.aa.ax 0 0 0 0 0 0 0 false (bL.mk ([]) ([])) (E4 ([])) (E4 a.aO.ae.ls) (E4 ([])))) fun l=>(l,a) else(c,a) else bnd (dU c (b.aJ - 10) b a) fun e=>(e.1,e.2) else bnd (dU c (b.aJ - 10) b a) fun f=>(f.1,f.2) else if b.aJ - 10=3 then if a.aP.aT=true then if((a.aP.aF:Nat):Int) ≥ ((b.aU:Nat):Int) then if((a.aP.aF:Nat):Int)=((b.aU:Nat):Int) then bnd (dA c (bQ.mk 2 0 (10+(b.aJ - 10)) 0 a.aP.bn 0 a.aP.aF a.aa.ax 0 0 0 0 0 0 0 false (bL.mk ([]) ([])) (E4 ([])) (E4 a.aP.ae.ls) (E4 ([])))) fun m=>(m,a) else(c,a) else bnd (dU c (b.aJ - 10) b a) fun g=>(g.1,g.2) else bnd (dU c (b.aJ - 10) b a) fun h=>(h.1,h.2) else if a.aM.aT=true then if((a.aM.aF:Nat):Int) ≥ ((b.aU:Nat):Int) then if((a.aM.aF:Nat):Int)=((b.aU:Nat):Int) then bnd (dA c (bQ.mk 2 0 (10+(b.aJ - 10)) 0 a.aM.bn 0 a.aM.aF a.aa.ax 0 0 0 0 0 0 0 false (bL.mk ([]) ([])) (E4 ([])) (E4 a.aM.ae.ls) (E4 ([])))) fun n=>(n,a) else(c,a) else bnd (dU c (b.aJ - 10) b a) fun i=>(i.1,i.2) else bnd (dU c (b.aJ - 10) b a) fun j=>(j.1,j.2) else bnd (lF c (b.aJ - 10) b a) fun o=>(o,a)
set_option maxHeartbeats 4000000 in
theorem uo (w:World) (D:Nat→Prop) (g0:Nat) (p0:bH) (aD:Option Addr) (aF:Nat) (au:List bF) (b:bQ) (av:Option Addr) (iX Z:Nat) (ax:Option Addr) (iY aa:Nat) (bf:List af) (aC:Option Addr) (iZ ae:Nat) (r:Nat) (a:aB) (S:Option Addr) (T:Nat) (U:Option Addr) (V:Nat) (W:List aA) (X:Option Addr) (N:Nat) (O:List aZ) (F:Option Addr) (G:Nat) (P:List bA) (Y:Option Addr) (Q:Nat) (R:List af) (j:Option Addr) (d:Nat) (I:List af) (l:Option Addr) (f:Nat) (J:List af) (n:Option Addr) (g:Nat) (K:List af) (p:Option Addr) (h:Nat) (L:List af) (r0:bH) (r1:aB) (H:Own w D w [blk g0 [.pointer (some ⟨r,0,none⟩), .slice aD p0.bB.ls.length aF] 98,row aD p0.bB.ls.length aF (q6 bF.cells au) 42 21,sepL (q6 bF.own au),blk r [.int .i64 a.aa.av, .int .u64 ((a.aa.ax:Nat):Int), .int .u64 ((a.aa.bf:Nat):Int), .int .u64 ((a.aa.aK:Nat):Int), .slice S a.aa.ag.ls.length T, .slice U a.aa.aj.ls.length V, .slice X a.aa.aI.ls.length N, .int .u64 ((a.bI:Nat):Int), .slice F a.ak.ls.length G, .bool a.aR.aT, .int .u64 ((a.aR.aF:Nat):Int), .int .i64 a.aR.bn, .slice Y a.aR.ae.ls.length Q, .bool a.aN.aT, .int .u64 ((a.aN.aF:Nat):Int), .int .i64 a.aN.bn, .slice j a.aN.ae.ls.length d, .bool a.aO.aT, .int .u64 ((a.aO.aF:Nat):Int), .int .i64 a.aO.bn, .slice l a.aO.ae.ls.length f, .bool a.aP.aT, .int .u64 ((a.aP.aF:Nat):Int), .int .i64 a.aP.bn, .slice n a.aP.ae.ls.length g, .bool a.aM.aT, .int .u64 ((a.aM.aF:Nat):Int), .int .i64 a.aM.bn, .slice p a.aM.ae.ls.length h, .int .u64 ((a.di:Nat):Int), .int .u64 ((a.cz:Nat):Int), .int .u64 ((a.cK:Nat):Int), .int .u64 ((a.cB:Nat):Int), .int .u64 ((a.cu:Nat):Int), .pointer none] 86,row S a.aa.ag.ls.length T (q6 bv.cells a.aa.ag.ls) 89 2,row U a.aa.aj.ls.length V (q6 aA.cells W) 60 5,sepL (q6 aA.own W),row X a.aa.aI.ls.length N (q6 aZ.cells O) 56 4,sepL (q6 aZ.own O),row F a.ak.ls.length G (q6 bA.cells P) 107 9,sepL (q6 bA.own P),row Y a.aR.ae.ls.length Q (q6 af.cells R) 149 3,sepL (q6 af.own R),row j a.aN.ae.ls.length d (q6 af.cells I) 149 3,sepL (q6 af.own I),row l a.aO.ae.ls.length f (q6 af.cells J) 149 3,sepL (q6 af.own J),row n a.aP.ae.ls.length g (q6 af.cells K) 149 3,sepL (q6 af.own K),row p a.aM.ae.ls.length h (q6 af.cells L) 149 3,sepL (q6 af.own L)]) (ag:s8 bF.abs au=p0.bB.ls) (jQ:iX=b.aG.ls.length) (aW:Ro w D fun w'=>bD w' 6 av b.aG.ls.length (q6 bC.cells b.aG.ls)) (vL:b.aG.ls.length≤Z∧b.aG.ls.length≤9223372036854775807) (aR:s8 af.abs bf=b.ah.ls) (jR:iY=b.ah.ls.length) (aX:Ro w D fun w'=>bD w' 3 ax b.ah.ls.length (q6 af.cells bf)) (vM:b.ah.ls.length≤aa∧b.ah.ls.length≤9223372036854775807) (ah:∀ x ∈ bf,Ro w D (fun w'=>bD w' 2 x.au.A x.au.ls.length (q6 aL.cells x.au.ls))∧(x.au.ls.length≤x.au.c∧x.au.ls.length≤9223372036854775807)) (jS:iZ=b.ag.ls.length) (aY:Ro w D fun w'=>bD w' 2 aC b.ag.ls.length (q6 bv.cells b.ag.ls)) (vN:b.ag.ls.length≤ae∧b.ag.ls.length≤9223372036854775807) (M:s8 aA.abs W=a.aa.aj.ls) (B:s8 aZ.abs O=a.aa.aI.ls) (C:s8 bA.abs P=a.ak.ls) (E:s8 af.abs R=a.aR.ae.ls) (s:s8 af.abs I=a.aN.ae.ls) (u:s8 af.abs J=a.aO.ae.ls) (y:s8 af.abs K=a.aP.ae.ls) (z:s8 af.abs L=a.aM.ae.ls) (BD:a.aa.ag.ls.length≤1000∧a.aa.aj.ls.length≤1000∧a.aa.aI.ls.length≤1000∧a.ak.ls.length≤1000∧p0.bB.ls.length≤100000) (BF:Mk a) (BG:a.aR.ae.ls.length≤1000∧a.aN.ae.ls.length≤1000∧a.aO.ae.ls.length≤1000∧a.aP.ae.ls.length≤1000∧a.aM.ae.ls.length≤1000) (BH:11≤b.aJ∧b.aJ≤14) (BI:b.aG.ls.length≤24∧b.ag.ls.length≤1000∧b.ah.ls.length≤1000∧jZ b.aU) (hr:iP p0 b a=(r0,r1)):
    Calls y4 56 #[vP g0 0, .agg (gD b.aH b.aJ b.eO b.aS b.dz b.eu b.aU b.ax b.bi b.dW b.bf b.aK b.dI b.cZ b.xN b.d9 b.bV.bK b.bV.bW av iX Z ax iY aa aC iZ ae).toArray] w (dR fun v w'=> ∃ (B0ox0:Option Addr) (b0ox0:Nat) (e0ox0:List bF) (B1ox0:Option Addr) (b1ox0:Nat) (B1ox1:Option Addr) (b1ox1:Nat) (e1ox1:List aA) (B1ox2:Option Addr) (b1ox2:Nat) (e1ox2:List aZ) (B1ox3:Option Addr) (b1ox3:Nat) (e1ox3:List bA) (B1ox4:Option Addr) (b1ox4:Nat) (e1ox4:List af) (B1ox5:Option Addr) (b1ox5:Nat) (e1ox5:List af) (B1ox6:Option Addr) (b1ox6:Nat) (e1ox6:List af) (B1ox7:Option Addr) (b1ox7:Nat) (e1ox7:List af) (B1ox8:Option Addr) (b1ox8:Nat) (e1ox8:List af),v= .tuple #[]∧Own w D w' [blk g0 [vP r 0, .slice B0ox0 r0.bB.ls.length b0ox0] 98,row B0ox0 r0.bB.ls.length b0ox0 (q6 bF.cells e0ox0) 42 21,sepL (q6 bF.own e0ox0),blk r [vI r1.aa.av,vU r1.aa.ax,vU r1.aa.bf,vU r1.aa.aK, .slice B1ox0 r1.aa.ag.ls.length b1ox0, .slice B1ox1 r1.aa.aj.ls.length b1ox1, .slice B1ox2 r1.aa.aI.ls.length b1ox2,vU r1.bI, .slice B1ox3 r1.ak.ls.length b1ox3, .bool r1.aR.aT,vU r1.aR.aF,vI r1.aR.bn, .slice B1ox4 r1.aR.ae.ls.length b1ox4, .bool r1.aN.aT,vU r1.aN.aF,vI r1.aN.bn, .slice B1ox5 r1.aN.ae.ls.length b1ox5, .bool r1.aO.aT,vU r1.aO.aF,vI r1.aO.bn, .slice B1ox6 r1.aO.ae.ls.length b1ox6, .bool r1.aP.aT,vU r1.aP.aF,vI r1.aP.bn, .slice B1ox7 r1.aP.ae.ls.length b1ox7, .bool r1.aM.aT,vU r1.aM.aF,vI r1.aM.bn, .slice B1ox8 r1.aM.ae.ls.length b1ox8,vU r1.di,vU r1.cz,vU r1.cK,vU r1.cB,vU r1.cu, .pointer none] 86,row B1ox0 r1.aa.ag.ls.length b1ox0 (q6 bv.cells r1.aa.ag.ls) 89 2,row B1ox1 r1.aa.aj.ls.length b1ox1 (q6 aA.cells e1ox1) 60 5,sepL (q6 aA.own e1ox1),row B1ox2 r1.aa.aI.ls.length b1ox2 (q6 aZ.cells e1ox2) 56 4,sepL (q6 aZ.own e1ox2),row B1ox3 r1.ak.ls.length b1ox3 (q6 bA.cells e1ox3) 107 9,sepL (q6 bA.own e1ox3),row B1ox4 r1.aR.ae.ls.length b1ox4 (q6 af.cells e1ox4) 149 3,sepL (q6 af.own e1ox4),row B1ox5 r1.aN.ae.ls.length b1ox5 (q6 af.cells e1ox5) 149 3,sepL (q6 af.own e1ox5),row B1ox6 r1.aO.ae.ls.length b1ox6 (q6 af.cells e1ox6) 149 3,sepL (q6 af.own e1ox6),row B1ox7 r1.aP.ae.ls.length b1ox7 (q6 af.cells e1ox7) 149 3,sepL (q6 af.own e1ox7),row B1ox8 r1.aM.ae.ls.length b1ox8 (q6 af.cells e1ox8) 149 3,sepL (q6 af.own e1ox8)]∧(s8 bF.abs e0ox0=r0.bB.ls)∧(s8 aA.abs e1ox1=r1.aa.aj.ls)∧(s8 aZ.abs e1ox2=r1.aa.aI.ls)∧(s8 bA.abs e1ox3=r1.ak.ls)∧(s8 af.abs e1ox4=r1.aR.ae.ls)∧(s8 af.abs e1ox5=r1.aN.ae.ls)∧(s8 af.abs e1ox6=r1.aO.ae.ls)∧(s8 af.abs e1ox7=r1.aP.ae.ls)∧(s8 af.abs e1ox8=r1.aM.ae.ls)):=by
 subst jQ jR jS
 have vJ:=az ag
 have vK:=az aR
 have kW:=az M
 have kX:=az B
 have kY:=az C
 have kZ:=az E
 have lc:=az s
 have lg:=az u
 have lh:=az y
 have ll:=az z
 have vO:=H.rowC (i:=1) rfl
 have lm:=H.rowC (i:=4) rfl
 have lq:=H.rowC (i:=5) rfl
 have lu:=H.rowC (i:=7) rfl
 have lv:=H.rowC (i:=9) rfl
 have lw:=H.rowC (i:=11) rfl
 have lC:=H.rowC (i:=13) rfl
 have lD:=H.rowC (i:=15) rfl
 have lG:=H.rowC (i:=17) rfl
 have lH:=H.rowC (i:=19) rfl
 refine cb Tryz.func56 ?_
 refine sr ?_
 refine dM (gT b av Z ax aa aC ae) 42 H ?_
 intro bT BJ lI
 refine ns (Kz (vP bT 1) (Lz (vI b.aJ) lI 0 C6 (fw (vI (b.aJ - 10)) (FV (e:=C7.wrap (b.aJ - 10)) yk g2) ?_)))
 refine dM [vI 0] 3 lI ?_
 intro lJ BK vQ
 refine dN [vI (b.aJ - 10)] 0 vQ Tryz.sizeOf3 ?_
 intro BL vR
 refine nt (FU (FU ?_))
 refine oJ 23 [] (F8 (F8 Gh)) vR ?_
 intro BM bO
 refine qp bT 7 0 rfl (ql 1 rfl 1 E1 rfl rfl rfl (qv 2 rfl rfl (qp g0 0 3 rfl (qp g0 0 4 rfl (ql 5 rfl 2 O3 rfl rfl rfl (qp r 0 6 rfl (qp r 0 7 rfl (qp r 1 8 rfl (ql 9 rfl 5 E1 rfl rfl rfl (qt (v:= .bool (decide (¬ (((b.ax:Nat):Int)=((a.aa.ax:Nat):Int))))) 10 rfl (fun _ _=>Gi (e:= !(decide (((b.ax:Nat):Int)=((a.aa.ax:Nat):Int)))) yk decide_not.symm) (qn (FW ?_))))))))))))
 by_cases aS:((b.ax:Nat):Int)=((a.aa.ax:Nat):Int)
 refine jF (dF (JP aS)) (sk (FU (sr (Mz rfl (Kz (vP g0 0) (Kz (vP g0 0) (Lz (vP r 0) bO 2 O3 (Kz (vP r 0) (Kz (vP r 8) (Lz (.slice F a.ak.ls.length G) bO 5 Tryz.isAgg79 (Kz (.func (.func 88) #[] #[vP lJ 0]) ?_)))))))))))
 obtain⟨lK,aG⟩:∃ q,ic a.ak.ls (b.aJ - 10)=q:=⟨_,rfl⟩
 obtain⟨BN,lL,AQ,lM,bP⟩:=Gn bO
 refine cl Tryz.call87 (nL _ _ F a.ak.ls.length G P a.ak.ls lJ (b.aJ - 10) lK lL C (bP _ 10 _ rfl aV) (fun x9 h9=>⟨bP _ 11 _ rfl (ay (P3.2 ⟨x9,h9,b1⟩) aV),bz (φ:=fun _=>_) bO (i:=12) rfl (ay (P3.2 ⟨x9,h9,b1⟩) bq),bP _ 11 _ rfl (ay (P3.2 ⟨x9,h9, .tail _ b1⟩) aV),bz (φ:=fun _=>_) bO (i:=12) rfl (ay (P3.2 ⟨x9,h9, .tail _ b1⟩) bq),(fun y1 k1=>⟨bP _ 11 _ rfl (ay (P3.2 ⟨x9,h9, .tail _ b4⟩) (ay (P3.2 ⟨y1,k1,b1⟩) aV)),bz (φ:=fun _=>_) bO (i:=12) rfl (ay (P3.2 ⟨x9,h9, .tail _ b4⟩) (ay (P3.2 ⟨y1,k1,b1⟩) bq)),bP _ 11 _ rfl (ay (P3.2 ⟨x9,h9, .tail _ b4⟩) (ay (P3.2 ⟨y1,k1, .tail _ b1⟩) aV)),bz (φ:=fun _=>_) bO (i:=12) rfl (ay (P3.2 ⟨x9,h9, .tail _ b4⟩) (ay (P3.2 ⟨y1,k1, .tail _ b1⟩) bq))⟩),bP _ 11 _ rfl (ay (P3.2 ⟨x9,h9, .tail _ b2⟩) aV),bz (φ:=fun _=>_) bO (i:=12) rfl (ay (P3.2 ⟨x9,h9, .tail _ b2⟩) bq),bP _ 11 _ rfl (ay (P3.2 ⟨x9,h9, .tail _ b3⟩) aV),bz (φ:=fun _=>_) bO (i:=12) rfl (ay (P3.2 ⟨x9,h9, .tail _ b3⟩) bq),(fun y1 k1=>⟨bP _ 11 _ rfl (ay (P3.2 ⟨x9,h9, .tail _ b5⟩) (ay (P3.2 ⟨y1,k1,b1⟩) aV)),bz (φ:=fun _=>_) bO (i:=12) rfl (ay (P3.2 ⟨x9,h9, .tail _ b5⟩) (ay (P3.2 ⟨y1,k1,b1⟩) bq)),(fun y2 k2=>⟨bP _ 11 _ rfl (ay (P3.2 ⟨x9,h9, .tail _ b5⟩) (ay (P3.2 ⟨y1,k1, .tail _ b1⟩) (ay (P3.2 ⟨y2,k2,b1⟩) aV))),bz (φ:=fun _=>_) bO (i:=12) rfl (ay (P3.2 ⟨x9,h9, .tail _ b5⟩) (ay (P3.2 ⟨y1,k1, .tail _ b1⟩) (ay (P3.2 ⟨y2,k2,b1⟩) bq)))⟩)⟩)⟩) rfl e6 aG) ?_
 rintro _ BO ⟨rfl,lN⟩
 have lQ:=lM _ _ lN
 refine nt ?_
 rcases JQ (lK) with aT | aT
 refine jT aT (rt (tR (Fin.res (res0 rfl) ?_)))
 have vS:=lQ.px [] [0,1] []
 obtain⟨rfl,rfl⟩:=gm (hr.symm.trans (show _=(p0,a) from et (ip aS) (et (ai aG) (ip aT))))
 exact⟨aD,aF,au,S,T,U,V,W,X,N,O,F,G,P,Y,Q,R,j,d,I,l,f,J,n,g,K,p,h,L,rfl,vS,ag,M,B,C,E,s,u,y,z⟩
 refine jF aT (sk (FU (FU ?_)))
 refine oJ 23 [] (F8 (F8 Gh)) lQ ?_
 intro BP iV
 refine qv 0 rfl rfl (qp g0 0 1 rfl (qp g0 0 2 rfl (ql 3 rfl 2 O3 rfl rfl rfl (ql 4 rfl 0 C6 rfl rfl rfl (qp r 0 5 rfl (qp r 9 6 rfl ?_))))))
 by_cases bK:b.aJ - 10=1
 refine qt (v:=vP r 13) 7 rfl (fun _ _=>by rw [show b.aJ - 10=1 from by omega]; exact yk) (qt (v:= .agg #[.bool a.aN.aT,vU a.aN.aF,vI a.aN.bn, .slice j a.aN.ae.ls.length d]) 8 rfl (fun _ ⟨_,H9⟩=>F5 rfl (Gc (cs:= [.bool a.aN.aT,vU a.aN.aF,vI a.aN.bn, .slice j a.aN.ae.ls.length d]) P9 O7 ((H9.cls (i:=5) rfl).lit (k:=13) (m:=4) rfl))) ?_)
 refine qd 9 rfl (GD (cs:= [.bool false, .int .u64 0,vI 0, .slice none 0 0]) (t:=81) iV rfl rfl (fun _=>by kernel_rfl) ?_)
 intro dx BQ vT
 have lS:=vT.pb [0]
 refine⟨.inr ⟨_,lS⟩, ?_⟩
 have vV:=lS.pf [23]
 refine qe 10 rfl (Do.store (vs:= [.bool a.aN.aT,vU a.aN.aF,vI a.aN.bn, .slice j a.aN.ae.ls.length d]) (o:=0) vV rfl rfl O7 rfl rfl rfl rfl ?_)
 intro BR vW
 have bM:=vW.pb [0]
 refine⟨.inr ⟨_,bM⟩, ?_⟩
 refine qn (FW (sr (Kz (vP dx 0) (Lz (.bool a.aN.aT) bM 23 M3 (Mz rfl ?_)))))
 rcases JQ (a.aN.aT) with bi | bi
 refine Gz (vP dx 1) bi (Gl (vU a.aN.aF) bi bM 23 E1 (Gz (vP bT 6) bi (Gl (vU b.aU) bi bM 1 E1 (Gz (.bool (decide (((a.aN.aF:Nat):Int) ≥ ((b.aU:Nat):Int)))) bi (fw (.bool (decide (((a.aN.aF:Nat):Int) ≥ ((b.aU:Nat):Int)))) (Gb rfl bi rfl) (nt ?_))))))
 by_cases dC:((a.aN.aF:Nat):Int) ≥ ((b.aU:Nat):Int)
 refine jT (dT dC) (FU (sr (Kz (vP dx 1) (Lz (vU a.aN.aF) bM 23 E1 (Kz (vP bT 6) (Lz (vU b.aU) bM 1 E1 (Kz (.bool (decide (((a.aN.aF:Nat):Int)=((b.aU:Nat):Int)))) (nt ?_))))))))
 by_cases iW:((a.aN.aF:Nat):Int)=((b.aU:Nat):Int)
 refine jT (dT iW) (FT (Mz rfl (Lz (vI (b.aJ - 10)) bM 0 C6 (Kz (vP dx 1) (Lz (vU a.aN.aF) bM 23 E1 (Kz (vP dx 2) (Lz (vI a.aN.bn) bM 23 C6 (Kz (vP dx 3) (Lz (.slice j a.aN.ae.ls.length d) bM 23 E6 ?_)))))))))
 refine WL.do rfl (Gd O4 rfl ?_ (fun _ _ k=>k))
 refine cb O5 ?_
 refine FT (Mz rfl (Mz rfl (fw (vI (10+(b.aJ - 10))) (FV (e:=C7.wrap (10+(b.aJ - 10))) yk g2) (Mz rfl (Mz rfl (Kz (vP g0 0) (Kz (vP g0 0) (Lz (vP r 0) bM 2 O3 (Kz (vP r 0) (Kz (vP r 0) (Kz (vP r 1) (Lz (vU a.aa.ax) bM 5 E1 (Mz rfl (Mz rfl (Kz (.agg (gD 2 0 (10+(b.aJ - 10)) 0 a.aN.bn 0 a.aN.aF a.aa.ax 0 0 0 0 0 0 0 false ([]) ([]) none 0 0 j a.aN.ae.ls.length d none 0 0).toArray) ?_)))))))))))))))
 have lT:=bM.pf [2,3,4]
 obtain⟨jV,ja⟩:∃ q,dA p0 (bQ.mk 2 0 (10+(b.aJ - 10)) 0 a.aN.bn 0 a.aN.aF a.aa.ax 0 0 0 0 0 0 0 false (bL.mk ([]) ([])) (E4 ([])) (E4 a.aN.ae.ls) (E4 ([])))=q:=⟨_,rfl⟩
 obtain⟨BS,lU,AU,lV,jb⟩:=Gv lT
 refine cl O6 (fI _ _ g0 p0 aD aF au r (bQ.mk 2 0 (10+(b.aJ - 10)) 0 a.aN.bn 0 a.aN.aF a.aa.ax 0 0 0 0 0 0 0 false (bL.mk ([]) ([])) (E4 ([])) (E4 a.aN.ae.ls) (E4 ([]))) none 0 0 j a.aN.ae.ls.length d I none 0 0 jV lU ag rfl (fun _ _=>bD.nil _ _ _) f2 s rfl (jb _ 12 _ rfl aV) (show a.aN.ae.ls.length≤d∧a.aN.ae.ls.length≤9223372036854775807 from by omega) (fun x9 h9=>⟨jb _ 13 _ rfl (ay (P3.2 ⟨x9,h9,b1⟩) aV),bz (φ:=fun _=>_) lT (i:=16) rfl (ay (P3.2 ⟨x9,h9,b1⟩) bq)⟩) rfl (fun _ _=>bD.nil _ _ _) f2 e8 (by first | assumption | exact dG f4 | exact fun x hx=>absurd hx B3 | exact dG (Mk.l8 f4).1 | exact dG (Mk.lq f4).1 | exact dG (Mk.mq f4).1 | exact dG (Mk.mo f4).1 | exact dG (Mk.mr f4).1) ja) ?_
 rintro _ BU ⟨vX,vY,vZ,rfl,lW,jc,jd⟩
 have lX:=lV _ _ lW
 have AV:=az jc
 have AX:=lX.rowC (i:=1) rfl
 replace jd:jV.bB.ls.length=p0.bB.ls.length+1:=jd
 refine D0 (Gf (res0 rfl) (nt (rt (tR (Fin.res (res0 rfl) ?_)))))
 have wh:=lX.px [] [3,4,23] []
 obtain⟨rfl,rfl⟩:=gm (hr.symm.trans (show _=(jV,a) from et (ip aS) (et (ai aG) (et (gB aT) (et (ip bK) (et (ip bi) (et (ip dC) (et (ip iW) (ai ja)))))))))
 exact⟨vX,vY,vZ,S,T,U,V,W,X,N,O,F,G,P,Y,Q,R,j,d,I,l,f,J,n,g,K,p,h,L,rfl,wh,jc,M,B,C,E,s,u,y,z⟩
 refine jF (dF iW) (sk (rt (tR (Fin.res (res0 rfl) ?_))))
 have wm:=bM.px [] [0,1,23] []
 obtain⟨rfl,rfl⟩:=gm (hr.symm.trans (show _=(p0,a) from et (ip aS) (et (ai aG) (et (gB aT) (et (ip bK) (et (ip bi) (et (ip dC) (iN iW))))))))
 exact⟨aD,aF,au,S,T,U,V,W,X,N,O,F,G,P,Y,Q,R,j,d,I,l,f,J,n,g,K,p,h,L,rfl,wm,ag,M,B,C,E,s,u,y,z⟩
 refine jF (dF dC) (sk ?_)
 have jW:=bM.px [] [23] []
 refine FT (Mz rfl (Lz (vI (b.aJ - 10)) jW 0 C6 (La (gT b av Z ax aa aC ae) jW 1 M5 M6 ?_)))
 have wo:=jW.pb [0,1]
 obtain⟨⟨lY,lZ⟩,je⟩:∃ q:bH × aB,dU p0 (b.aJ - 10) b a=q:=⟨_,rfl⟩
 obtain⟨BV,l5,di,l6,AY⟩:=GI wo
 refine cl Q0 (jw _ _ g0 p0 aD aF au (b.aJ - 10) b av b.aG.ls.length Z ax b.ah.ls.length aa bf aC b.ag.ls.length ae r a S T U V W X N O F G P Y Q R j d I l f J n g K p h L lY lZ l5 ag rfl (di _ aW) (show b.aG.ls.length≤Z∧b.aG.ls.length≤9223372036854775807 from by omega) aR rfl (di _ aX) (show b.ah.ls.length≤aa∧b.ah.ls.length≤9223372036854775807 from by omega) (fun x9 h9=>⟨di _ (ah x9 h9).1,(ah x9 h9).2⟩) rfl (di _ aY) (show b.ag.ls.length≤ae∧b.ag.ls.length≤9223372036854775807 from by omega) M B C E s u y z e8 e6 e8 je) ?_
 rintro _ BX ⟨wu,ww,wy,wz,wB,wC,wD,l7,wE,l8,l9,ma,mf,mg,mh,mi,mo,mq,mr,mD,mE,mF,mG,mH,mI,mJ,mK,mM,mO,rfl,mP,jg,dD,dE,dH,dI,dJ,dK,dL,dO⟩
 have bS:=l6 _ _ mP
 have wF:=az jg
 have wG:=az dD
 have wH:=az dE
 have wI:=az dH
 have wJ:=az dI
 have wK:=az dJ
 have wL:=az dK
 have wM:=az dL
 have wN:=az dO
 have wO:=bS.rowC (i:=1) rfl
 have wP:=bS.rowC (i:=4) rfl
 have wQ:=bS.rowC (i:=5) rfl
 have wR:=bS.rowC (i:=7) rfl
 have wS:=bS.rowC (i:=9) rfl
 have wT:=bS.rowC (i:=11) rfl
 have wU:=bS.rowC (i:=13) rfl
 have wV:=bS.rowC (i:=15) rfl
 have wW:=bS.rowC (i:=17) rfl
 have wX:=bS.rowC (i:=19) rfl
 refine D0 (Gf (res0 rfl) ?_)
 have mQ:=bS.px [] [21,22] []
 obtain⟨rfl,rfl⟩:=gm (hr.symm.trans (show _=(lY,lZ) from et (ip aS) (et (ai aG) (et (gB aT) (et (ip bK) (et (ip bi) (et (iN dC) (ai je))))))))
 exact⟨wu,ww,wy,wz,wB,wC,wD,l7,wE,l8,l9,ma,mf,mg,mh,mi,mo,mq,mr,mD,mE,mF,mG,mH,mI,mJ,mK,mM,mO,rfl,mQ,jg,dD,dE,dH,dI,dJ,dK,dL,dO⟩
 refine Sz bi (Sz bi (Sz bi (Sz bi (Sz bi (fw (.bool false) (FX rfl bi rfl) (nt (jf (sk ?_))))))))
 have dP:=bM.px [] [23] []
 refine FT (Mz rfl (Lz (vI (b.aJ - 10)) dP 0 C6 (La (gT b av Z ax aa aC ae) dP 1 M5 M6 ?_)))
 have mR:=dP.pb [0,1]
 obtain⟨⟨jh,ji⟩,dQ⟩:∃ q:bH × aB,dU p0 (b.aJ - 10) b a=q:=⟨_,rfl⟩
 obtain⟨AZ,jX,bX,jY,wY⟩:=GI mR
 refine cl Q0 (jw _ _ g0 p0 aD aF au (b.aJ - 10) b av b.aG.ls.length Z ax b.ah.ls.length aa bf aC b.ag.ls.length ae r a S T U V W X N O F G P Y Q R j d I l f J n g K p h L jh ji jX ag rfl (bX _ aW) (show b.aG.ls.length≤Z∧b.aG.ls.length≤9223372036854775807 from by omega) aR rfl (bX _ aX) (show b.ah.ls.length≤aa∧b.ah.ls.length≤9223372036854775807 from by omega) (fun x9 h9=>⟨bX _ (ah x9 h9).1,(ah x9 h9).2⟩) rfl (bX _ aY) (show b.ag.ls.length≤ae∧b.ag.ls.length≤9223372036854775807 from by omega) M B C E s u y z e8 e6 e8 dQ) ?_
 rintro _ A7 ⟨mU,mV,mW,mX,mY,mZ,ng,ni,nk,nu,ny,nz,nA,nC,nD,nE,nG,nH,nI,nJ,nK,nM,nN,nO,nP,nQ,nR,nS,nT,rfl,j3,dS,dV,dW,dX,dY,dZ,d9,ed,ek⟩
 have bn:=jY _ _ j3
 have wZ:=az dS
 have w9:=az dV
 have xc:=az dW
 have xe:=az dX
 have xg:=az dY
 have xh:=az dZ
 have xk:=az d9
 have xm:=az ed
 have xn:=az ek
 have xq:=bn.rowC (i:=1) rfl
 have xu:=bn.rowC (i:=4) rfl
 have xw:=bn.rowC (i:=5) rfl
 have xx:=bn.rowC (i:=7) rfl
 have xy:=bn.rowC (i:=9) rfl
 have xz:=bn.rowC (i:=11) rfl
 have xA:=bn.rowC (i:=13) rfl
 have xB:=bn.rowC (i:=15) rfl
 have xC:=bn.rowC (i:=17) rfl
 have xD:=bn.rowC (i:=19) rfl
 refine D0 (Gf (res0 rfl) ?_)
 have nU:=bn.px [] [21,22] []
 obtain⟨rfl,rfl⟩:=gm (hr.symm.trans (show _=(jh,ji) from et (ip aS) (et (ai aG) (et (gB aT) (et (ip bK) (et (gB bi) (ai dQ)))))))
 exact⟨mU,mV,mW,mX,mY,mZ,ng,ni,nk,nu,ny,nz,nA,nC,nD,nE,nG,nH,nI,nJ,nK,nM,nN,nO,nP,nQ,nR,nS,nT,rfl,nU,dS,dV,dW,dX,dY,dZ,d9,ed,ek⟩
 by_cases bg:b.aJ - 10=2
 refine qt (v:=vP r 17) 7 rfl (fun _ _=>by rw [show b.aJ - 10=2 from by omega]; exact yk) (qt (v:= .agg #[.bool a.aO.aT,vU a.aO.aF,vI a.aO.bn, .slice l a.aO.ae.ls.length f]) 8 rfl (fun _ ⟨_,H9⟩=>F5 rfl (Gc (cs:= [.bool a.aO.aT,vU a.aO.aF,vI a.aO.bn, .slice l a.aO.ae.ls.length f]) P9 O7 ((H9.cls (i:=5) rfl).lit (k:=17) (m:=4) rfl))) ?_)
 refine qd 9 rfl (GD (cs:= [.bool false, .int .u64 0,vI 0, .slice none 0 0]) (t:=81) iV rfl rfl (fun _=>by kernel_rfl) ?_)
 intro bU A8 nV
 have jk:=nV.pb [0]
 refine⟨.inr ⟨_,jk⟩, ?_⟩
 have nW:=jk.pf [23]
 refine qe 10 rfl (Do.store (vs:= [.bool a.aO.aT,vU a.aO.aF,vI a.aO.bn, .slice l a.aO.ae.ls.length f]) (o:=0) nW rfl rfl O7 rfl rfl rfl rfl ?_)
 intro A9 nX
 have aN:=nX.pb [0]
 refine⟨.inr ⟨_,aN⟩, ?_⟩
 refine qn (FW (sr (Kz (vP bU 0) (Lz (.bool a.aO.aT) aN 23 M3 (Mz rfl ?_)))))
 rcases JQ (a.aO.aT) with aJ | aJ
 refine Gz (vP bU 1) aJ (Gl (vU a.aO.aF) aJ aN 23 E1 (Gz (vP bT 6) aJ (Gl (vU b.aU) aJ aN 1 E1 (Gz (.bool (decide (((a.aO.aF:Nat):Int) ≥ ((b.aU:Nat):Int)))) aJ (fw (.bool (decide (((a.aO.aF:Nat):Int) ≥ ((b.aU:Nat):Int)))) (Gb rfl aJ rfl) (nt ?_))))))
 by_cases cZ:((a.aO.aF:Nat):Int) ≥ ((b.aU:Nat):Int)
 refine jT (dT cZ) (FU (sr (Kz (vP bU 1) (Lz (vU a.aO.aF) aN 23 E1 (Kz (vP bT 6) (Lz (vU b.aU) aN 1 E1 (Kz (.bool (decide (((a.aO.aF:Nat):Int)=((b.aU:Nat):Int)))) (nt ?_))))))))
 by_cases dm:((a.aO.aF:Nat):Int)=((b.aU:Nat):Int)
 refine jT (dT dm) (FT (Mz rfl (Lz (vI (b.aJ - 10)) aN 0 C6 (Kz (vP bU 1) (Lz (vU a.aO.aF) aN 23 E1 (Kz (vP bU 2) (Lz (vI a.aO.bn) aN 23 C6 (Kz (vP bU 3) (Lz (.slice l a.aO.ae.ls.length f) aN 23 E6 ?_)))))))))
 refine WL.do rfl (Gd O4 rfl ?_ (fun _ _ k=>k))
 refine cb O5 ?_
 refine FT (Mz rfl (Mz rfl (fw (vI (10+(b.aJ - 10))) (FV (e:=C7.wrap (10+(b.aJ - 10))) yk g2) (Mz rfl (Mz rfl (Kz (vP g0 0) (Kz (vP g0 0) (Lz (vP r 0) aN 2 O3 (Kz (vP r 0) (Kz (vP r 0) (Kz (vP r 1) (Lz (vU a.aa.ax) aN 5 E1 (Mz rfl (Mz rfl (Kz (.agg (gD 2 0 (10+(b.aJ - 10)) 0 a.aO.bn 0 a.aO.aF a.aa.ax 0 0 0 0 0 0 0 false ([]) ([]) none 0 0 l a.aO.ae.ls.length f none 0 0).toArray) ?_)))))))))))))))
 have jl:=aN.pf [2,3,4]
 obtain⟨eu,eB⟩:∃ q,dA p0 (bQ.mk 2 0 (10+(b.aJ - 10)) 0 a.aO.bn 0 a.aO.aF a.aa.ax 0 0 0 0 0 0 0 false (bL.mk ([]) ([])) (E4 ([])) (E4 a.aO.ae.ls) (E4 ([])))=q:=⟨_,rfl⟩
 obtain⟨Ba,j4,xE,j5,eD⟩:=Gv jl
 refine cl O6 (fI _ _ g0 p0 aD aF au r (bQ.mk 2 0 (10+(b.aJ - 10)) 0 a.aO.bn 0 a.aO.aF a.aa.ax 0 0 0 0 0 0 0 false (bL.mk ([]) ([])) (E4 ([])) (E4 a.aO.ae.ls) (E4 ([]))) none 0 0 l a.aO.ae.ls.length f J none 0 0 eu j4 ag rfl (fun _ _=>bD.nil _ _ _) f2 u rfl (eD _ 14 _ rfl aV) (show a.aO.ae.ls.length≤f∧a.aO.ae.ls.length≤9223372036854775807 from by omega) (fun x9 h9=>⟨eD _ 15 _ rfl (ay (P3.2 ⟨x9,h9,b1⟩) aV),bz (φ:=fun _=>_) jl (i:=18) rfl (ay (P3.2 ⟨x9,h9,b1⟩) bq)⟩) rfl (fun _ _=>bD.nil _ _ _) f2 e8 (by first | assumption | exact dG f4 | exact fun x hx=>absurd hx B3 | exact dG (Mk.l8 f4).1 | exact dG (Mk.lq f4).1 | exact dG (Mk.mq f4).1 | exact dG (Mk.mo f4).1 | exact dG (Mk.mr f4).1) eB) ?_
 rintro _ Bb ⟨nY,nZ,og,rfl,j6,eF,eG⟩
 have jm:=j5 _ _ j6
 have xG:=az eF
 have xH:=jm.rowC (i:=1) rfl
 replace eG:eu.bB.ls.length=p0.bB.ls.length+1:=eG
 refine D0 (Gf (res0 rfl) (nt (rt (tR (Fin.res (res0 rfl) ?_)))))
 have oh:=jm.px [] [3,4,23] []
 obtain⟨rfl,rfl⟩:=gm (hr.symm.trans (show _=(eu,a) from et (ip aS) (et (ai aG) (et (gB aT) (et (iN bK) (et (ip bg) (et (ip aJ) (et (ip cZ) (et (ip dm) (ai eB))))))))))
 exact⟨nY,nZ,og,S,T,U,V,W,X,N,O,F,G,P,Y,Q,R,j,d,I,l,f,J,n,g,K,p,h,L,rfl,oh,eF,M,B,C,E,s,u,y,z⟩
 refine jF (dF dm) (sk (rt (tR (Fin.res (res0 rfl) ?_))))
 have ol:=aN.px [] [0,1,23] []
 obtain⟨rfl,rfl⟩:=gm (hr.symm.trans (show _=(p0,a) from et (ip aS) (et (ai aG) (et (gB aT) (et (iN bK) (et (ip bg) (et (ip aJ) (et (ip cZ) (iN dm)))))))))
 exact⟨aD,aF,au,S,T,U,V,W,X,N,O,F,G,P,Y,Q,R,j,d,I,l,f,J,n,g,K,p,h,L,rfl,ol,ag,M,B,C,E,s,u,y,z⟩
 refine jF (dF cZ) (sk ?_)
 have eH:=aN.px [] [23] []
 refine FT (Mz rfl (Lz (vI (b.aJ - 10)) eH 0 C6 (La (gT b av Z ax aa aC ae) eH 1 M5 M6 ?_)))
 have om:=eH.pb [0,1]
 obtain⟨⟨jo,jq⟩,eO⟩:∃ q:bH × aB,dU p0 (b.aJ - 10) b a=q:=⟨_,rfl⟩
 obtain⟨Bc,kg,bY,ko,xI⟩:=GI om
 refine cl Q0 (jw _ _ g0 p0 aD aF au (b.aJ - 10) b av b.aG.ls.length Z ax b.ah.ls.length aa bf aC b.ag.ls.length ae r a S T U V W X N O F G P Y Q R j d I l f J n g K p h L jo jq kg ag rfl (bY _ aW) (show b.aG.ls.length≤Z∧b.aG.ls.length≤9223372036854775807 from by omega) aR rfl (bY _ aX) (show b.ah.ls.length≤aa∧b.ah.ls.length≤9223372036854775807 from by omega) (fun x9 h9=>⟨bY _ (ah x9 h9).1,(ah x9 h9).2⟩) rfl (bY _ aY) (show b.ag.ls.length≤ae∧b.ag.ls.length≤9223372036854775807 from by omega) M B C E s u y z e8 e6 e8 eO) ?_
 rintro _ Bd ⟨oo,oq,ou,ow,oz,oC,oD,oF,oG,oH,oI,oK,oL,oM,oN,oO,oP,oQ,oU,oV,oW,oZ,o5,o6,o7,o8,o9,pg,pq,rfl,kr,eP,eQ,eT,eU,eX,eY,eZ,fe,fo⟩
 have bu:=ko _ _ kr
 have xJ:=az eP
 have xK:=az eQ
 have xL:=az eT
 have xM:=az eU
 have xO:=az eX
 have xP:=az eY
 have xQ:=az eZ
 have xR:=az fe
 have xS:=az fo
 have xU:=bu.rowC (i:=1) rfl
 have xV:=bu.rowC (i:=4) rfl
 have xW:=bu.rowC (i:=5) rfl
 have xX:=bu.rowC (i:=7) rfl
 have xY:=bu.rowC (i:=9) rfl
 have xZ:=bu.rowC (i:=11) rfl
 have x8:=bu.rowC (i:=13) rfl
 have yc:=bu.rowC (i:=15) rfl
 have yf:=bu.rowC (i:=17) rfl
 have yg:=bu.rowC (i:=19) rfl
 refine D0 (Gf (res0 rfl) ?_)
 have pu:=bu.px [] [21,22] []
 obtain⟨rfl,rfl⟩:=gm (hr.symm.trans (show _=(jo,jq) from et (ip aS) (et (ai aG) (et (gB aT) (et (iN bK) (et (ip bg) (et (ip aJ) (et (iN cZ) (ai eO)))))))))
 exact⟨oo,oq,ou,ow,oz,oC,oD,oF,oG,oH,oI,oK,oL,oM,oN,oO,oP,oQ,oU,oV,oW,oZ,o5,o6,o7,o8,o9,pg,pq,rfl,pu,eP,eQ,eT,eU,eX,eY,eZ,fe,fo⟩
 refine Sz aJ (Sz aJ (Sz aJ (Sz aJ (Sz aJ (fw (.bool false) (FX rfl aJ rfl) (nt (jf (sk ?_))))))))
 have fq:=aN.px [] [23] []
 refine FT (Mz rfl (Lz (vI (b.aJ - 10)) fq 0 C6 (La (gT b av Z ax aa aC ae) fq 1 M5 M6 ?_)))
 have pz:=fq.pb [0,1]
 obtain⟨⟨jr,jv⟩,fu⟩:∃ q:bH × aB,dU p0 (b.aJ - 10) b a=q:=⟨_,rfl⟩
 obtain⟨Be,ku,bZ,kv,yh⟩:=GI pz
 refine cl Q0 (jw _ _ g0 p0 aD aF au (b.aJ - 10) b av b.aG.ls.length Z ax b.ah.ls.length aa bf aC b.ag.ls.length ae r a S T U V W X N O F G P Y Q R j d I l f J n g K p h L jr jv ku ag rfl (bZ _ aW) (show b.aG.ls.length≤Z∧b.aG.ls.length≤9223372036854775807 from by omega) aR rfl (bZ _ aX) (show b.ah.ls.length≤aa∧b.ah.ls.length≤9223372036854775807 from by omega) (fun x9 h9=>⟨bZ _ (ah x9 h9).1,(ah x9 h9).2⟩) rfl (bZ _ aY) (show b.ag.ls.length≤ae∧b.ag.ls.length≤9223372036854775807 from by omega) M B C E s u y z e8 e6 e8 fu) ?_
 rintro _ Bf ⟨pE,pF,pG,pI,pJ,pK,pM,pO,pQ,pR,pU,pV,pW,pX,pY,p8,p9,qa,qb,qc,qf,qg,qh,qi,qj,qm,qo,qw,qx,rfl,kw,fA,fB,fC,fD,fE,fF,fG,fH,fJ⟩
 have bB:=kv _ _ kw
 have yj:=az fA
 have yl:=az fB
 have ym:=az fC
 have yn:=az fD
 have yo:=az fE
 have yt:=az fF
 have yu:=az fG
 have yw:=az fH
 have yx:=az fJ
 have yz:=bB.rowC (i:=1) rfl
 have yA:=bB.rowC (i:=4) rfl
 have yB:=bB.rowC (i:=5) rfl
 have yC:=bB.rowC (i:=7) rfl
 have yD:=bB.rowC (i:=9) rfl
 have yE:=bB.rowC (i:=11) rfl
 have yF:=bB.rowC (i:=13) rfl
 have yG:=bB.rowC (i:=15) rfl
 have yH:=bB.rowC (i:=17) rfl
 have yI:=bB.rowC (i:=19) rfl
 refine D0 (Gf (res0 rfl) ?_)
 have qy:=bB.px [] [21,22] []
 obtain⟨rfl,rfl⟩:=gm (hr.symm.trans (show _=(jr,jv) from et (ip aS) (et (ai aG) (et (gB aT) (et (iN bK) (et (ip bg) (et (gB aJ) (ai fu))))))))
 exact⟨pE,pF,pG,pI,pJ,pK,pM,pO,pQ,pR,pU,pV,pW,pX,pY,p8,p9,qa,qb,qc,qf,qg,qh,qi,qj,qm,qo,qw,qx,rfl,qy,fA,fB,fC,fD,fE,fF,fG,fH,fJ⟩
 by_cases bR:b.aJ - 10=3
 refine qt (v:=vP r 21) 7 rfl (fun _ _=>by rw [show b.aJ - 10=3 from by omega]; exact yk) (qt (v:= .agg #[.bool a.aP.aT,vU a.aP.aF,vI a.aP.bn, .slice n a.aP.ae.ls.length g]) 8 rfl (fun _ ⟨_,H9⟩=>F5 rfl (Gc (cs:= [.bool a.aP.aT,vU a.aP.aF,vI a.aP.bn, .slice n a.aP.ae.ls.length g]) P9 O7 ((H9.cls (i:=5) rfl).lit (k:=21) (m:=4) rfl))) ?_)
 refine qd 9 rfl (GD (cs:= [.bool false, .int .u64 0,vI 0, .slice none 0 0]) (t:=81) iV rfl rfl (fun _=>by kernel_rfl) ?_)
 intro bV Bg qz
 have jy:=qz.pb [0]
 refine⟨.inr ⟨_,jy⟩, ?_⟩
 have qA:=jy.pf [23]
 refine qe 10 rfl (Do.store (vs:= [.bool a.aP.aT,vU a.aP.aF,vI a.aP.bn, .slice n a.aP.ae.ls.length g]) (o:=0) qA rfl rfl O7 rfl rfl rfl rfl ?_)
 intro Bh qB
 have aO:=qB.pb [0]
 refine⟨.inr ⟨_,aO⟩, ?_⟩
 refine qn (FW (sr (Kz (vP bV 0) (Lz (.bool a.aP.aT) aO 23 M3 (Mz rfl ?_)))))
 rcases JQ (a.aP.aT) with aK | aK
 refine Gz (vP bV 1) aK (Gl (vU a.aP.aF) aK aO 23 E1 (Gz (vP bT 6) aK (Gl (vU b.aU) aK aO 1 E1 (Gz (.bool (decide (((a.aP.aF:Nat):Int) ≥ ((b.aU:Nat):Int)))) aK (fw (.bool (decide (((a.aP.aF:Nat):Int) ≥ ((b.aU:Nat):Int)))) (Gb rfl aK rfl) (nt ?_))))))
 by_cases df:((a.aP.aF:Nat):Int) ≥ ((b.aU:Nat):Int)
 refine jT (dT df) (FU (sr (Kz (vP bV 1) (Lz (vU a.aP.aF) aO 23 E1 (Kz (vP bT 6) (Lz (vU b.aU) aO 1 E1 (Kz (.bool (decide (((a.aP.aF:Nat):Int)=((b.aU:Nat):Int)))) (nt ?_))))))))
 by_cases dn:((a.aP.aF:Nat):Int)=((b.aU:Nat):Int)
 refine jT (dT dn) (FT (Mz rfl (Lz (vI (b.aJ - 10)) aO 0 C6 (Kz (vP bV 1) (Lz (vU a.aP.aF) aO 23 E1 (Kz (vP bV 2) (Lz (vI a.aP.bn) aO 23 C6 (Kz (vP bV 3) (Lz (.slice n a.aP.ae.ls.length g) aO 23 E6 ?_)))))))))
 refine WL.do rfl (Gd O4 rfl ?_ (fun _ _ k=>k))
 refine cb O5 ?_
 refine FT (Mz rfl (Mz rfl (fw (vI (10+(b.aJ - 10))) (FV (e:=C7.wrap (10+(b.aJ - 10))) yk g2) (Mz rfl (Mz rfl (Kz (vP g0 0) (Kz (vP g0 0) (Lz (vP r 0) aO 2 O3 (Kz (vP r 0) (Kz (vP r 0) (Kz (vP r 1) (Lz (vU a.aa.ax) aO 5 E1 (Mz rfl (Mz rfl (Kz (.agg (gD 2 0 (10+(b.aJ - 10)) 0 a.aP.bn 0 a.aP.aF a.aa.ax 0 0 0 0 0 0 0 false ([]) ([]) none 0 0 n a.aP.ae.ls.length g none 0 0).toArray) ?_)))))))))))))))
 have jA:=aO.pf [2,3,4]
 obtain⟨fK,fM⟩:∃ q,dA p0 (bQ.mk 2 0 (10+(b.aJ - 10)) 0 a.aP.bn 0 a.aP.aF a.aa.ax 0 0 0 0 0 0 0 false (bL.mk ([]) ([])) (E4 ([])) (E4 a.aP.ae.ls) (E4 ([])))=q:=⟨_,rfl⟩
 obtain⟨Bi,ky,yJ,kz,fO⟩:=Gv jA
 refine cl O6 (fI _ _ g0 p0 aD aF au r (bQ.mk 2 0 (10+(b.aJ - 10)) 0 a.aP.bn 0 a.aP.aF a.aa.ax 0 0 0 0 0 0 0 false (bL.mk ([]) ([])) (E4 ([])) (E4 a.aP.ae.ls) (E4 ([]))) none 0 0 n a.aP.ae.ls.length g K none 0 0 fK ky ag rfl (fun _ _=>bD.nil _ _ _) f2 y rfl (fO _ 16 _ rfl aV) (show a.aP.ae.ls.length≤g∧a.aP.ae.ls.length≤9223372036854775807 from by omega) (fun x9 h9=>⟨fO _ 17 _ rfl (ay (P3.2 ⟨x9,h9,b1⟩) aV),bz (φ:=fun _=>_) jA (i:=20) rfl (ay (P3.2 ⟨x9,h9,b1⟩) bq)⟩) rfl (fun _ _=>bD.nil _ _ _) f2 e8 (by first | assumption | exact dG f4 | exact fun x hx=>absurd hx B3 | exact dG (Mk.l8 f4).1 | exact dG (Mk.lq f4).1 | exact dG (Mk.mq f4).1 | exact dG (Mk.mo f4).1 | exact dG (Mk.mr f4).1) fM) ?_
 rintro _ Bj ⟨qC,qD,qE,rfl,kC,fP,fQ⟩
 have jB:=kz _ _ kC
 have yK:=az fP
 have yL:=jB.rowC (i:=1) rfl
 replace fQ:fK.bB.ls.length=p0.bB.ls.length+1:=fQ
 refine D0 (Gf (res0 rfl) (nt (rt (tR (Fin.res (res0 rfl) ?_)))))
 have qF:=jB.px [] [3,4,23] []
 obtain⟨rfl,rfl⟩:=gm (hr.symm.trans (show _=(fK,a) from et (ip aS) (et (ai aG) (et (gB aT) (et (iN bK) (et (iN bg) (et (ip bR) (et (ip aK) (et (ip df) (et (ip dn) (ai fM)))))))))))
 exact⟨qC,qD,qE,S,T,U,V,W,X,N,O,F,G,P,Y,Q,R,j,d,I,l,f,J,n,g,K,p,h,L,rfl,qF,fP,M,B,C,E,s,u,y,z⟩
 refine jF (dF dn) (sk (rt (tR (Fin.res (res0 rfl) ?_))))
 have qG:=aO.px [] [0,1,23] []
 obtain⟨rfl,rfl⟩:=gm (hr.symm.trans (show _=(p0,a) from et (ip aS) (et (ai aG) (et (gB aT) (et (iN bK) (et (iN bg) (et (ip bR) (et (ip aK) (et (ip df) (iN dn))))))))))
 exact⟨aD,aF,au,S,T,U,V,W,X,N,O,F,G,P,Y,Q,R,j,d,I,l,f,J,n,g,K,p,h,L,rfl,qG,ag,M,B,C,E,s,u,y,z⟩
 refine jF (dF df) (sk ?_)
 have fT:=aO.px [] [23] []
 refine FT (Mz rfl (Lz (vI (b.aJ - 10)) fT 0 C6 (La (gT b av Z ax aa aC ae) fT 1 M5 M6 ?_)))
 have qH:=fT.pb [0,1]
 obtain⟨⟨jC,jD⟩,fU⟩:∃ q:bH × aB,dU p0 (b.aJ - 10) b a=q:=⟨_,rfl⟩
 obtain⟨Bl,kD,cu,kE,yM⟩:=GI qH
 refine cl Q0 (jw _ _ g0 p0 aD aF au (b.aJ - 10) b av b.aG.ls.length Z ax b.ah.ls.length aa bf aC b.ag.ls.length ae r a S T U V W X N O F G P Y Q R j d I l f J n g K p h L jC jD kD ag rfl (cu _ aW) (show b.aG.ls.length≤Z∧b.aG.ls.length≤9223372036854775807 from by omega) aR rfl (cu _ aX) (show b.ah.ls.length≤aa∧b.ah.ls.length≤9223372036854775807 from by omega) (fun x9 h9=>⟨cu _ (ah x9 h9).1,(ah x9 h9).2⟩) rfl (cu _ aY) (show b.ag.ls.length≤ae∧b.ag.ls.length≤9223372036854775807 from by omega) M B C E s u y z e8 e6 e8 fU) ?_
 rintro _ Bn ⟨qI,qJ,qK,qL,qM,qN,qO,qP,qQ,qR,qU,qV,qW,qX,qY,qZ,q8,q9,rf,rq,ru,ry,rz,rA,rC,rD,rE,rF,rG,rfl,kF,fV,fZ,gp,gq,gu,gy,gz,gF,gG⟩
 have bE:=kE _ _ kF
 have yN:=az fV
 have yO:=az fZ
 have yP:=az gp
 have yQ:=az gq
 have yR:=az gu
 have yS:=az gy
 have yT:=az gz
 have yU:=az gF
 have yV:=az gG
 have yX:=bE.rowC (i:=1) rfl
 have yY:=bE.rowC (i:=4) rfl
 have yZ:=bE.rowC (i:=5) rfl
 have y5:=bE.rowC (i:=7) rfl
 have y7:=bE.rowC (i:=9) rfl
 have y8:=bE.rowC (i:=11) rfl
 have y9:=bE.rowC (i:=13) rfl
 have za:=bE.rowC (i:=15) rfl
 have zb:=bE.rowC (i:=17) rfl
 have ze:=bE.rowC (i:=19) rfl
 refine D0 (Gf (res0 rfl) ?_)
 have rH:=bE.px [] [21,22] []
 obtain⟨rfl,rfl⟩:=gm (hr.symm.trans (show _=(jC,jD) from et (ip aS) (et (ai aG) (et (gB aT) (et (iN bK) (et (iN bg) (et (ip bR) (et (ip aK) (et (iN df) (ai fU))))))))))
 exact⟨qI,qJ,qK,qL,qM,qN,qO,qP,qQ,qR,qU,qV,qW,qX,qY,qZ,q8,q9,rf,rq,ru,ry,rz,rA,rC,rD,rE,rF,rG,rfl,rH,fV,fZ,gp,gq,gu,gy,gz,gF,gG⟩
 refine Sz aK (Sz aK (Sz aK (Sz aK (Sz aK (fw (.bool false) (FX rfl aK rfl) (nt (jf (sk ?_))))))))
 have gH:=aO.px [] [23] []
 refine FT (Mz rfl (Lz (vI (b.aJ - 10)) gH 0 C6 (La (gT b av Z ax aa aC ae) gH 1 M5 M6 ?_)))
 have rJ:=gH.pb [0,1]
 obtain⟨⟨jE,jG⟩,gI⟩:∃ q:bH × aB,dU p0 (b.aJ - 10) b a=q:=⟨_,rfl⟩
 obtain⟨Bo,kG,cz,kH,zf⟩:=GI rJ
 refine cl Q0 (jw _ _ g0 p0 aD aF au (b.aJ - 10) b av b.aG.ls.length Z ax b.ah.ls.length aa bf aC b.ag.ls.length ae r a S T U V W X N O F G P Y Q R j d I l f J n g K p h L jE jG kG ag rfl (cz _ aW) (show b.aG.ls.length≤Z∧b.aG.ls.length≤9223372036854775807 from by omega) aR rfl (cz _ aX) (show b.ah.ls.length≤aa∧b.ah.ls.length≤9223372036854775807 from by omega) (fun x9 h9=>⟨cz _ (ah x9 h9).1,(ah x9 h9).2⟩) rfl (cz _ aY) (show b.ag.ls.length≤ae∧b.ag.ls.length≤9223372036854775807 from by omega) M B C E s u y z e8 e6 e8 gI) ?_
 rintro _ Bp ⟨rM,rO,rP,rQ,rR,rT,rU,rV,rW,rX,rY,rZ,r9,si,sj,su,sw,sD,sF,sG,sH,sI,sJ,sK,sM,sN,sO,sP,sQ,rfl,kI,gJ,gK,gL,gM,gN,gP,gQ,gU,gV⟩
 have bG:=kH _ _ kI
 have zg:=az gJ
 have zh:=az gK
 have zi:=az gL
 have zk:=az gM
 have zl:=az gN
 have zm:=az gP
 have zn:=az gQ
 have zo:=az gU
 have zq:=az gV
 have zt:=bG.rowC (i:=1) rfl
 have zu:=bG.rowC (i:=4) rfl
 have zw:=bG.rowC (i:=5) rfl
 have zx:=bG.rowC (i:=7) rfl
 have zy:=bG.rowC (i:=9) rfl
 have zz:=bG.rowC (i:=11) rfl
 have zA:=bG.rowC (i:=13) rfl
 have zB:=bG.rowC (i:=15) rfl
 have zC:=bG.rowC (i:=17) rfl
 have zD:=bG.rowC (i:=19) rfl
 refine D0 (Gf (res0 rfl) ?_)
 have sS:=bG.px [] [21,22] []
 obtain⟨rfl,rfl⟩:=gm (hr.symm.trans (show _=(jE,jG) from et (ip aS) (et (ai aG) (et (gB aT) (et (iN bK) (et (iN bg) (et (ip bR) (et (gB aK) (ai gI)))))))))
 exact⟨rM,rO,rP,rQ,rR,rT,rU,rV,rW,rX,rY,rZ,r9,si,sj,su,sw,sD,sF,sG,sH,sI,sJ,sK,sM,sN,sO,sP,sQ,rfl,sS,gJ,gK,gL,gM,gN,gP,gQ,gU,gV⟩
 refine qt (v:=vP r 25) 7 rfl (fun _ _=>by rw [show b.aJ - 10=4 from by omega]; exact yk) (qt (v:= .agg #[.bool a.aM.aT,vU a.aM.aF,vI a.aM.bn, .slice p a.aM.ae.ls.length h]) 8 rfl (fun _ ⟨_,H9⟩=>F5 rfl (Gc (cs:= [.bool a.aM.aT,vU a.aM.aF,vI a.aM.bn, .slice p a.aM.ae.ls.length h]) P9 O7 ((H9.cls (i:=5) rfl).lit (k:=25) (m:=4) rfl))) ?_)
 refine qd 9 rfl (GD (cs:= [.bool false, .int .u64 0,vI 0, .slice none 0 0]) (t:=81) iV rfl rfl (fun _=>by kernel_rfl) ?_)
 intro bW Bq sU
 have jH:=sU.pb [0]
 refine⟨.inr ⟨_,jH⟩, ?_⟩
 have sV:=jH.pf [23]
 refine qe 10 rfl (Do.store (vs:= [.bool a.aM.aT,vU a.aM.aF,vI a.aM.bn, .slice p a.aM.ae.ls.length h]) (o:=0) sV rfl rfl O7 rfl rfl rfl rfl ?_)
 intro Br sW
 have aP:=sW.pb [0]
 refine⟨.inr ⟨_,aP⟩, ?_⟩
 refine qn (FW (sr (Kz (vP bW 0) (Lz (.bool a.aM.aT) aP 23 M3 (Mz rfl ?_)))))
 rcases JQ (a.aM.aT) with aM | aM
 refine Gz (vP bW 1) aM (Gl (vU a.aM.aF) aM aP 23 E1 (Gz (vP bT 6) aM (Gl (vU b.aU) aM aP 1 E1 (Gz (.bool (decide (((a.aM.aF:Nat):Int) ≥ ((b.aU:Nat):Int)))) aM (fw (.bool (decide (((a.aM.aF:Nat):Int) ≥ ((b.aU:Nat):Int)))) (Gb rfl aM rfl) (nt ?_))))))
 by_cases dh:((a.aM.aF:Nat):Int) ≥ ((b.aU:Nat):Int)
 refine jT (dT dh) (FU (sr (Kz (vP bW 1) (Lz (vU a.aM.aF) aP 23 E1 (Kz (vP bT 6) (Lz (vU b.aU) aP 1 E1 (Kz (.bool (decide (((a.aM.aF:Nat):Int)=((b.aU:Nat):Int)))) (nt ?_))))))))
 by_cases dw:((a.aM.aF:Nat):Int)=((b.aU:Nat):Int)
 refine jT (dT dw) (FT (Mz rfl (Lz (vI (b.aJ - 10)) aP 0 C6 (Kz (vP bW 1) (Lz (vU a.aM.aF) aP 23 E1 (Kz (vP bW 2) (Lz (vI a.aM.bn) aP 23 C6 (Kz (vP bW 3) (Lz (.slice p a.aM.ae.ls.length h) aP 23 E6 ?_)))))))))
 refine WL.do rfl (Gd O4 rfl ?_ (fun _ _ k=>k))
 refine cb O5 ?_
 refine FT (Mz rfl (Mz rfl (fw (vI (10+(b.aJ - 10))) (FV (e:=C7.wrap (10+(b.aJ - 10))) yk g2) (Mz rfl (Mz rfl (Kz (vP g0 0) (Kz (vP g0 0) (Lz (vP r 0) aP 2 O3 (Kz (vP r 0) (Kz (vP r 0) (Kz (vP r 1) (Lz (vU a.aa.ax) aP 5 E1 (Mz rfl (Mz rfl (Kz (.agg (gD 2 0 (10+(b.aJ - 10)) 0 a.aM.bn 0 a.aM.aF a.aa.ax 0 0 0 0 0 0 0 false ([]) ([]) none 0 0 p a.aM.ae.ls.length h none 0 0).toArray) ?_)))))))))))))))
 have jI:=aP.pf [2,3,4]
 obtain⟨gW,gX⟩:∃ q,dA p0 (bQ.mk 2 0 (10+(b.aJ - 10)) 0 a.aM.bn 0 a.aM.aF a.aa.ax 0 0 0 0 0 0 0 false (bL.mk ([]) ([])) (E4 ([])) (E4 a.aM.ae.ls) (E4 ([])))=q:=⟨_,rfl⟩
 obtain⟨Bt,kJ,zF,kK,gY⟩:=Gv jI
 refine cl O6 (fI _ _ g0 p0 aD aF au r (bQ.mk 2 0 (10+(b.aJ - 10)) 0 a.aM.bn 0 a.aM.aF a.aa.ax 0 0 0 0 0 0 0 false (bL.mk ([]) ([])) (E4 ([])) (E4 a.aM.ae.ls) (E4 ([]))) none 0 0 p a.aM.ae.ls.length h L none 0 0 gW kJ ag rfl (fun _ _=>bD.nil _ _ _) f2 z rfl (gY _ 18 _ rfl aV) (show a.aM.ae.ls.length≤h∧a.aM.ae.ls.length≤9223372036854775807 from by omega) (fun x9 h9=>⟨gY _ 19 _ rfl (ay (P3.2 ⟨x9,h9,b1⟩) aV),bz (φ:=fun _=>_) jI (i:=22) rfl (ay (P3.2 ⟨x9,h9,b1⟩) bq)⟩) rfl (fun _ _=>bD.nil _ _ _) f2 e8 (by first | assumption | exact dG f4 | exact fun x hx=>absurd hx B3 | exact dG (Mk.l8 f4).1 | exact dG (Mk.lq f4).1 | exact dG (Mk.mq f4).1 | exact dG (Mk.mo f4).1 | exact dG (Mk.mr f4).1) gX) ?_
 rintro _ Bu ⟨sZ,tq,tu,rfl,kL,gZ,ib⟩
 have jJ:=kK _ _ kL
 have zG:=az gZ
 have zH:=jJ.rowC (i:=1) rfl
 replace ib:gW.bB.ls.length=p0.bB.ls.length+1:=ib
 refine D0 (Gf (res0 rfl) (nt (rt (tR (Fin.res (res0 rfl) ?_)))))
 have tC:=jJ.px [] [3,4,23] []
 obtain⟨rfl,rfl⟩:=gm (hr.symm.trans (show _=(gW,a) from et (ip aS) (et (ai aG) (et (gB aT) (et (iN bK) (et (iN bg) (et (iN bR) (et (ip aM) (et (ip dh) (et (ip dw) (ai gX)))))))))))
 exact⟨sZ,tq,tu,S,T,U,V,W,X,N,O,F,G,P,Y,Q,R,j,d,I,l,f,J,n,g,K,p,h,L,rfl,tC,gZ,M,B,C,E,s,u,y,z⟩
 refine jF (dF dw) (sk (rt (tR (Fin.res (res0 rfl) ?_))))
 have tF:=aP.px [] [0,1,23] []
 obtain⟨rfl,rfl⟩:=gm (hr.symm.trans (show _=(p0,a) from et (ip aS) (et (ai aG) (et (gB aT) (et (iN bK) (et (iN bg) (et (iN bR) (et (ip aM) (et (ip dh) (iN dw))))))))))
 exact⟨aD,aF,au,S,T,U,V,W,X,N,O,F,G,P,Y,Q,R,j,d,I,l,f,J,n,g,K,p,h,L,rfl,tF,ag,M,B,C,E,s,u,y,z⟩
 refine jF (dF dh) (sk ?_)
 have ig:=aP.px [] [23] []
 refine FT (Mz rfl (Lz (vI (b.aJ - 10)) ig 0 C6 (La (gT b av Z ax aa aC ae) ig 1 M5 M6 ?_)))
 have tH:=ig.pb [0,1]
 obtain⟨⟨jK,jL⟩,ik⟩:∃ q:bH × aB,dU p0 (b.aJ - 10) b a=q:=⟨_,rfl⟩
 obtain⟨Bv,kM,cB,kN,zI⟩:=GI tH
 refine cl Q0 (jw _ _ g0 p0 aD aF au (b.aJ - 10) b av b.aG.ls.length Z ax b.ah.ls.length aa bf aC b.ag.ls.length ae r a S T U V W X N O F G P Y Q R j d I l f J n g K p h L jK jL kM ag rfl (cB _ aW) (show b.aG.ls.length≤Z∧b.aG.ls.length≤9223372036854775807 from by omega) aR rfl (cB _ aX) (show b.ah.ls.length≤aa∧b.ah.ls.length≤9223372036854775807 from by omega) (fun x9 h9=>⟨cB _ (ah x9 h9).1,(ah x9 h9).2⟩) rfl (cB _ aY) (show b.ag.ls.length≤ae∧b.ag.ls.length≤9223372036854775807 from by omega) M B C E s u y z e8 e6 e8 ik) ?_
 rintro _ Bw ⟨tJ,tK,tL,tN,tO,tQ,tV,tX,tY,tZ,uf,ug,uh,ui,uj,uk,ul,um,uq,ut,uu,uw,uy,uz,uA,uB,uC,uD,uE,rfl,kP,il,iq,iw,iy,iA,iB,iC,iD,iE⟩
 have bI:=kN _ _ kP
 have zJ:=az il
 have zK:=az iq
 have zL:=az iw
 have zM:=az iy
 have zN:=az iA
 have zO:=az iB
 have zP:=az iC
 have zQ:=az iD
 have zR:=az iE
 have zS:=bI.rowC (i:=1) rfl
 have zT:=bI.rowC (i:=4) rfl
 have zU:=bI.rowC (i:=5) rfl
 have zV:=bI.rowC (i:=7) rfl
 have zW:=bI.rowC (i:=9) rfl
 have zX:=bI.rowC (i:=11) rfl
 have zY:=bI.rowC (i:=13) rfl
 have zZ:=bI.rowC (i:=15) rfl
 have z8:=bI.rowC (i:=17) rfl
 have Aa:=bI.rowC (i:=19) rfl
 refine D0 (Gf (res0 rfl) ?_)
 have uF:=bI.px [] [21,22] []
 obtain⟨rfl,rfl⟩:=gm (hr.symm.trans (show _=(jK,jL) from et (ip aS) (et (ai aG) (et (gB aT) (et (iN bK) (et (iN bg) (et (iN bR) (et (ip aM) (et (iN dh) (ai ik))))))))))
 exact⟨tJ,tK,tL,tN,tO,tQ,tV,tX,tY,tZ,uf,ug,uh,ui,uj,uk,ul,um,uq,ut,uu,uw,uy,uz,uA,uB,uC,uD,uE,rfl,uF,il,iq,iw,iy,iA,iB,iC,iD,iE⟩
 refine Sz aM (Sz aM (Sz aM (Sz aM (Sz aM (fw (.bool false) (FX rfl aM rfl) (nt (jf (sk ?_))))))))
 have iF:=aP.px [] [23] []
 refine FT (Mz rfl (Lz (vI (b.aJ - 10)) iF 0 C6 (La (gT b av Z ax aa aC ae) iF 1 M5 M6 ?_)))
 have uG:=iF.pb [0,1]
 obtain⟨⟨jM,jN⟩,iG⟩:∃ q:bH × aB,dU p0 (b.aJ - 10) b a=q:=⟨_,rfl⟩
 obtain⟨Bz,kQ,cK,kR,Ab⟩:=GI uG
 refine cl Q0 (jw _ _ g0 p0 aD aF au (b.aJ - 10) b av b.aG.ls.length Z ax b.ah.ls.length aa bf aC b.ag.ls.length ae r a S T U V W X N O F G P Y Q R j d I l f J n g K p h L jM jN kQ ag rfl (cK _ aW) (show b.aG.ls.length≤Z∧b.aG.ls.length≤9223372036854775807 from by omega) aR rfl (cK _ aX) (show b.ah.ls.length≤aa∧b.ah.ls.length≤9223372036854775807 from by omega) (fun x9 h9=>⟨cK _ (ah x9 h9).1,(ah x9 h9).2⟩) rfl (cK _ aY) (show b.ag.ls.length≤ae∧b.ag.ls.length≤9223372036854775807 from by omega) M B C E s u y z e8 e6 e8 iG) ?_
 rintro _ BA ⟨uH,uI,uJ,uK,uL,uM,uN,uO,uP,uQ,uR,uS,uT,uU,uV,uW,uX,uY,uZ,u6,u7,ve,vg,vk,vo,vv,vw,vz,vB,rfl,kS,iH,iI,iJ,iK,iL,iM,iO,iQ,iR⟩
 have bJ:=kR _ _ kS
 have Ac:=az iH
 have Ad:=az iI
 have Ae:=az iJ
 have Af:=az iK
 have Ag:=az iL
 have Ah:=az iM
 have Ai:=az iO
 have Aj:=az iQ
 have Ak:=az iR
 have Al:=bJ.rowC (i:=1) rfl
 have Am:=bJ.rowC (i:=4) rfl
 have Ao:=bJ.rowC (i:=5) rfl
 have Ap:=bJ.rowC (i:=7) rfl
 have Aq:=bJ.rowC (i:=9) rfl
 have Ar:=bJ.rowC (i:=11) rfl
 have Au:=bJ.rowC (i:=13) rfl
 have Av:=bJ.rowC (i:=15) rfl
 have Aw:=bJ.rowC (i:=17) rfl
 have Ay:=bJ.rowC (i:=19) rfl
 refine D0 (Gf (res0 rfl) ?_)
 have vC:=bJ.px [] [21,22] []
 obtain⟨rfl,rfl⟩:=gm (hr.symm.trans (show _=(jM,jN) from et (ip aS) (et (ai aG) (et (gB aT) (et (iN bK) (et (iN bg) (et (iN bR) (et (gB aM) (ai iG)))))))))
 exact⟨uH,uI,uJ,uK,uL,uM,uN,uO,uP,uQ,uR,uS,uT,uU,uV,uW,uX,uY,uZ,u6,u7,ve,vg,vk,vo,vv,vw,vz,vB,rfl,vC,iH,iI,iJ,iK,iL,iM,iO,iQ,iR⟩
 refine jT (dT aS) (sr (Mz rfl (Lz (vI (b.aJ - 10)) bO 0 C6 (La (gT b av Z ax aa aC ae) bO 1 M5 M6 ?_))))
 have aQ:=bO.pf [2,3,4,5]
 have Az:=aQ.rowC (i:=9) rfl
 have AA:=aQ.rowC (i:=13) rfl
 have AB:=aQ.rowC (i:=15) rfl
 have AC:=aQ.rowC (i:=17) rfl
 have AJ:=aQ.rowC (i:=19) rfl
 have AL:=aQ.rowC (i:=21) rfl
 obtain⟨jO,iT⟩:∃ q,lF p0 (b.aJ - 10) b a=q:=⟨_,rfl⟩
 obtain⟨BB,kT,cO,kU,aH⟩:=GH aQ
 refine cl Tryz.call86 (tT _ _ g0 p0 aD aF au (b.aJ - 10) b av b.aG.ls.length Z ax b.ah.ls.length aa bf aC b.ag.ls.length ae r a S T U V X N O F G Y Q R j d I l f J n g K p h L jO kT ag rfl (cO _ aW) (show b.aG.ls.length≤Z∧b.aG.ls.length≤9223372036854775807 from by omega) aR rfl (cO _ aX) (show b.ah.ls.length≤aa∧b.ah.ls.length≤9223372036854775807 from by omega) (fun x9 h9=>⟨cO _ (ah x9 h9).1,(ah x9 h9).2⟩) rfl (cO _ aY) (show b.ag.ls.length≤ae∧b.ag.ls.length≤9223372036854775807 from by omega) B (aH _ 5 _ rfl aV) (show a.aa.aI.ls.length≤N∧a.aa.aI.ls.length≤9223372036854775807 from by omega) (fun x9 h9=>⟨aH _ 6 _ rfl (ay (P3.2 ⟨x9,h9,b1⟩) aV),bz (φ:=fun _=>_) aQ (i:=10) rfl (ay (P3.2 ⟨x9,h9,b1⟩) bq),(fun y1 k1=>⟨aH _ 6 _ rfl (ay (P3.2 ⟨x9,h9, .tail _ b1⟩) (ay (P3.2 ⟨y1,k1,b1⟩) aV)),bz (φ:=fun _=>_) aQ (i:=10) rfl (ay (P3.2 ⟨x9,h9, .tail _ b1⟩) (ay (P3.2 ⟨y1,k1,b1⟩) bq))⟩)⟩) E (aH _ 9 _ rfl aV) (show a.aR.ae.ls.length≤Q∧a.aR.ae.ls.length≤9223372036854775807 from by omega) (fun x9 h9=>⟨aH _ 10 _ rfl (ay (P3.2 ⟨x9,h9,b1⟩) aV),bz (φ:=fun _=>_) aQ (i:=14) rfl (ay (P3.2 ⟨x9,h9,b1⟩) bq)⟩) s (aH _ 11 _ rfl aV) (show a.aN.ae.ls.length≤d∧a.aN.ae.ls.length≤9223372036854775807 from by omega) (fun x9 h9=>⟨aH _ 12 _ rfl (ay (P3.2 ⟨x9,h9,b1⟩) aV),bz (φ:=fun _=>_) aQ (i:=16) rfl (ay (P3.2 ⟨x9,h9,b1⟩) bq)⟩) u (aH _ 13 _ rfl aV) (show a.aO.ae.ls.length≤f∧a.aO.ae.ls.length≤9223372036854775807 from by omega) (fun x9 h9=>⟨aH _ 14 _ rfl (ay (P3.2 ⟨x9,h9,b1⟩) aV),bz (φ:=fun _=>_) aQ (i:=18) rfl (ay (P3.2 ⟨x9,h9,b1⟩) bq)⟩) y (aH _ 15 _ rfl aV) (show a.aP.ae.ls.length≤g∧a.aP.ae.ls.length≤9223372036854775807 from by omega) (fun x9 h9=>⟨aH _ 16 _ rfl (ay (P3.2 ⟨x9,h9,b1⟩) aV),bz (φ:=fun _=>_) aQ (i:=20) rfl (ay (P3.2 ⟨x9,h9,b1⟩) bq)⟩) z (aH _ 17 _ rfl aV) (show a.aM.ae.ls.length≤h∧a.aM.ae.ls.length≤9223372036854775807 from by omega) (fun x9 h9=>⟨aH _ 18 _ rfl (ay (P3.2 ⟨x9,h9,b1⟩) aV),bz (φ:=fun _=>_) aQ (i:=22) rfl (ay (P3.2 ⟨x9,h9,b1⟩) bq)⟩) e8 f4 iT) ?_
 rintro _ BC ⟨vD,vE,vF,rfl,kV,iU⟩
 have jP:=kU _ _ kV
 have AO:=az iU
 have AP:=jP.rowC (i:=1) rfl
 refine nt (rt (tR (Fin.res (res0 rfl) ?_)))
 have vG:=jP.px [] [4,5] []
 obtain⟨rfl,rfl⟩:=gm (hr.symm.trans (show _=(jO,a) from et (iN aS) (ai iT)))
 exact⟨vD,vE,vF,S,T,U,V,W,X,N,O,F,G,P,Y,Q,R,j,d,I,l,f,J,n,g,K,p,h,L,rfl,vG,iU,M,B,C,E,s,u,y,z⟩
end Go.Proofs.YtbkagebjhbphaaaGreat
