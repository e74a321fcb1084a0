/-
 coord: a vote.
-/
import Derived.Test.YtbkagebjhbphaaaGreatCc
import Derived.Test.YtbkagebjhbphaaaGreatCg
namespace Go.Proofs.YtbkagebjhbphaaaGreat
open Int renaming toNat→D2
open List renaming flatMap→q6,getD→C2,length→s2,length_append→p5,length_cons→s3,length_drop→p4,length_map→s6,length_nil→G1,length_replicate→H7,length_set→H6,length_take→p3,map→s8,mem_flatMap→P3,mem_of_getElem?→E0,set→u5
open Ll renaming mk→E4
open Sum renaming inl→C1
open Sv renaming mk→H5
open _root_.Go.Proofs.Tryz renaming isAgg104→P6,isAgg3→C6,prog→y4
set_option maxRecDepth 100000
open Go.RowKit
set_option linter.unusedVariables false
set_option linter.unusedSectionVars false
set_option linter.unusedSimpArgs false
def eY (p1c0:bQ):List gq→Nat→Unit ⊕ Int
  | [],a=>C1 ()
  | b::c,a=>if b.dV=p1c0.aJ then Sum.inr ((a:Nat):Int) else eY p1c0 c (a+1)
def eQ (l0:List gq) (p1c0:bQ):Int:=
 lp (eY p1c0 l0 0) fun _=>(-1)
theorem nO (w:World) (D:Nat→Prop) (o:Option Addr) (B C:Nat) (d0:List bG) (l0:List gq) (g1c0:Nat) (p1c0:bQ) (A1c0x0:Option Addr) (c1c0x0:Nat) (A1c0x1:Option Addr) (c1c0x1:Nat) (d1c0x1:List af) (A1c0x2:Option Addr) (c1c0x2:Nat) (z:Int) (H:Own w D w [blk g1c0 (gT p1c0 A1c0x0 c1c0x0 A1c0x1 c1c0x1 A1c0x2 c1c0x2) 42]) (p:s8 bG.abs d0=l0) (n:Ro w D fun w'=>bD w' 3 o B (q6 bG.cells d0)) (r:∀ x ∈ d0,Ro w D (fun w'=>bD w' 6 x.aG.A x.aG.ls.length (q6 bC.cells x.aG.ls))∧(x.aG.ls.length≤x.aG.c∧x.aG.ls.length≤9223372036854775807)∧Ro w D (fun w'=>bD w' 1 x.aJ.A x.aJ.ls.length (q6 (eI .i64) x.aJ.ls))∧(x.aJ.ls.length≤x.aJ.c∧x.aJ.ls.length≤9223372036854775807)) (E:B=l0.length) (S:l0.length≤9223372036854775807) (hx1c0x0:Ro w D fun w'=>bD w' 6 A1c0x0 p1c0.aG.ls.length (q6 bC.cells p1c0.aG.ls)) (hb1c0x0:p1c0.aG.ls.length≤c1c0x0∧p1c0.aG.ls.length≤9223372036854775807) (hd1c0x1:s8 af.abs d1c0x1=p1c0.ah.ls) (hx1c0x1:Ro w D fun w'=>bD w' 3 A1c0x1 p1c0.ah.ls.length (q6 af.cells d1c0x1)) (hb1c0x1:p1c0.ah.ls.length≤c1c0x1∧p1c0.ah.ls.length≤9223372036854775807) (hm1c0x1:∀ x ∈ d1c0x1,Ro w D (fun w'=>bD w' 2 x.au.A x.au.ls.length (q6 aL.cells x.au.ls))∧(x.au.ls.length≤x.au.c∧x.au.ls.length≤9223372036854775807)) (hx1c0x2:Ro w D fun w'=>bD w' 2 A1c0x2 p1c0.ag.ls.length (q6 bv.cells p1c0.ag.ls)) (hb1c0x2:p1c0.ag.ls.length≤c1c0x2∧p1c0.ag.ls.length≤9223372036854775807) (hr:eQ l0 p1c0=z):
    Calls y4 91 #[.slice o B C, .func (.func 92) #[] #[vP g1c0 0]] w (dR fun v w'=>v=vI z∧Own w D w' [blk g1c0 (gT p1c0 A1c0x0 c1c0x0 A1c0x1 c1c0x1 A1c0x2 c1c0x2) 42]∧(-1≤z∧z < ((l0.length:Nat):Int))):=by
 subst E
 have O:=az p
 have hdl1c0x1:=az hd1c0x1
 refine cb Tryz.func91 ?_
 refine sr (An rfl (FU (sr (Mz rfl (Kz (vJ l0.length) (Mn rfl (bo ?_)))))))
 have F:=H.pf []
 obtain⟨G,f⟩:=mX fun(a:Nat) (w':World)=>Own w D w' [blk g1c0 (gT p1c0 A1c0x0 c1c0x0 A1c0x1 c1c0x1 A1c0x2 c1c0x2) 42]∧a≤l0.length∧eY p1c0 l0 0=eY p1c0 (List.drop a l0) a
 refine Wp.loop (fun i:Nat=> [(4,vI 0),(8,vJ i),(7,vJ l0.length),(0, .slice o l0.length C),(1, .func (.func 92) #[] #[vP g1c0 0])]) G (fun i=>l0.length - i) 0 ⟨rfl,rfl,rfl,rfl,rfl,trivial⟩ (f.2 ⟨F,e6,rfl⟩) ?_
 rintro a T s
 obtain⟨g,P,h⟩:=f.1 s
 refine sr (Kz (.bool (decide (((a:Nat):Int) < ((l0.length:Nat):Int)))) (nt (FU ?_)))
 by_cases t:((a:Nat):Int) < ((l0.length:Nat):Int)
 obtain⟨d,b⟩:=dK (ls:=d0) (i:=a) bG.len f3 (g.ro n) e9
 have u:=fo p b
 have Q:=(r _ (E0 b)).2.1
 have R:=(r _ (E0 b)).2.2.2
 have m:=drop_at u
 refine jT (dT t) (sk (FU (bo (sr (Mz rfl (Ar rfl (Mz rfl (Mz rfl (Mz rfl (fw (.pointer (some ⟨ab o,ao o+a *3,none⟩)) (FZ (tH) rfl rfl ((g.ro n).addr (i:=a) e6) e6) (fw (.agg (bG.cells d).toArray) (F5 rfl (Gc (cs:=(bG.cells d)) Tryz.isAgg172 Tryz.sizeOf172 ((g.ro n).elem bG.len b f3))) ?_)))))))))))
 refine WL.do rfl (Gp Tryz.call92 rfl rfl ?_ (fun _ _ k=>k))
 refine cb Tryz.func92 ?_
 refine sr ?_
 refine dM (bG.cells d) 172 g ?_
 intro I U j
 refine Ar rfl (Kz (vP I 0) (Lz (vI d.dV) j 0 C6 (Kz (vP g1c0 1) (Lz (vI p1c0.aJ) j 1 C6 (Kz (.bool (decide (d.dV=p1c0.aJ))) (An rfl (rt (rs (nt ?_)))))))))
 by_cases l:d.dV=p1c0.aJ
 refine jT (dT l) (FU ?_)
 have J:=j.pk [1]
 refine FT (Mz rfl (An rfl (rt (bR (tR (tR (bR (tR (rs ?_)))))))))
 have K:=J.pf []
 obtain rfl:_=((a:Nat):Int):=hr.symm.trans (jq (et (h) (et (congrArg (fun q=>eY p1c0 q a) m) (ip l))))
 exact⟨rfl,K,e6⟩
 refine jF (dF l) (Gj (bN (FW ?_)))
 have L:=j.pk [1]
 refine FT (fw (vJ (a+1)) (FV (e:=IntKind.i64.wrap (((a:Nat):Int)+1)) yk f1) (Mz rfl (WL.nil ?_)))
 have M:=L.pf []
 exact F9 (a+1) ⟨rfl,rfl,rfl,rfl,rfl,trivial⟩ (f.2 ⟨M,e6,et (h) (et (congrArg (fun q=>eY p1c0 q a) m) (iN l))⟩) (by show l0.length - (a+1) < l0.length - a; omega)
 refine jF (dF t) (Wp.exit (F4 ?_))
 have y:eY p1c0 l0 0=C1 ():=et (h) (et (congrArg (fun q=>eY p1c0 q a) (eZ (ls:=l0) (i:=a) e6)) rfl)
 refine F4 (Gg (FW (sr (An rfl (rt (rs ?_))))))
 have N:=g.pf []
 obtain rfl:_=(-1):=hr.symm.trans (nS y)
 exact⟨rfl,N,e6⟩
def iw (d:Bool):List Bool→Nat→Unit ⊕ Int
  | [],a=>C1 ()
  | b::c,a=>if d=b then Sum.inr ((a:Nat):Int) else iw d c (a+1)
def nk (l0:List Bool) (a:Bool):Int:=
 lp (iw a l0 0) fun _=>(-1)
theorem su (w:World) (D:Nat→Prop) (n:Option Addr) (t u:Nat) (l0:List Bool) (b:Bool) (s:Int) (H:Own w D w []) (m:Ro w D fun w'=>bD w' 1 n t (q6 eL l0)) (x:t=l0.length) (F:l0.length≤9223372036854775807) (hr:nk l0 b=s):
    Calls y4 128 #[.slice n t u, .bool b] w (dR fun v w'=>v=vI s∧Own w D w' []∧(-1≤s∧s < ((l0.length:Nat):Int))):=by
 subst x
 refine cb Tryz.func128 ?_
 refine sr (An rfl (FU (sr (Mz rfl (Kz (vJ l0.length) (Mn rfl (bo ?_)))))))
 have y:=H.pk []
 obtain⟨z,d⟩:=mX fun(a:Nat) (w':World)=>Own w D w' []∧a≤l0.length∧iw b l0 0=iw b (List.drop a l0) a
 refine Wp.loop (fun i:Nat=> [(4,vI 0),(8,vJ i),(7,vJ l0.length),(0, .slice n l0.length u),(1, .bool b)]) z (fun i=>l0.length - i) 0 ⟨rfl,rfl,rfl,rfl,rfl,trivial⟩ (d.2 ⟨y,e6,rfl⟩) ?_
 rintro a G o
 obtain⟨c,E,f⟩:=d.1 o
 refine sr (Kz (.bool (decide (((a:Nat):Int) < ((l0.length:Nat):Int)))) (nt (FU ?_)))
 by_cases p:((a:Nat):Int) < ((l0.length:Nat):Int)
 obtain⟨g,j⟩:=dK (ls:=l0) (i:=a) oo f3 (c.ro m) e9
 have l:=drop_at j
 refine jT (decide_eq_true p) (sk (FU (bo (sr (Mz rfl (Ar rfl (Mz rfl (Mz rfl (Mz rfl (fw (.pointer (some ⟨ab n,ao n+a *1,none⟩)) (FZ (xA) rfl rfl ((c.ro m).addr (i:=a) e6) e6) (fw (.bool g) (F5 rfl (bZ.one Tryz.isAgg4 (((c.ro m).elem oo j f3).at_ (k:=0) rfl))) (fw (.bool (decide (b=g))) (Gi (e:=(b==g)) yk (by first | exact Bool.beq_eq_decide_eq _ _ | (by_cases q:b=g <;> simp [q]))) (nt ?_)))))))))))))
 by_cases h:b=g
 refine jT (dT h) (sr (Mz rfl (An rfl (rt (bR (tR (tR (bR (tR (rs ?_))))))))))
 have A:=c.pk []
 obtain rfl:_=((a:Nat):Int):=hr.symm.trans (jq (et (f) (et (congrArg (fun q=>iw b q a) l) (ip h))))
 exact⟨rfl,A,e6⟩
 refine jF (dF h) (Gj (bN (FW (FT (fw (vJ (a+1)) (FV (e:=IntKind.i64.wrap (((a:Nat):Int)+1)) yk f1) (Mz rfl (WL.nil ?_)))))))
 have B:=c.pk []
 exact F9 (a+1) ⟨rfl,rfl,rfl,rfl,rfl,trivial⟩ (d.2 ⟨B,e6,et (f) (et (congrArg (fun q=>iw b q a) l) (iN h))⟩) (by show l0.length - (a+1) < l0.length - a; omega)
 refine jF (dF p) (Wp.exit (F4 ?_))
 have r:iw b l0 0=C1 ():=et (f) (et (congrArg (fun q=>iw b q a) (eZ (ls:=l0) (i:=a) e6)) rfl)
 refine F4 (Gg (FW (sr (An rfl (rt (rs ?_))))))
 have C:=c.pk []
 obtain rfl:_=(-1):=hr.symm.trans (nS r)
 exact⟨rfl,C,e6⟩
def mg (l0:List Bool) (b:Bool):Bool:=
 bnd (nk l0 b) fun a=>decide (a ≥ 0)
theorem qV (w:World) (D:Nat→Prop) (i:Option Addr) (j o:Nat) (l0:List Bool) (h:Bool) (p:Bool) (H:Own w D w []) (k:Ro w D fun w'=>bD w' 1 i j (q6 eL l0)) (l:j=l0.length) (s:l0.length≤9223372036854775807) (hr:mg l0 h=p):
    Calls y4 93 #[.slice i j o, .bool h] w (dR fun v w'=>v= .bool p∧Own w D w' []):=by
 subst l
 refine cb Tryz.func93 ?_
 refine sr (Ar rfl (Mz rfl (Mz rfl ?_)))
 obtain⟨a,b⟩:∃ q,nk l0 h=q:=⟨_,rfl⟩
 obtain⟨t,d,e,f,r⟩:=FY H
 refine cl Tryz.call128 (su _ _ i l0.length o l0 h a d (e _ k) rfl e6 b) ?_
 rintro _ u ⟨rfl,g,c⟩
 have m:=f _ _ g
 replace c: -1≤a∧a < ((l0.length:Nat):Int):=c
 refine Kz (.bool (decide (a ≥ 0))) (An rfl (rt (rs ?_)))
 have n:=m.pk []
 obtain rfl:_=decide (a ≥ 0):=hr.symm.trans (ai b)
 exact⟨rfl,n⟩
def jN (i:bH) (k:bQ) (a:aB):bH × aB:=
 bnd (df a.ak.ls k.bi) fun g=>if g.2=true then bnd (C2 a.ak.ls (D2 g.1) default) fun e=>bnd (eQ e.aD.ls k) fun f=>if f < 0 then(i,a) else bnd (C2 e.bE.ls (D2 f) default) fun l=>if l=true then(i,a) else if k.dz=3 then bnd (C2 e.aD.ls (D2 f) default) fun m=>if((k.ah.ls.length:Nat):Int)=((m.aG.ls.length:Nat):Int) then bnd (iO k.ah.ls) fun h=>bnd (mg (u5 e.bE.ls (D2 f) true) false) fun j=>if j=true then(i,aB.mk a.aa a.bI (E4 (u5 a.ak.ls (D2 g.1) (dE.mk e.aX e.aQ e.aF e.dh (E4 e.bS.ls) (E4 e.aD.ls) (E4 (u5 e.bE.ls (D2 f) true)) (E4 (u5 e.ae.ls (D2 f) (E4 h))) e.dO))) a.aR a.aN a.aO a.aP a.aM a.di a.cz a.cK a.cB a.cu) else bnd (jA i g.1 (aB.mk a.aa a.bI (E4 (u5 a.ak.ls (D2 g.1) (dE.mk e.aX e.aQ e.aF e.dh (E4 e.bS.ls) (E4 e.aD.ls) (E4 (u5 e.bE.ls (D2 f) true)) (E4 (u5 e.ae.ls (D2 f) (E4 h))) e.dO))) a.aR a.aN a.aO a.aP a.aM a.di a.cz a.cK a.cB a.cu)) fun b=>(b.1,aB.mk (dC.mk b.2.aa.av b.2.aa.ax b.2.aa.bf b.2.aa.aK (E4 a.aa.ag.ls) (E4 b.2.aa.aj.ls) (E4 b.2.aa.aI.ls)) b.2.bI (E4 b.2.ak.ls) b.2.aR b.2.aN b.2.aO b.2.aP b.2.aM b.2.di b.2.cz b.2.cK b.2.cB b.2.cu) else bnd (eH i g.1 a) fun c=>(c.1,aB.mk (dC.mk c.2.aa.av c.2.aa.ax c.2.aa.bf c.2.aa.aK (E4 a.aa.ag.ls) (E4 a.aa.aj.ls) (E4 a.aa.aI.ls)) c.2.bI (E4 c.2.ak.ls) c.2.aR c.2.aN c.2.aO c.2.aP c.2.aM c.2.di c.2.cz c.2.cK c.2.cB c.2.cu) else bnd (eH i g.1 a) fun d=>(d.1,aB.mk (dC.mk d.2.aa.av d.2.aa.ax d.2.aa.bf d.2.aa.aK (E4 a.aa.ag.ls) (E4 a.aa.aj.ls) (E4 a.aa.aI.ls)) d.2.bI (E4 d.2.ak.ls) d.2.aR d.2.aN d.2.aO d.2.aP d.2.aM d.2.di d.2.cz d.2.cK d.2.cB d.2.cu) else(i,a)
set_option maxHeartbeats 4000000 in
theorem vO (w:World) (D:Nat→Prop) (g0:Nat) (p0:bH) (ae:Option Addr) (ag:Nat) (aa:List bF) (W:bQ) (cO:Option Addr) (fu bM:Nat) (bI:Option Addr) (fA bf:Nat) (bN:List af) (cZ:Option Addr) (fB bP:Nat) (X:Nat) (b:aB) (aH:Option Addr) (aI:Nat) (n:Option Addr) (p:Nat) (z:List aA) (r:Option Addr) (s:Nat) (B:List aZ) (d:Option Addr) (m:Nat) (j:List bA) (J:Option Addr) (K:Nat) (C:List af) (L:Option Addr) (M:Nat) (E:List af) (N:Option Addr) (O:Nat) (F:List af) (P:Option Addr) (Q:Nat) (G:List af) (R:Option Addr) (S:Nat) (I:List af) (r0:bH) (r1:aB) (H:Own w D w [blk g0 [.pointer (some ⟨X,0,none⟩), .slice ae p0.bB.ls.length ag] 98,row ae p0.bB.ls.length ag (q6 bF.cells aa) 42 21,sepL (q6 bF.own aa),blk X [.int .i64 b.aa.av, .int .u64 ((b.aa.ax:Nat):Int), .int .u64 ((b.aa.bf:Nat):Int), .int .u64 ((b.aa.aK:Nat):Int), .slice aH b.aa.ag.ls.length aI, .slice n b.aa.aj.ls.length p, .slice r b.aa.aI.ls.length s, .int .u64 ((b.bI:Nat):Int), .slice d b.ak.ls.length m, .bool b.aR.aT, .int .u64 ((b.aR.aF:Nat):Int), .int .i64 b.aR.bn, .slice J b.aR.ae.ls.length K, .bool b.aN.aT, .int .u64 ((b.aN.aF:Nat):Int), .int .i64 b.aN.bn, .slice L b.aN.ae.ls.length M, .bool b.aO.aT, .int .u64 ((b.aO.aF:Nat):Int), .int .i64 b.aO.bn, .slice N b.aO.ae.ls.length O, .bool b.aP.aT, .int .u64 ((b.aP.aF:Nat):Int), .int .i64 b.aP.bn, .slice P b.aP.ae.ls.length Q, .bool b.aM.aT, .int .u64 ((b.aM.aF:Nat):Int), .int .i64 b.aM.bn, .slice R b.aM.ae.ls.length S, .int .u64 ((b.di:Nat):Int), .int .u64 ((b.cz:Nat):Int), .int .u64 ((b.cK:Nat):Int), .int .u64 ((b.cB:Nat):Int), .int .u64 ((b.cu:Nat):Int), .pointer none] 86,row n b.aa.aj.ls.length p (q6 aA.cells z) 60 5,sepL (q6 aA.own z),row r b.aa.aI.ls.length s (q6 aZ.cells B) 56 4,sepL (q6 aZ.own B),row d b.ak.ls.length m (q6 bA.cells j) 107 9,sepL (q6 bA.own j),row J b.aR.ae.ls.length K (q6 af.cells C) 149 3,sepL (q6 af.own C),row L b.aN.ae.ls.length M (q6 af.cells E) 149 3,sepL (q6 af.own E),row N b.aO.ae.ls.length O (q6 af.cells F) 149 3,sepL (q6 af.own F),row P b.aP.ae.ls.length Q (q6 af.cells G) 149 3,sepL (q6 af.own G),row R b.aM.ae.ls.length S (q6 af.cells I) 149 3,sepL (q6 af.own I)]) (aK:s8 bF.abs aa=p0.bB.ls) (fT:fu=W.aG.ls.length) (fU:Ro w D fun w'=>bD w' 6 cO W.aG.ls.length (q6 bC.cells W.aG.ls)) (l7:W.aG.ls.length≤bM∧W.aG.ls.length≤9223372036854775807) (bX:s8 af.abs bN=W.ah.ls) (fV:fA=W.ah.ls.length) (dx:Ro w D fun w'=>bD w' 3 bI W.ah.ls.length (q6 af.cells bN)) (l8:W.ah.ls.length≤bf∧W.ah.ls.length≤9223372036854775807) (bK:∀ x ∈ bN,Ro w D (fun w'=>bD w' 2 x.au.A x.au.ls.length (q6 aL.cells x.au.ls))∧(x.au.ls.length≤x.au.c∧x.au.ls.length≤9223372036854775807)) (fZ:fB=W.ag.ls.length) (gp:Ro w D fun w'=>bD w' 2 cZ W.ag.ls.length (q6 bv.cells W.ag.ls)) (l9:W.ag.ls.length≤bP∧W.ag.ls.length≤9223372036854775807) (ah:s8 aA.abs z=b.aa.aj.ls) (aj:s8 aZ.abs B=b.aa.aI.ls) (U:s8 bA.abs j=b.ak.ls) (ak:s8 af.abs C=b.aR.ae.ls) (au:s8 af.abs E=b.aN.ae.ls) (av:s8 af.abs F=b.aO.ae.ls) (ax:s8 af.abs G=b.aP.ae.ls) (aC:s8 af.abs I=b.aM.ae.ls) (qE:b.aa.ag.ls.length≤1000∧b.aa.aj.ls.length≤1000∧b.aa.aI.ls.length≤1000∧b.ak.ls.length≤1000∧p0.bB.ls.length≤100000) (qF:Ak b.ak.ls) (qG:W.aG.ls.length≤24∧W.ag.ls.length≤1000∧W.ah.ls.length≤1000∧jZ W.aU) (qH:mR W.ah.ls) (hr:jN p0 W b=(r0,r1)):
    Calls y4 57 #[vP g0 0, .agg (gD W.aH W.aJ W.eO W.aS W.dz W.eu W.aU W.ax W.bi W.dW W.bf W.aK W.dI W.cZ W.xN W.d9 W.bV.bK W.bV.bW cO fu bM bI fA bf cZ fB bP).toArray] w (dR fun v w'=> ∃ (B0ox0:Option Addr) (b0ox0:Nat) (e0ox0:List bF) (B1ox1:Option Addr) (b1ox1:Nat) (e1ox1:List aA) (B1ox2:Option Addr) (b1ox2:Nat) (e1ox2:List aZ) (B1ox3:Option Addr) (b1ox3:Nat) (e1ox3:List bA) (B1ox4:Option Addr) (b1ox4:Nat) (e1ox4:List af) (B1ox5:Option Addr) (b1ox5:Nat) (e1ox5:List af) (B1ox6:Option Addr) (b1ox6:Nat) (e1ox6:List af) (B1ox7:Option Addr) (b1ox7:Nat) (e1ox7:List af) (B1ox8:Option Addr) (b1ox8:Nat) (e1ox8:List af),v= .tuple #[]∧Own w D w' [blk g0 [vP X 0, .slice B0ox0 r0.bB.ls.length b0ox0] 98,row B0ox0 r0.bB.ls.length b0ox0 (q6 bF.cells e0ox0) 42 21,sepL (q6 bF.own e0ox0),blk X [vI r1.aa.av,vU r1.aa.ax,vU r1.aa.bf,vU r1.aa.aK, .slice aH b.aa.ag.ls.length aI, .slice B1ox1 r1.aa.aj.ls.length b1ox1, .slice B1ox2 r1.aa.aI.ls.length b1ox2,vU r1.bI, .slice B1ox3 r1.ak.ls.length b1ox3, .bool r1.aR.aT,vU r1.aR.aF,vI r1.aR.bn, .slice B1ox4 r1.aR.ae.ls.length b1ox4, .bool r1.aN.aT,vU r1.aN.aF,vI r1.aN.bn, .slice B1ox5 r1.aN.ae.ls.length b1ox5, .bool r1.aO.aT,vU r1.aO.aF,vI r1.aO.bn, .slice B1ox6 r1.aO.ae.ls.length b1ox6, .bool r1.aP.aT,vU r1.aP.aF,vI r1.aP.bn, .slice B1ox7 r1.aP.ae.ls.length b1ox7, .bool r1.aM.aT,vU r1.aM.aF,vI r1.aM.bn, .slice B1ox8 r1.aM.ae.ls.length b1ox8,vU r1.di,vU r1.cz,vU r1.cK,vU r1.cB,vU r1.cu, .pointer none] 86,row B1ox1 r1.aa.aj.ls.length b1ox1 (q6 aA.cells e1ox1) 60 5,sepL (q6 aA.own e1ox1),row B1ox2 r1.aa.aI.ls.length b1ox2 (q6 aZ.cells e1ox2) 56 4,sepL (q6 aZ.own e1ox2),row B1ox3 r1.ak.ls.length b1ox3 (q6 bA.cells e1ox3) 107 9,sepL (q6 bA.own e1ox3),row B1ox4 r1.aR.ae.ls.length b1ox4 (q6 af.cells e1ox4) 149 3,sepL (q6 af.own e1ox4),row B1ox5 r1.aN.ae.ls.length b1ox5 (q6 af.cells e1ox5) 149 3,sepL (q6 af.own e1ox5),row B1ox6 r1.aO.ae.ls.length b1ox6 (q6 af.cells e1ox6) 149 3,sepL (q6 af.own e1ox6),row B1ox7 r1.aP.ae.ls.length b1ox7 (q6 af.cells e1ox7) 149 3,sepL (q6 af.own e1ox7),row B1ox8 r1.aM.ae.ls.length b1ox8 (q6 af.cells e1ox8) 149 3,sepL (q6 af.own e1ox8)]∧(s8 bF.abs e0ox0=r0.bB.ls)∧(s8 aA.abs e1ox1=r1.aa.aj.ls)∧(s8 aZ.abs e1ox2=r1.aa.aI.ls)∧(s8 bA.abs e1ox3=r1.ak.ls)∧(s8 af.abs e1ox4=r1.aR.ae.ls)∧(s8 af.abs e1ox5=r1.aN.ae.ls)∧(s8 af.abs e1ox6=r1.aO.ae.ls)∧(s8 af.abs e1ox7=r1.aP.ae.ls)∧(s8 af.abs e1ox8=r1.aM.ae.ls)):=by
 subst fT fV fZ
 have l5:=az aK
 have l6:=az bX
 have gY:=az ah
 have gZ:=az aj
 have ib:=az U
 have ic:=az ak
 have ig:=az au
 have ik:=az av
 have il:=az ax
 have iq:=az aC
 have ma:=H.rowC (i:=1) rfl
 have iw:=H.rowC (i:=4) rfl
 have iy:=H.rowC (i:=6) rfl
 have iA:=H.rowC (i:=8) rfl
 have iC:=H.rowC (i:=10) rfl
 have iD:=H.rowC (i:=12) rfl
 have iE:=H.rowC (i:=14) rfl
 have iG:=H.rowC (i:=16) rfl
 have iH:=H.rowC (i:=18) rfl
 refine cb Tryz.func57 ?_
 refine sr ?_
 refine dM (gT W cO bM bI bf cZ bP) 42 H ?_
 intro dm qI mf
 refine nt (FU ?_)
 refine xx [] (F8 Gh) mf ?_
 intro qJ bE
 refine qv 0 rfl rfl (qp g0 0 1 rfl (qp g0 0 2 rfl (ql 3 rfl 1 Tryz.isAgg24 rfl rfl rfl (qp dm 8 4 rfl (ql 5 rfl 0 Tryz.isAgg28 rfl rfl rfl ?_)))))
 refine GX.do 6 rfl e7 (Gd Tryz.call62 rfl ?_ (fun _ _ k=>k))
 refine cb Tryz.func62 ?_
 refine sr (Az rfl (Ar rfl (Mz rfl (Kz (vP X 0) (Kz (vP X 8) (Lz (.slice d b.ak.ls.length m) bE 4 Tryz.isAgg79 (Mz rfl ?_)))))))
 obtain⟨⟨h,bR⟩,aS⟩:∃ q:Int × Bool,df b.ak.ls W.bi=q:=⟨_,rfl⟩
 obtain⟨qK,iI,o9,iJ,aP⟩:=FY bE
 refine cl Tryz.call102 (iF _ _ d b.ak.ls.length m j b.ak.ls W.bi h bR iI U (aP _ 9 _ rfl aV) (fun x9 h9=>⟨aP _ 10 _ rfl (ay (P3.2 ⟨x9,h9,b1⟩) aV),bz (φ:=fun _=>_) bE (i:=10) rfl (ay (P3.2 ⟨x9,h9,b1⟩) bq),aP _ 10 _ rfl (ay (P3.2 ⟨x9,h9, .tail _ b1⟩) aV),bz (φ:=fun _=>_) bE (i:=10) rfl (ay (P3.2 ⟨x9,h9, .tail _ b1⟩) bq),(fun y1 k1=>⟨aP _ 10 _ rfl (ay (P3.2 ⟨x9,h9, .tail _ b4⟩) (ay (P3.2 ⟨y1,k1,b1⟩) aV)),bz (φ:=fun _=>_) bE (i:=10) rfl (ay (P3.2 ⟨x9,h9, .tail _ b4⟩) (ay (P3.2 ⟨y1,k1,b1⟩) bq)),aP _ 10 _ rfl (ay (P3.2 ⟨x9,h9, .tail _ b4⟩) (ay (P3.2 ⟨y1,k1, .tail _ b1⟩) aV)),bz (φ:=fun _=>_) bE (i:=10) rfl (ay (P3.2 ⟨x9,h9, .tail _ b4⟩) (ay (P3.2 ⟨y1,k1, .tail _ b1⟩) bq))⟩),aP _ 10 _ rfl (ay (P3.2 ⟨x9,h9, .tail _ b2⟩) aV),bz (φ:=fun _=>_) bE (i:=10) rfl (ay (P3.2 ⟨x9,h9, .tail _ b2⟩) bq),aP _ 10 _ rfl (ay (P3.2 ⟨x9,h9, .tail _ b3⟩) aV),bz (φ:=fun _=>_) bE (i:=10) rfl (ay (P3.2 ⟨x9,h9, .tail _ b3⟩) bq),(fun y1 k1=>⟨aP _ 10 _ rfl (ay (P3.2 ⟨x9,h9, .tail _ b5⟩) (ay (P3.2 ⟨y1,k1,b1⟩) aV)),bz (φ:=fun _=>_) bE (i:=10) rfl (ay (P3.2 ⟨x9,h9, .tail _ b5⟩) (ay (P3.2 ⟨y1,k1,b1⟩) bq)),(fun y2 k2=>⟨aP _ 10 _ rfl (ay (P3.2 ⟨x9,h9, .tail _ b5⟩) (ay (P3.2 ⟨y1,k1, .tail _ b1⟩) (ay (P3.2 ⟨y2,k2,b1⟩) aV))),bz (φ:=fun _=>_) bE (i:=10) rfl (ay (P3.2 ⟨x9,h9, .tail _ b5⟩) (ay (P3.2 ⟨y1,k1, .tail _ b1⟩) (ay (P3.2 ⟨y2,k2,b1⟩) bq)))⟩)⟩)⟩) rfl e6 aS) ?_
 rintro _ qL ⟨rfl,iL,fC,fD⟩
 have bg:=iJ _ _ iL
 replace fC:0≤h∧h≤((b.ak.ls.length:Nat):Int):=fC
 replace fD:Bool.toNat bR=0∨h < ((b.ak.ls.length:Nat):Int):=fD
 refine Kz (vI h) (Kz (.bool bR) (Az rfl (An rfl (rt (Fin.res (lY rfl rfl rfl) ?_)))))
 refine⟨.inr ⟨_,bg⟩, ?_⟩
 refine qv 7 rfl rfl (qk (vI h) 8 rfl (qk (.bool bR) 9 rfl (qa 10 rfl rfl (qa 11 rfl rfl (qn (FW (FU (sr (Mz rfl (Kz (.bool (!bR)) (nt ?_)))))))))))
 rcases JQ (bR) with aX | aX
 have h39t:Bool.toNat bR=1:=by rw [aX]; rfl
 refine jF (cn aX) (sk (sr (Mz rfl (Kz (vP g0 0) (Kz (vP g0 0) (Lz (vP X 0) bg 1 Tryz.isAgg24 (Kz (vP X 0) (Kz (vP X 8) (Lz (.slice d b.ak.ls.length m) bg 4 Tryz.isAgg79 (fw (vJ (D2 h)) (FV (e:=h) (F7 rfl) e6) ?_))))))))))
 obtain⟨a,l⟩:=dK (ls:=j) (i:=D2 h) bA.len f3 (bg.rds (i:=9) rfl) e9
 have bi:=fo U l
 have pu:a.bS.ls.length≤a.bS.c∧a.bS.ls.length≤9223372036854775807:=bz bg (i:=10) rfl (φ:=fun _=>_) (ay (P3.2 ⟨a,E0 l,b1⟩) bq)
 have pz:a.aD.ls.length≤a.aD.c∧a.aD.ls.length≤9223372036854775807:=bz bg (i:=10) rfl (φ:=fun _=>_) (ay (P3.2 ⟨a,E0 l, .tail _ b1⟩) bq)
 have pE:a.bE.ls.length≤a.bE.c∧a.bE.ls.length≤9223372036854775807:=bz bg (i:=10) rfl (φ:=fun _=>_) (ay (P3.2 ⟨a,E0 l, .tail _ b2⟩) bq)
 have pF:a.ae.ls.length≤a.ae.c∧a.ae.ls.length≤9223372036854775807:=bz bg (i:=10) rfl (φ:=fun _=>_) (ay (P3.2 ⟨a,E0 l, .tail _ b3⟩) bq)
 have aM:Tok (bA.abs a):=xM f8 bi
 have pG:1≤a.aQ∧a.aQ≤4:=aM.Aq
 have pI:a.bE.ls.length=a.aD.ls.length:=by have q9:=aM.yes; simp only [bA.abs,s6] at q9; exact q9
 have pJ:a.ae.ls.length=a.aD.ls.length:=by have q9:=aM.res; simp only [bA.abs,s6] at q9; exact q9
 have pK:a.aD.ls.length≤5:=by have q9:=aM.len; simp only [bA.abs,s6] at q9; exact q9
 have pM:a.bS.ls.length≤24:=aM.ops.1
 refine fw (.pointer (some ⟨ab d,ao d+(D2 h) *9,none⟩)) (FZ (pg) rfl rfl ((bg.rds (i:=9) rfl).addr (i:=D2 h) e6) e6) (Ar rfl ?_)
 have mh:=bg.pf [10]
 have dn:=Iw (f:=bA.own) (i:=D2 h) (row a.bS.A a.bS.ls.length a.bS.c (q6 bC.cells a.bS.ls) 72 6) (row a.aD.A a.aD.ls.length a.aD.c (q6 bG.cells a.aD.ls) 172 3) (row a.bE.A a.bE.ls.length a.bE.c (q6 eL a.bE.ls) 4 1) (row a.ae.A a.ae.ls.length a.ae.c (q6 (Gy (β:=af)) a.ae.ls) 40 1) (sepL (q6 bG.own a.aD.ls)) (sepL (q6 bO.own a.ae.ls)) rfl l mh
 have pO:=dn.rowC (i:=0) rfl
 have pQ:=dn.rowC (i:=1) rfl
 have pR:a.aD.ls.length=s2 (s8 bG.abs a.aD.ls):=az (rfl:s8 bG.abs a.aD.ls=s8 bG.abs a.aD.ls)
 have pU:=dn.rowC (i:=2) rfl
 have pV:=dn.rowC (i:=3) rfl
 have pW:a.ae.ls.length=s2 (s8 bO.abs a.ae.ls):=az (rfl:s8 bO.abs a.ae.ls=s8 bO.abs a.ae.ls)
 refine Mz rfl (Kz (.pointer (some ⟨ab d,ao d+(D2 h) *9,none⟩)) (Kz (.pointer (some ⟨ab d,ao d+(D2 h) *9+5,none⟩)) (fw (.slice a.aD.A a.aD.ls.length a.aD.c) (F5 rfl (bZ.one Tryz.isAgg103 (((dn.rds (i:=16) rfl).elem bA.len l f3).at_ (k:=5) rfl))) (Kz (.func (.func 92) #[] #[vP dm 0]) ?_))))
 have gq:=dn.pf [7]
 have pX:a.aD.ls.length=s2 (s8 bG.abs a.aD.ls):=f0
 obtain⟨g,bn⟩:∃ q,eQ (s8 bG.abs a.aD.ls) W=q:=⟨_,rfl⟩
 obtain⟨qM,iM,dh,iP,dz⟩:=Gn gq
 refine cl Tryz.call91 (nO _ _ a.aD.A a.aD.ls.length a.aD.c a.aD.ls (s8 bG.abs a.aD.ls) dm W cO bM bI bf bN cZ bP g iM (rfl:s8 bG.abs a.aD.ls=s8 bG.abs a.aD.ls) (dz _ 1 _ rfl aV) (fun x9 h9=>⟨dz _ 4 _ rfl (ay (P3.2 ⟨x9,h9,b1⟩) aV),bz (φ:=fun _=>_) gq (i:=5) rfl (ay (P3.2 ⟨x9,h9,b1⟩) bq),dz _ 4 _ rfl (ay (P3.2 ⟨x9,h9, .tail _ b1⟩) aV),bz (φ:=fun _=>_) gq (i:=5) rfl (ay (P3.2 ⟨x9,h9, .tail _ b1⟩) bq)⟩) f0 g4 (dh _ fU) (show W.aG.ls.length≤bM∧W.aG.ls.length≤9223372036854775807 from by omega) bX (dh _ dx) (show W.ah.ls.length≤bf∧W.ah.ls.length≤9223372036854775807 from by omega) (fun x9 h9=>⟨dh _ (bK x9 h9).1,(bK x9 h9).2⟩) (dh _ gp) (show W.ag.ls.length≤bP∧W.ag.ls.length≤9223372036854775807 from by omega) bn) ?_
 rintro _ qN ⟨rfl,iQ,fF⟩
 have bY:=iP _ _ iQ
 replace fF: -1≤g∧g < ((s2 (s8 bG.abs a.aD.ls):Nat):Int):=fF
 refine An rfl (FU (sr (Mz rfl (Kz (.bool (decide (g < 0))) (Mz rfl ?_)))))
 by_cases aJ:g < 0
 refine Sz (dT aJ) (Sz (dT aJ) (Sz (dT aJ) (Sz (dT aJ) (Sz (dT aJ) (Sz (dT aJ) (Sz (dT aJ) (fw (.bool true) (Gb rfl (dT aJ) rfl) (nt (jt (rt (tR (Fin.res (res0 rfl) ?_))))))))))))
 have mi:=bY.pf [1,2,3,4,5,6,7]
 have dA:=qO (f:=bA.own) l mi
 have pY:a.bS.ls.length≤a.bS.c∧a.bS.ls.length≤9223372036854775807:=bz dA (i:=0) rfl (φ:=fun _=>_) (ay (P3.2 ⟨a,E0 l,b1⟩) bq)
 have p8:a.aD.ls.length≤a.aD.c∧a.aD.ls.length≤9223372036854775807:=bz dA (i:=0) rfl (φ:=fun _=>_) (ay (P3.2 ⟨a,E0 l, .tail _ b1⟩) bq)
 have qb:a.bE.ls.length≤a.bE.c∧a.bE.ls.length≤9223372036854775807:=bz dA (i:=0) rfl (φ:=fun _=>_) (ay (P3.2 ⟨a,E0 l, .tail _ b2⟩) bq)
 have qc:a.ae.ls.length≤a.ae.c∧a.ae.ls.length≤9223372036854775807:=bz dA (i:=0) rfl (φ:=fun _=>_) (ay (P3.2 ⟨a,E0 l, .tail _ b3⟩) bq)
 have mo:=dA.px [2,3,4,5,6,7,8,9,10] [1] []
 obtain⟨rfl,rfl⟩:=gm (hr.symm.trans (show _=(p0,b) from et (ai aS) (et (ip aX) (et (ai (bJ bi)) (et (ai bn) (ip aJ))))))
 exact⟨ae,ag,aa,n,p,z,r,s,B,d,m,j,J,K,C,L,M,E,N,O,F,P,Q,G,R,S,I,rfl,mo,aK,ah,aj,U,ak,au,av,ax,aC⟩
 refine gw (.pointer (some ⟨ab d,ao d+(D2 h) *9,none⟩)) (dF aJ) (F7 rfl) (Gz (.pointer (some ⟨ab d,ao d+(D2 h) *9,none⟩)) (dF aJ) (Gz (.pointer (some ⟨ab d,ao d+(D2 h) *9+6,none⟩)) (dF aJ) (gw (.slice a.bE.A a.bE.ls.length a.bE.c) (dF aJ) (F5 rfl (bZ.one P6 (((bY.rds (i:=16) rfl).elem bA.len l f3).at_ (k:=6) rfl))) (gw (vJ (D2 g)) (dF aJ) (FV (e:=g) (F7 rfl) e6) ?_))))
 obtain⟨gu,aT⟩:=dK (ls:=a.bE.ls) (i:=D2 g) oo f3 (bY.rds (i:=3) rfl) e9
 refine gw (.pointer (some ⟨ab a.bE.A,ao a.bE.A+(D2 g) *1,none⟩)) (dF aJ) (FZ (xA) rfl rfl ((bY.rds (i:=3) rfl).addr (i:=D2 g) e6) e6) (gw (.bool gu) (dF aJ) (F5 rfl (bZ.one Tryz.isAgg4 (((bY.rds (i:=3) rfl).elem oo aT f3).at_ (k:=0) rfl))) (fw (.bool gu) (FX rfl (dF aJ) rfl) (nt ?_)))
 rcases JQ (gu) with bS | bS
 refine jT bS (rt (tR (Fin.res (res0 rfl) ?_)))
 have mq:=bY.pf [1,2,3,4,5,6,7]
 have dB:=qO (f:=bA.own) l mq
 have qf:a.bS.ls.length≤a.bS.c∧a.bS.ls.length≤9223372036854775807:=bz dB (i:=0) rfl (φ:=fun _=>_) (ay (P3.2 ⟨a,E0 l,b1⟩) bq)
 have qg:a.aD.ls.length≤a.aD.c∧a.aD.ls.length≤9223372036854775807:=bz dB (i:=0) rfl (φ:=fun _=>_) (ay (P3.2 ⟨a,E0 l, .tail _ b1⟩) bq)
 have qh:a.bE.ls.length≤a.bE.c∧a.bE.ls.length≤9223372036854775807:=bz dB (i:=0) rfl (φ:=fun _=>_) (ay (P3.2 ⟨a,E0 l, .tail _ b2⟩) bq)
 have qi:a.ae.ls.length≤a.ae.c∧a.ae.ls.length≤9223372036854775807:=bz dB (i:=0) rfl (φ:=fun _=>_) (ay (P3.2 ⟨a,E0 l, .tail _ b3⟩) bq)
 have mr:=dB.px [2,3,4,5,6,7,8,9,10] [1] []
 obtain⟨rfl,rfl⟩:=gm (hr.symm.trans (show _=(p0,b) from et (ai aS) (et (ip aX) (et (ai (bJ bi)) (et (ai bn) (et (iN aJ) (et (ai (bJ aT)) (ip bS))))))))
 exact⟨ae,ag,aa,n,p,z,r,s,B,d,m,j,J,K,C,L,M,E,N,O,F,P,Q,G,R,S,I,rfl,mr,aK,ah,aj,U,ak,au,av,ax,aC⟩
 refine jF bS (sk (FU (FU ?_)))
 refine oJ 27 [] (F8 (F8 Gh)) bY ?_
 intro qP gy
 refine qp dm 4 0 rfl (ql 1 rfl 0 C6 rfl rfl rfl (qt (v:= .bool (decide (¬ (W.dz=3)))) 2 rfl (fun _ _=>Gi (e:= !(decide (W.dz=3))) yk decide_not.symm) (qv 3 rfl rfl ?_)))
 by_cases V:W.dz=3
 refine F6 (v:=vP dm 19) (rs:= []) 4 rfl rfl rfl (dF (JP V)) e7 (fun _ _=>yk) (F6 (v:= .slice bI W.ah.ls.length bf) (rs:= []) 5 rfl rfl rfl (dF (JP V)) e7 (fun _ ⟨_,H9⟩=>F5 rfl (bZ.one Tryz.isAgg40 (jL.of (H9.cls (i:=0) rfl) rfl))) (F6 (v:=vJ W.ah.ls.length) (rs:= []) 6 rfl rfl rfl (dF (JP V)) e7 (fun _ _=>yk) (F6 (v:= .pointer (some ⟨ab d,ao d+(D2 h) *9,none⟩)) (rs:= []) 7 rfl rfl rfl (dF (JP V)) e7 (fun _ _=>F7 rfl) (F6 (v:= .pointer (some ⟨ab d,ao d+(D2 h) *9,none⟩)) (rs:= []) 8 rfl rfl rfl (dF (JP V)) e7 (fun _ _=>yk) (F6 (v:= .pointer (some ⟨ab d,ao d+(D2 h) *9+5,none⟩)) (rs:= []) 9 rfl rfl rfl (dF (JP V)) e7 (fun _ _=>yk) (F6 (v:= .slice a.aD.A a.aD.ls.length a.aD.c) (rs:= []) 10 rfl rfl rfl (dF (JP V)) e7 (fun _ ⟨_,H9⟩=>F5 rfl (bZ.one Tryz.isAgg103 (((H9.rds (i:=16) rfl).elem bA.len l f3).at_ (k:=5) rfl))) (F6 (v:=vJ (D2 g)) (rs:= []) 11 rfl rfl rfl (dF (JP V)) e7 (fun _ _=>FV (e:=g) (F7 rfl) e6) ?_)))))))
 obtain⟨bT,fG⟩:=jo (ls:=a.aD.ls) (i:=D2 g) e9
 have dD:=fo (rfl:s8 bG.abs a.aD.ls=s8 bG.abs a.aD.ls) fG
 refine F6 (v:= .pointer (some ⟨ab a.aD.A,ao a.aD.A+(D2 g) *3,none⟩)) (rs:= []) 12 rfl rfl rfl (dF (JP V)) e7 (fun _ ⟨_,H9⟩=>FZ (tH) rfl rfl ((H9.rds (i:=2) rfl).addr (i:=D2 g) e6) e6) (F6 (v:= .pointer (some ⟨ab a.aD.A,ao a.aD.A+(D2 g) *3+1,none⟩)) (rs:= []) 13 rfl rfl rfl (dF (JP V)) e7 (fun _ _=>yk) (F6 (v:= .slice bT.aG.A bT.aG.ls.length bT.aG.c) (rs:= []) 14 rfl rfl rfl (dF (JP V)) e7 (fun _ ⟨_,H9⟩=>F5 rfl (bZ.one Tryz.isAgg39 (((H9.rds (i:=2) rfl).elem bG.len fG f3).at_ (k:=1) rfl))) (F6 (v:=vJ bT.aG.ls.length) (rs:= []) 15 rfl rfl rfl (dF (JP V)) e7 (fun _ _=>yk) (F6 (v:= .bool (decide (¬ (((W.ah.ls.length:Nat):Int)=((bT.aG.ls.length:Nat):Int))))) (rs:= []) 16 rfl rfl rfl (dF (JP V)) e7 (fun _ _=>Gi (e:= !(decide (((W.ah.ls.length:Nat):Int)=((bT.aG.ls.length:Nat):Int)))) yk decide_not.symm) (qt (v:= .bool (decide (¬ (((W.ah.ls.length:Nat):Int)=((bT.aG.ls.length:Nat):Int))))) 17 rfl (fun _ _=>FX rfl (dF (JP V)) rfl) (qn (FW ?_)))))))
 by_cases dH:((W.ah.ls.length:Nat):Int)=((bT.aG.ls.length:Nat):Int)
 refine jF (dF (JP dH)) (sk (FU ?_))
 refine oJ 27 [14,16] (F8 Gh) gy ?_
 intro qQ iR
 refine qv 0 rfl rfl (qk (.pointer (some ⟨ab d,ao d+(D2 h) *9,none⟩)) 1 rfl (qk (.pointer (some ⟨ab d,ao d+(D2 h) *9+6,none⟩)) 2 rfl (qt (v:= .slice a.bE.A a.bE.ls.length a.bE.c) 3 rfl (fun _ ⟨_,H9⟩=>F5 rfl (bZ.one P6 (((H9.rds (i:=16) rfl).elem bA.len l f3).at_ (k:=6) rfl))) (qt (v:=vJ (D2 g)) 4 rfl (fun _ _=>FV (e:=g) (F7 rfl) e6) (qv 5 rfl rfl (qk (.pointer (some ⟨ab d,ao d+(D2 h) *9,none⟩)) 6 rfl (qk (.pointer (some ⟨ab d,ao d+(D2 h) *9+7,none⟩)) 7 rfl (qt (v:= .slice a.ae.A a.ae.ls.length a.ae.c) 8 rfl (fun _ ⟨_,H9⟩=>F5 rfl (bZ.one Tryz.isAgg105 (((H9.rds (i:=16) rfl).elem bA.len l f3).at_ (k:=7) rfl))) (Gs (v:=vJ (D2 g)) 9 rfl e7 (fun _=>FV (e:=g) (F7 rfl) e6) (qp dm 19 10 rfl (ql 11 rfl 0 Tryz.isAgg40 rfl rfl rfl ?_)))))))))))
 obtain⟨Y,bL⟩:∃ q,iO W.ah.ls=q:=⟨_,rfl⟩
 obtain⟨qj,gz,dI,gF,mD⟩:=FY iR
 refine qd 12 rfl (Gd Tryz.call48 rfl (lV _ _ bI W.ah.ls.length bf bN W.ah.ls Y gz bX (dI _ dx) (fun x9 h9=>⟨dI _ (bK x9 h9).1,(bK x9 h9).2⟩) rfl e6 (by first | assumption | exact dG f4 | (intro x hx; exact absurd hx List.not_mem_nil)) bL) ?_)
 rintro _ qm ⟨t,u,T,rfl,gG,aN⟩
 have fH:=gF _ _ gG
 have mE:=az aN
 have mF:=fH.rowC (i:=0) rfl
 have mG:mR Y:=by rw [← bL]; show mR W.ah.ls; assumption
 have fI:=fH.pb [0,1]
 refine⟨.inr ⟨_,fI⟩, ?_⟩
 refine qt (v:= .pointer (some ⟨ab a.bE.A,ao a.bE.A+(D2 g) *1,none⟩)) 13 rfl (fun _ ⟨_,H9⟩=>FZ (xA) rfl rfl ((H9.rds (i:=3) rfl).addr (i:=D2 g) e6) e6) ?_
 have iT:=fI.pf [3]
 refine qe 14 rfl (Do.storeRow (vs:= [.bool true]) (o:=(D2 g) *1+0) (q:=ao a.bE.A+(D2 g) *1) iT rfl e6 rfl Tryz.sizeOf4 rfl rfl (JM rfl) (iK oo aT (JM rfl)) (jE (y:=true) oo rfl (JM rfl) aT) ?_)
 intro qo fJ
 refine⟨.inl e7, ?_⟩
 obtain⟨bu,bB⟩:=jo (ls:=a.ae.ls) (i:=D2 g) e9
 have mH:=fo (rfl:s8 bO.abs a.ae.ls=s8 bO.abs a.ae.ls) bB
 refine Gs (v:= .pointer (some ⟨ab a.ae.A,ao a.ae.A+(D2 g) *1,none⟩)) 15 rfl e7 (fun _=>FZ (wm) rfl rfl ((fJ.rds (i:=4) rfl).addr (i:=D2 g) e6) e6) ?_
 have iU:=fJ.pf [6]
 have iV:=Iu (f:=bO.own) (i:=D2 g) (row bu.A bu.ls.length bu.c (q6 af.cells bu.ls) 149 3) (sepL (q6 af.own bu.ls)) rfl bB iU
 have iW:=iV.px [] [0,1] []
 have iX:=iW.pf [27,28]
 have iY:=GG (az aN).symm iX
 have iZ:=GJ (f:=bO.own) (y:=(H5 t u T)) bB iY
 have ja:=iZ.pf [5]
 refine qe 16 rfl (Do.storeRow (vs:= [.slice t Y.length u]) (o:=(D2 g) *1+0) (q:=ao a.ae.A+(D2 g) *1) ja rfl e6 rfl Tryz.sizeOf40 rfl rfl (JM rfl) (iK qZ bB (JM rfl)) (jE (x:=bu) (f:=0) (vs:= [.slice t Y.length u]) (y:=(H5 t u T)) qZ (show put ((Gy (β:=af)) bu) 0 ([.slice t Y.length u]:List Value)=(Gy (β:=af)) (H5 t u T) from congrArg (fun z9=>([.slice t z9 u]:List Value)) (az aN).symm) (JM rfl) bB) ?_)
 intro qw jb
 have mJ:s2 (u5 a.ae.ls (D2 g) (H5 t u T))=s2 (u5 (s8 bO.abs a.ae.ls) (D2 g) (E4 Y)):=az (iB (rfl:s8 bO.abs a.ae.ls=s8 bO.abs a.ae.ls) (congrArg E4 aN))
 have mK:s2 (u5 (s8 bO.abs a.ae.ls) (D2 g) (E4 Y))=s2 (s8 bO.abs a.ae.ls):=H6
 refine⟨.inl e7, ?_⟩
 refine qn (FW (FU ?_))
 have fK:=jb.px [] [3] []
 refine FT (Mz rfl (Kz (.pointer (some ⟨ab d,ao d+(D2 h) *9,none⟩)) (Kz (.pointer (some ⟨ab d,ao d+(D2 h) *9+6,none⟩)) (fw (.slice a.bE.A a.bE.ls.length a.bE.c) (F5 rfl (bZ.one P6 (((fK.rds (i:=15) rfl).elem bA.len l f3).at_ (k:=6) rfl))) ?_))))
 have mM:a.bE.ls.length=s2 (u5 a.bE.ls (D2 g) true):=f0
 obtain⟨dJ,cu⟩:∃ q,mg (u5 a.bE.ls (D2 g) true) false=q:=⟨_,rfl⟩
 obtain⟨qx,gH,mO,gI,gJ⟩:=FY fK
 refine cl Tryz.call93 (qV _ _ a.bE.A a.bE.ls.length a.bE.c (u5 a.bE.ls (D2 g) true) false dJ gH (gJ _ 2 _ rfl aV) f0 g4 cu) ?_
 rintro _ di ⟨rfl,gK⟩
 have fM:=gI _ _ gK
 refine Kz (.bool (!dJ)) (nt ?_)
 rcases JQ (dJ) with bU | bU
 refine jF (cn bU) (Gj (Gf (res0 rfl) ?_))
 have jc:=fM.pf [2]
 have jd:=Gq (y:=row a.bE.A (s2 (u5 a.bE.ls (D2 g) true)) a.bE.c (q6 eL (u5 a.bE.ls (D2 g) true)) 4 1) (congrArg (fun z9=>row a.bE.A z9 a.bE.c (q6 eL (u5 a.bE.ls (D2 g) true)) 4 1) (by simp only [H6]:a.bE.ls.length=s2 (u5 a.bE.ls (D2 g) true))) jc
 have je:=jd.pf [1]
 have jf:=Gq (y:=row a.ae.A (s2 (u5 a.ae.ls (D2 g) (H5 t u T))) a.ae.c (q6 (Gy (β:=af)) (u5 a.ae.ls (D2 g) (H5 t u T))) 40 1) (congrArg (fun z9=>row a.ae.A z9 a.ae.c (q6 (Gy (β:=af)) (u5 a.ae.ls (D2 g) (H5 t u T))) 40 1) (by simp only [H6]:a.ae.ls.length=s2 (u5 a.ae.ls (D2 g) (H5 t u T)))) je
 have jg:=jf.pf [3,4,1,0,5]
 have jh:=GJ (f:=bA.own) (y:=(bA.mk a.aX a.aQ a.aF a.dh a.bS a.aD (H5 a.bE.A a.bE.c (u5 a.bE.ls (D2 g) true)) (H5 a.ae.A a.ae.c (u5 a.ae.ls (D2 g) (H5 t u T))) a.dO)) l jg
 have ji:Own w D di [sepL (q6 bA.own (u5 j (D2 h) (bA.mk a.aX a.aQ a.aF a.dh a.bS a.aD (H5 a.bE.A a.bE.c (u5 a.bE.ls (D2 g) true)) (H5 a.ae.A a.ae.c (u5 a.ae.ls (D2 g) (H5 t u T))) a.dO))),blk g0 [vP X 0, .slice ae p0.bB.ls.length ag] 98,row ae p0.bB.ls.length ag (q6 bF.cells aa) 42 21,sepL (q6 bF.own aa),blk X [vI b.aa.av,vU b.aa.ax,vU b.aa.bf,vU b.aa.aK, .slice aH b.aa.ag.ls.length aI, .slice n b.aa.aj.ls.length p, .slice r b.aa.aI.ls.length s,vU b.bI, .slice d b.ak.ls.length m, .bool b.aR.aT,vU b.aR.aF,vI b.aR.bn, .slice J b.aR.ae.ls.length K, .bool b.aN.aT,vU b.aN.aF,vI b.aN.bn, .slice L b.aN.ae.ls.length M, .bool b.aO.aT,vU b.aO.aF,vI b.aO.bn, .slice N b.aO.ae.ls.length O, .bool b.aP.aT,vU b.aP.aF,vI b.aP.bn, .slice P b.aP.ae.ls.length Q, .bool b.aM.aT,vU b.aM.aF,vI b.aM.bn, .slice R b.aM.ae.ls.length S,vU b.di,vU b.cz,vU b.cK,vU b.cB,vU b.cu, .pointer none] 86,row n b.aa.aj.ls.length p (q6 aA.cells z) 60 5,sepL (q6 aA.own z),row r b.aa.aI.ls.length s (q6 aZ.cells B) 56 4,sepL (q6 aZ.own B),row d b.ak.ls.length m (q6 bA.cells (u5 j (D2 h) (bA.mk a.aX a.aQ a.aF a.dh a.bS a.aD (H5 a.bE.A a.bE.c (u5 a.bE.ls (D2 g) true)) (H5 a.ae.A a.ae.c (u5 a.ae.ls (D2 g) (H5 t u T))) a.dO))) 107 9,row J b.aR.ae.ls.length K (q6 af.cells C) 149 3,sepL (q6 af.own C),row L b.aN.ae.ls.length M (q6 af.cells E) 149 3,sepL (q6 af.own E),row N b.aO.ae.ls.length O (q6 af.cells F) 149 3,sepL (q6 af.own F),row P b.aP.ae.ls.length Q (q6 af.cells G) 149 3,sepL (q6 af.own G),row R b.aM.ae.ls.length S (q6 af.cells I) 149 3,sepL (q6 af.own I)]:=by rw [yH (f:=bA.cells) (y:=(bA.mk a.aX a.aQ a.aF a.dh a.bS a.aD (H5 a.bE.A a.bE.c (u5 a.bE.ls (D2 g) true)) (H5 a.ae.A a.ae.c (u5 a.ae.ls (D2 g) (H5 t u T))) a.dO)) l (by simp only [bA.cells,H6])]; exact jh
 have mP:s2 (u5 j (D2 h) (bA.mk a.aX a.aQ a.aF a.dh a.bS a.aD (H5 a.bE.A a.bE.c (u5 a.bE.ls (D2 g) true)) (H5 a.ae.A a.ae.c (u5 a.ae.ls (D2 g) (H5 t u T))) a.dO))=s2 (u5 b.ak.ls (D2 h) (dE.mk a.aX a.aQ a.aF a.dh (E4 a.bS.ls) (E4 (s8 bG.abs a.aD.ls)) (E4 (u5 a.bE.ls (D2 g) true)) (E4 (u5 (s8 bO.abs a.ae.ls) (D2 g) (E4 Y))) a.dO)):=az (iB U (congrArg (fun z0=>(dE.mk a.aX a.aQ a.aF a.dh (E4 a.bS.ls) (E4 (s8 bG.abs a.aD.ls)) (E4 (u5 a.bE.ls (D2 g) true)) (E4 z0) a.dO)) (iB (rfl:s8 bO.abs a.ae.ls=s8 bO.abs a.ae.ls) (congrArg E4 aN))))
 have mU:s2 (u5 b.ak.ls (D2 h) (dE.mk a.aX a.aQ a.aF a.dh (E4 a.bS.ls) (E4 (s8 bG.abs a.aD.ls)) (E4 (u5 a.bE.ls (D2 g) true)) (E4 (u5 (s8 bO.abs a.ae.ls) (D2 g) (E4 Y))) a.dO))=b.ak.ls.length:=H6
 have cz:b.ak.ls.length=s2 (u5 b.ak.ls (D2 h) (dE.mk a.aX a.aQ a.aF a.dh (E4 a.bS.ls) (E4 (s8 bG.abs a.aD.ls)) (E4 (u5 a.bE.ls (D2 g) true)) (E4 (u5 (s8 bO.abs a.ae.ls) (D2 g) (E4 Y))) a.dO)):=by first | omega | (simp only [H6]; done) | (simp only [H6,p5,s3,G1,p3,p4,H7]; omega)
 have jk:Own w D di [sepL (q6 bA.own (u5 j (D2 h) (bA.mk a.aX a.aQ a.aF a.dh a.bS a.aD (H5 a.bE.A a.bE.c (u5 a.bE.ls (D2 g) true)) (H5 a.ae.A a.ae.c (u5 a.ae.ls (D2 g) (H5 t u T))) a.dO))),blk g0 [vP X 0, .slice ae p0.bB.ls.length ag] 98,row ae p0.bB.ls.length ag (q6 bF.cells aa) 42 21,sepL (q6 bF.own aa),blk X [vI b.aa.av,vU b.aa.ax,vU b.aa.bf,vU b.aa.aK, .slice aH b.aa.ag.ls.length aI, .slice n b.aa.aj.ls.length p, .slice r b.aa.aI.ls.length s,vU b.bI, .slice d (s2 (u5 b.ak.ls (D2 h) (dE.mk a.aX a.aQ a.aF a.dh (E4 a.bS.ls) (E4 (s8 bG.abs a.aD.ls)) (E4 (u5 a.bE.ls (D2 g) true)) (E4 (u5 (s8 bO.abs a.ae.ls) (D2 g) (E4 Y))) a.dO))) m, .bool b.aR.aT,vU b.aR.aF,vI b.aR.bn, .slice J b.aR.ae.ls.length K, .bool b.aN.aT,vU b.aN.aF,vI b.aN.bn, .slice L b.aN.ae.ls.length M, .bool b.aO.aT,vU b.aO.aF,vI b.aO.bn, .slice N b.aO.ae.ls.length O, .bool b.aP.aT,vU b.aP.aF,vI b.aP.bn, .slice P b.aP.ae.ls.length Q, .bool b.aM.aT,vU b.aM.aF,vI b.aM.bn, .slice R b.aM.ae.ls.length S,vU b.di,vU b.cz,vU b.cK,vU b.cB,vU b.cu, .pointer none] 86,row n b.aa.aj.ls.length p (q6 aA.cells z) 60 5,sepL (q6 aA.own z),row r b.aa.aI.ls.length s (q6 aZ.cells B) 56 4,sepL (q6 aZ.own B),row d (s2 (u5 b.ak.ls (D2 h) (dE.mk a.aX a.aQ a.aF a.dh (E4 a.bS.ls) (E4 (s8 bG.abs a.aD.ls)) (E4 (u5 a.bE.ls (D2 g) true)) (E4 (u5 (s8 bO.abs a.ae.ls) (D2 g) (E4 Y))) a.dO))) m (q6 bA.cells (u5 j (D2 h) (bA.mk a.aX a.aQ a.aF a.dh a.bS a.aD (H5 a.bE.A a.bE.c (u5 a.bE.ls (D2 g) true)) (H5 a.ae.A a.ae.c (u5 a.ae.ls (D2 g) (H5 t u T))) a.dO))) 107 9,row J b.aR.ae.ls.length K (q6 af.cells C) 149 3,sepL (q6 af.own C),row L b.aN.ae.ls.length M (q6 af.cells E) 149 3,sepL (q6 af.own E),row N b.aO.ae.ls.length O (q6 af.cells F) 149 3,sepL (q6 af.own F),row P b.aP.ae.ls.length Q (q6 af.cells G) 149 3,sepL (q6 af.own G),row R b.aM.ae.ls.length S (q6 af.cells I) 149 3,sepL (q6 af.own I)]:=by rw [← cz]; exact ji
 have jl:=jk.pf [1,2,3,4,5,6,7,8,9]
 obtain⟨rfl,rfl⟩:=gm (hr.symm.trans (show _=(p0,aB.mk b.aa b.bI (E4 (u5 b.ak.ls (D2 h) (dE.mk a.aX a.aQ a.aF a.dh (E4 a.bS.ls) (E4 (s8 bG.abs a.aD.ls)) (E4 (u5 a.bE.ls (D2 g) true)) (E4 (u5 (s8 bO.abs a.ae.ls) (D2 g) (E4 Y))) a.dO))) b.aR b.aN b.aO b.aP b.aM b.di b.cz b.cK b.cB b.cu) from et (ai aS) (et (ip aX) (et (ai (bJ bi)) (et (ai bn) (et (iN aJ) (et (ai (bJ aT)) (et (gB bS) (et (ip V) (et (ai (bJ dD)) (et (ip dH) (et (ai bL) (et (ai cu) (ip bU))))))))))))))
 exact⟨ae,ag,aa,n,p,z,r,s,B,d,m,(u5 j (D2 h) (bA.mk a.aX a.aQ a.aF a.dh a.bS a.aD (H5 a.bE.A a.bE.c (u5 a.bE.ls (D2 g) true)) (H5 a.ae.A a.ae.c (u5 a.ae.ls (D2 g) (H5 t u T))) a.dO)),J,K,C,L,M,E,N,O,F,P,Q,G,R,S,I,(by first | rfl | (rw [← cz]; done) | (rw [← cz]; rfl)),jl,aK,ah,aj,(iB U (congrArg (fun z0=>(dE.mk a.aX a.aQ a.aF a.dh (E4 a.bS.ls) (E4 (s8 bG.abs a.aD.ls)) (E4 (u5 a.bE.ls (D2 g) true)) (E4 z0) a.dO)) (iB (rfl:s8 bO.abs a.ae.ls=s8 bO.abs a.ae.ls) (congrArg E4 aN)))),ak,au,av,ax,aC⟩
 refine jT (cn bU) (FT ?_)
 have jm:=fM.pf [2]
 have jq:=Gq (y:=row a.bE.A (s2 (u5 a.bE.ls (D2 g) true)) a.bE.c (q6 eL (u5 a.bE.ls (D2 g) true)) 4 1) (congrArg (fun z9=>row a.bE.A z9 a.bE.c (q6 eL (u5 a.bE.ls (D2 g) true)) 4 1) (by simp only [H6]:a.bE.ls.length=s2 (u5 a.bE.ls (D2 g) true))) jm
 have jr:=jq.pf [1]
 have jv:=Gq (y:=row a.ae.A (s2 (u5 a.ae.ls (D2 g) (H5 t u T))) a.ae.c (q6 (Gy (β:=af)) (u5 a.ae.ls (D2 g) (H5 t u T))) 40 1) (congrArg (fun z9=>row a.ae.A z9 a.ae.c (q6 (Gy (β:=af)) (u5 a.ae.ls (D2 g) (H5 t u T))) 40 1) (by simp only [H6]:a.ae.ls.length=s2 (u5 a.ae.ls (D2 g) (H5 t u T)))) jr
 have jw:=jv.pf [3,4,1,0,5]
 have jy:=GJ (f:=bA.own) (y:=(bA.mk a.aX a.aQ a.aF a.dh a.bS a.aD (H5 a.bE.A a.bE.c (u5 a.bE.ls (D2 g) true)) (H5 a.ae.A a.ae.c (u5 a.ae.ls (D2 g) (H5 t u T))) a.dO)) l jw
 have jB:Own w D di [sepL (q6 bA.own (u5 j (D2 h) (bA.mk a.aX a.aQ a.aF a.dh a.bS a.aD (H5 a.bE.A a.bE.c (u5 a.bE.ls (D2 g) true)) (H5 a.ae.A a.ae.c (u5 a.ae.ls (D2 g) (H5 t u T))) a.dO))),blk g0 [vP X 0, .slice ae p0.bB.ls.length ag] 98,row ae p0.bB.ls.length ag (q6 bF.cells aa) 42 21,sepL (q6 bF.own aa),blk X [vI b.aa.av,vU b.aa.ax,vU b.aa.bf,vU b.aa.aK, .slice aH b.aa.ag.ls.length aI, .slice n b.aa.aj.ls.length p, .slice r b.aa.aI.ls.length s,vU b.bI, .slice d b.ak.ls.length m, .bool b.aR.aT,vU b.aR.aF,vI b.aR.bn, .slice J b.aR.ae.ls.length K, .bool b.aN.aT,vU b.aN.aF,vI b.aN.bn, .slice L b.aN.ae.ls.length M, .bool b.aO.aT,vU b.aO.aF,vI b.aO.bn, .slice N b.aO.ae.ls.length O, .bool b.aP.aT,vU b.aP.aF,vI b.aP.bn, .slice P b.aP.ae.ls.length Q, .bool b.aM.aT,vU b.aM.aF,vI b.aM.bn, .slice R b.aM.ae.ls.length S,vU b.di,vU b.cz,vU b.cK,vU b.cB,vU b.cu, .pointer none] 86,row n b.aa.aj.ls.length p (q6 aA.cells z) 60 5,sepL (q6 aA.own z),row r b.aa.aI.ls.length s (q6 aZ.cells B) 56 4,sepL (q6 aZ.own B),row d b.ak.ls.length m (q6 bA.cells (u5 j (D2 h) (bA.mk a.aX a.aQ a.aF a.dh a.bS a.aD (H5 a.bE.A a.bE.c (u5 a.bE.ls (D2 g) true)) (H5 a.ae.A a.ae.c (u5 a.ae.ls (D2 g) (H5 t u T))) a.dO))) 107 9,row J b.aR.ae.ls.length K (q6 af.cells C) 149 3,sepL (q6 af.own C),row L b.aN.ae.ls.length M (q6 af.cells E) 149 3,sepL (q6 af.own E),row N b.aO.ae.ls.length O (q6 af.cells F) 149 3,sepL (q6 af.own F),row P b.aP.ae.ls.length Q (q6 af.cells G) 149 3,sepL (q6 af.own G),row R b.aM.ae.ls.length S (q6 af.cells I) 149 3,sepL (q6 af.own I)]:=by rw [yH (f:=bA.cells) (y:=(bA.mk a.aX a.aQ a.aF a.dh a.bS a.aD (H5 a.bE.A a.bE.c (u5 a.bE.ls (D2 g) true)) (H5 a.ae.A a.ae.c (u5 a.ae.ls (D2 g) (H5 t u T))) a.dO)) l (by simp only [bA.cells,H6])]; exact jy
 have mV:s2 (u5 j (D2 h) (bA.mk a.aX a.aQ a.aF a.dh a.bS a.aD (H5 a.bE.A a.bE.c (u5 a.bE.ls (D2 g) true)) (H5 a.ae.A a.ae.c (u5 a.ae.ls (D2 g) (H5 t u T))) a.dO))=s2 (u5 b.ak.ls (D2 h) (dE.mk a.aX a.aQ a.aF a.dh (E4 a.bS.ls) (E4 (s8 bG.abs a.aD.ls)) (E4 (u5 a.bE.ls (D2 g) true)) (E4 (u5 (s8 bO.abs a.ae.ls) (D2 g) (E4 Y))) a.dO)):=az (iB U (congrArg (fun z0=>(dE.mk a.aX a.aQ a.aF a.dh (E4 a.bS.ls) (E4 (s8 bG.abs a.aD.ls)) (E4 (u5 a.bE.ls (D2 g) true)) (E4 z0) a.dO)) (iB (rfl:s8 bO.abs a.ae.ls=s8 bO.abs a.ae.ls) (congrArg E4 aN))))
 have mW:s2 (u5 b.ak.ls (D2 h) (dE.mk a.aX a.aQ a.aF a.dh (E4 a.bS.ls) (E4 (s8 bG.abs a.aD.ls)) (E4 (u5 a.bE.ls (D2 g) true)) (E4 (u5 (s8 bO.abs a.ae.ls) (D2 g) (E4 Y))) a.dO))=b.ak.ls.length:=H6
 refine Mz rfl (Mz rfl ?_)
 have cB:b.ak.ls.length=s2 (u5 b.ak.ls (D2 h) (dE.mk a.aX a.aQ a.aF a.dh (E4 a.bS.ls) (E4 (s8 bG.abs a.aD.ls)) (E4 (u5 a.bE.ls (D2 g) true)) (E4 (u5 (s8 bO.abs a.ae.ls) (D2 g) (E4 Y))) a.dO)):=by first | omega | (simp only [H6]; done) | (simp only [H6,p5,s3,G1,p3,p4,H7]; omega)
 have jC:Own w D di [sepL (q6 bA.own (u5 j (D2 h) (bA.mk a.aX a.aQ a.aF a.dh a.bS a.aD (H5 a.bE.A a.bE.c (u5 a.bE.ls (D2 g) true)) (H5 a.ae.A a.ae.c (u5 a.ae.ls (D2 g) (H5 t u T))) a.dO))),blk g0 [vP X 0, .slice ae p0.bB.ls.length ag] 98,row ae p0.bB.ls.length ag (q6 bF.cells aa) 42 21,sepL (q6 bF.own aa),blk X [vI b.aa.av,vU b.aa.ax,vU b.aa.bf,vU b.aa.aK, .slice aH b.aa.ag.ls.length aI, .slice n b.aa.aj.ls.length p, .slice r b.aa.aI.ls.length s,vU b.bI, .slice d (s2 (u5 b.ak.ls (D2 h) (dE.mk a.aX a.aQ a.aF a.dh (E4 a.bS.ls) (E4 (s8 bG.abs a.aD.ls)) (E4 (u5 a.bE.ls (D2 g) true)) (E4 (u5 (s8 bO.abs a.ae.ls) (D2 g) (E4 Y))) a.dO))) m, .bool b.aR.aT,vU b.aR.aF,vI b.aR.bn, .slice J b.aR.ae.ls.length K, .bool b.aN.aT,vU b.aN.aF,vI b.aN.bn, .slice L b.aN.ae.ls.length M, .bool b.aO.aT,vU b.aO.aF,vI b.aO.bn, .slice N b.aO.ae.ls.length O, .bool b.aP.aT,vU b.aP.aF,vI b.aP.bn, .slice P b.aP.ae.ls.length Q, .bool b.aM.aT,vU b.aM.aF,vI b.aM.bn, .slice R b.aM.ae.ls.length S,vU b.di,vU b.cz,vU b.cK,vU b.cB,vU b.cu, .pointer none] 86,row n b.aa.aj.ls.length p (q6 aA.cells z) 60 5,sepL (q6 aA.own z),row r b.aa.aI.ls.length s (q6 aZ.cells B) 56 4,sepL (q6 aZ.own B),row d (s2 (u5 b.ak.ls (D2 h) (dE.mk a.aX a.aQ a.aF a.dh (E4 a.bS.ls) (E4 (s8 bG.abs a.aD.ls)) (E4 (u5 a.bE.ls (D2 g) true)) (E4 (u5 (s8 bO.abs a.ae.ls) (D2 g) (E4 Y))) a.dO))) m (q6 bA.cells (u5 j (D2 h) (bA.mk a.aX a.aQ a.aF a.dh a.bS a.aD (H5 a.bE.A a.bE.c (u5 a.bE.ls (D2 g) true)) (H5 a.ae.A a.ae.c (u5 a.ae.ls (D2 g) (H5 t u T))) a.dO))) 107 9,row J b.aR.ae.ls.length K (q6 af.cells C) 149 3,sepL (q6 af.own C),row L b.aN.ae.ls.length M (q6 af.cells E) 149 3,sepL (q6 af.own E),row N b.aO.ae.ls.length O (q6 af.cells F) 149 3,sepL (q6 af.own F),row P b.aP.ae.ls.length Q (q6 af.cells G) 149 3,sepL (q6 af.own G),row R b.aM.ae.ls.length S (q6 af.cells I) 149 3,sepL (q6 af.own I)]:=by rw [← cB]; exact jB
 have jD:=jC.pf [1,2,3,4,5,6,7,8,9]
 obtain⟨⟨fO,Z⟩,dL⟩:∃ q:bH × aB,jA p0 h (aB.mk b.aa b.bI (E4 (u5 b.ak.ls (D2 h) (dE.mk a.aX a.aQ a.aF a.dh (E4 a.bS.ls) (E4 (s8 bG.abs a.aD.ls)) (E4 (u5 a.bE.ls (D2 g) true)) (E4 (u5 (s8 bO.abs a.ae.ls) (D2 g) (E4 Y))) a.dO))) b.aR b.aN b.aO b.aP b.aM b.di b.cz b.cK b.cB b.cu)=q:=⟨_,rfl⟩
 obtain⟨qy,gL,mX,gM,mY⟩:=Ig jD
 refine cl Tryz.call94 (uK _ _ g0 p0 ae ag aa h X (aB.mk b.aa b.bI (E4 (u5 b.ak.ls (D2 h) (dE.mk a.aX a.aQ a.aF a.dh (E4 a.bS.ls) (E4 (s8 bG.abs a.aD.ls)) (E4 (u5 a.bE.ls (D2 g) true)) (E4 (u5 (s8 bO.abs a.ae.ls) (D2 g) (E4 Y))) a.dO))) b.aR b.aN b.aO b.aP b.aM b.di b.cz b.cK b.cB b.cu) aH aI n p z r s B d m (u5 j (D2 h) (bA.mk a.aX a.aQ a.aF a.dh a.bS a.aD (H5 a.bE.A a.bE.c (u5 a.bE.ls (D2 g) true)) (H5 a.ae.A a.ae.c (u5 a.ae.ls (D2 g) (H5 t u T))) a.dO)) J K C L M E N O F P Q G R S I fO Z gL aK ah aj (iB U (congrArg (fun z0=>(dE.mk a.aX a.aQ a.aF a.dh (E4 a.bS.ls) (E4 (s8 bG.abs a.aD.ls)) (E4 (u5 a.bE.ls (D2 g) true)) (E4 z0) a.dO)) (iB (rfl:s8 bO.abs a.ae.ls=s8 bO.abs a.ae.ls) (congrArg E4 aN)))) ak au av ax aC e8 (by first | assumption | exact Mk.act f4 | exact mI f8 (nZ (x:=bA.abs a) aM f4) | exact mI f8 (p9 (x:=bA.abs a) aM _)) e8 dL) ?_
 rintro _ qz ⟨jG,jH,jI,jJ,jK,jM,jO,jP,jQ,jR,jS,jU,jV,jW,jX,jY,j3,j4,j5,j6,kg,ko,kr,ku,kv,kw,ky,rfl,gN,dN,dO,dP,dQ,dS,dU,dV,dW,dX⟩
 have aO:=gM _ _ gN
 have mZ:=az dN
 have ng:=az dO
 have ni:=az dP
 have nk:=az dQ
 have nu:=az dS
 have ny:=az dU
 have nz:=az dV
 have nA:=az dW
 have nC:=az dX
 have nD:=aO.rowC (i:=1) rfl
 have nE:=aO.rowC (i:=4) rfl
 have nG:=aO.rowC (i:=6) rfl
 have nH:=aO.rowC (i:=8) rfl
 have nI:=aO.rowC (i:=10) rfl
 have nJ:=aO.rowC (i:=12) rfl
 have nK:=aO.rowC (i:=14) rfl
 have nL:=aO.rowC (i:=16) rfl
 have nM:=aO.rowC (i:=18) rfl
 refine WL.nil (Gf (res0 rfl) ?_)
 have kz:=aO.pf []
 obtain⟨rfl,rfl⟩:=gm (hr.symm.trans (show _=(fO,aB.mk (dC.mk Z.aa.av Z.aa.ax Z.aa.bf Z.aa.aK (E4 b.aa.ag.ls) (E4 Z.aa.aj.ls) (E4 Z.aa.aI.ls)) Z.bI (E4 Z.ak.ls) Z.aR Z.aN Z.aO Z.aP Z.aM Z.di Z.cz Z.cK Z.cB Z.cu) from et (ai aS) (et (ip aX) (et (ai (bJ bi)) (et (ai bn) (et (iN aJ) (et (ai (bJ aT)) (et (gB bS) (et (ip V) (et (ai (bJ dD)) (et (ip dH) (et (ai bL) (et (ai cu) (et (gB bU) (ai dL)))))))))))))))
 exact⟨jG,jH,jI,jJ,jK,jM,jO,jP,jQ,jR,jS,jU,jV,jW,jX,jY,j3,j4,j5,j6,kg,ko,kr,ku,kv,kw,ky,(by first | rfl | (rw [← cB]; done) | (rw [← cB]; rfl)),kz,dN,dO,dP,dQ,dS,dU,dV,dW,dX⟩
 refine jT (dT dH) (sr ?_)
 have kC:=gy.pf [1,2,3,4,5,6,7]
 have bV:=qO (f:=bA.own) l kC
 have nN:a.bS.ls.length≤a.bS.c∧a.bS.ls.length≤9223372036854775807:=bz bV (i:=0) rfl (φ:=fun _=>_) (ay (P3.2 ⟨a,E0 l,b1⟩) bq)
 have nP:a.aD.ls.length≤a.aD.c∧a.aD.ls.length≤9223372036854775807:=bz bV (i:=0) rfl (φ:=fun _=>_) (ay (P3.2 ⟨a,E0 l, .tail _ b1⟩) bq)
 have nQ:a.bE.ls.length≤a.bE.c∧a.bE.ls.length≤9223372036854775807:=bz bV (i:=0) rfl (φ:=fun _=>_) (ay (P3.2 ⟨a,E0 l, .tail _ b2⟩) bq)
 have nR:a.ae.ls.length≤a.ae.c∧a.ae.ls.length≤9223372036854775807:=bz bV (i:=0) rfl (φ:=fun _=>_) (ay (P3.2 ⟨a,E0 l, .tail _ b3⟩) bq)
 refine Mz rfl (Mz rfl ?_)
 have kD:=bV.px [2,3,4,5,10] [] [1,6,7,8,9]
 obtain⟨⟨fP,aD⟩,dY⟩:∃ q:bH × aB,eH p0 h b=q:=⟨_,rfl⟩
 obtain⟨qA,gP,nS,gQ,nT⟩:=GZ kD
 refine cl Tryz.call63 (mQ _ _ g0 p0 ae ag aa h X b aH aI n p r s d m j J K C L M E N O F P Q G R S I fP aD gP aK U ak au av ax aC e8 (by first | assumption | exact Mk.act f4 | exact mI f8 (nZ (x:=bA.abs a) aM f4) | exact mI f8 (p9 (x:=bA.abs a) aM _)) e8 dY) ?_
 rintro _ qB ⟨kE,kF,kG,kH,kI,kJ,kK,kL,kM,kN,kP,kQ,kR,kS,kT,kU,kV,kW,kX,kY,kZ,rfl,gU,dZ,d9,ed,ek,eu,eB,eD⟩
 have aU:=gQ _ _ gU
 have nU:=az dZ
 have nV:=az d9
 have nW:=az ed
 have nX:=az ek
 have nY:=az eu
 have og:=az eB
 have oh:=az eD
 have ol:=aU.rowC (i:=1) rfl
 have om:=aU.rowC (i:=4) rfl
 have oq:=aU.rowC (i:=6) rfl
 have ou:=aU.rowC (i:=8) rfl
 have ow:=aU.rowC (i:=10) rfl
 have oz:=aU.rowC (i:=12) rfl
 have oC:=aU.rowC (i:=14) rfl
 refine nt (rt (tR (Fin.res (res0 rfl) ?_)))
 have lc:=aU.px [0,1,2,3,17,18,19,20] [16] []
 obtain⟨rfl,rfl⟩:=gm (hr.symm.trans (show _=(fP,aB.mk (dC.mk aD.aa.av aD.aa.ax aD.aa.bf aD.aa.aK (E4 b.aa.ag.ls) (E4 b.aa.aj.ls) (E4 b.aa.aI.ls)) aD.bI (E4 aD.ak.ls) aD.aR aD.aN aD.aO aD.aP aD.aM aD.di aD.cz aD.cK aD.cB aD.cu) from et (ai aS) (et (ip aX) (et (ai (bJ bi)) (et (ai bn) (et (iN aJ) (et (ai (bJ aT)) (et (gB bS) (et (ip V) (et (ai (bJ dD)) (et (iN dH) (ai dY))))))))))))
 exact⟨kE,kF,kG,n,p,z,r,s,B,kH,kI,kJ,kK,kL,kM,kN,kP,kQ,kR,kS,kT,kU,kV,kW,kX,kY,kZ,rfl,lc,dZ,ah,aj,d9,ed,ek,eu,eB,eD⟩
 refine F3 (rs:= []) 4 rfl rfl rfl (dT V) e7 (F3 (rs:= []) 5 rfl rfl rfl (dT V) e7 (F3 (rs:= []) 6 rfl rfl rfl (dT V) e7 (F3 (rs:= []) 7 rfl rfl rfl (dT V) e7 (F3 (rs:= []) 8 rfl rfl rfl (dT V) e7 (F3 (rs:= []) 9 rfl rfl rfl (dT V) e7 (F3 (rs:= []) 10 rfl rfl rfl (dT V) e7 (F3 (rs:= []) 11 rfl rfl rfl (dT V) e7 (F3 (rs:= []) 12 rfl rfl rfl (dT V) e7 (F3 (rs:= []) 13 rfl rfl rfl (dT V) e7 (F3 (rs:= []) 14 rfl rfl rfl (dT V) e7 (F3 (rs:= []) 15 rfl rfl rfl (dT V) e7 (F3 (rs:= []) 16 rfl rfl rfl (dT V) e7 (qt (v:= .bool true) 17 rfl (fun _ _=>Gb rfl (dT V) rfl) (qn (FW (jt (sr ?_)))))))))))))))))
 have lg:=gy.pf [1,2,3,4,5,6,7]
 have bW:=qO (f:=bA.own) l lg
 have oD:a.bS.ls.length≤a.bS.c∧a.bS.ls.length≤9223372036854775807:=bz bW (i:=0) rfl (φ:=fun _=>_) (ay (P3.2 ⟨a,E0 l,b1⟩) bq)
 have oF:a.aD.ls.length≤a.aD.c∧a.aD.ls.length≤9223372036854775807:=bz bW (i:=0) rfl (φ:=fun _=>_) (ay (P3.2 ⟨a,E0 l, .tail _ b1⟩) bq)
 have oG:a.bE.ls.length≤a.bE.c∧a.bE.ls.length≤9223372036854775807:=bz bW (i:=0) rfl (φ:=fun _=>_) (ay (P3.2 ⟨a,E0 l, .tail _ b2⟩) bq)
 have oH:a.ae.ls.length≤a.ae.c∧a.ae.ls.length≤9223372036854775807:=bz bW (i:=0) rfl (φ:=fun _=>_) (ay (P3.2 ⟨a,E0 l, .tail _ b3⟩) bq)
 refine Mz rfl (Mz rfl ?_)
 have lh:=bW.px [2,3,4,5,10] [] [1,6,7,8,9]
 obtain⟨⟨fQ,aF⟩,eF⟩:∃ q:bH × aB,eH p0 h b=q:=⟨_,rfl⟩
 obtain⟨qC,gV,oI,gW,oK⟩:=GZ lh
 refine cl Tryz.call63 (mQ _ _ g0 p0 ae ag aa h X b aH aI n p r s d m j J K C L M E N O F P Q G R S I fQ aF gV aK U ak au av ax aC e8 (by first | assumption | exact Mk.act f4 | exact mI f8 (nZ (x:=bA.abs a) aM f4) | exact mI f8 (p9 (x:=bA.abs a) aM _)) e8 eF) ?_
 rintro _ qD ⟨ll,lm,lq,lu,lv,lw,lC,lD,lF,lG,lH,lI,lJ,lK,lL,lM,lN,lQ,lS,lT,lU,rfl,gX,eG,eO,eP,eT,eU,eX,eY⟩
 have aW:=gW _ _ gX
 have oL:=az eG
 have oM:=az eO
 have oN:=az eP
 have oO:=az eT
 have oP:=az eU
 have oQ:=az eX
 have oU:=az eY
 have oV:=aW.rowC (i:=1) rfl
 have oW:=aW.rowC (i:=4) rfl
 have oZ:=aW.rowC (i:=6) rfl
 have o5:=aW.rowC (i:=8) rfl
 have o6:=aW.rowC (i:=10) rfl
 have o7:=aW.rowC (i:=12) rfl
 have o8:=aW.rowC (i:=14) rfl
 refine nt (rt (tR (Fin.res (res0 rfl) ?_)))
 have lW:=aW.px [0,1,2,3,17,18,19,20] [16] []
 obtain⟨rfl,rfl⟩:=gm (hr.symm.trans (show _=(fQ,aB.mk (dC.mk aF.aa.av aF.aa.ax aF.aa.bf aF.aa.aK (E4 b.aa.ag.ls) (E4 b.aa.aj.ls) (E4 b.aa.aI.ls)) aF.bI (E4 aF.ak.ls) aF.aR aF.aN aF.aO aF.aP aF.aM aF.di aF.cz aF.cK aF.cB aF.cu) from et (ai aS) (et (ip aX) (et (ai (bJ bi)) (et (ai bn) (et (iN aJ) (et (ai (bJ aT)) (et (gB bS) (et (iN V) (ai eF))))))))))
 exact⟨ll,lm,lq,n,p,z,r,s,B,lu,lv,lw,lC,lD,lF,lG,lH,lI,lJ,lK,lL,lM,lN,lQ,lS,lT,lU,rfl,lW,eG,ah,aj,eO,eP,eT,eU,eX,eY⟩
 have h39t:Bool.toNat bR=0:=by rw [aX]; rfl
 refine jT (cn aX) (rt (tR (Fin.res (res0 rfl) ?_)))
 have lX:=bg.px [] [0] []
 obtain⟨rfl,rfl⟩:=gm (hr.symm.trans (show _=(p0,b) from et (ai aS) (gB aX)))
 exact⟨ae,ag,aa,n,p,z,r,s,B,d,m,j,J,K,C,L,M,E,N,O,F,P,Q,G,R,S,I,rfl,lX,aK,ah,aj,U,ak,au,av,ax,aC⟩
end Go.Proofs.YtbkagebjhbphaaaGreat
