/-
 coord: a vote.
-/
import Derived.Test.YtbkagebjhbphaaaGreatCc
import Derived.Test.YtbkagebjhbphaaaGreatCg
namespace Go.Proofs.YtbkagebjhbphaaaGreat
set_option maxRecDepth 100000
open Go.RowKit
set_option linter.unusedVariables false
set_option linter.unusedSectionVars false
set_option linter.unusedSimpArgs false
def eH (p1c0:bP):List fV→Nat→Unit ⊕ Int
  | [],a=>Sum.inl ()
  | b::c,a=>if b.dX=p1c0.aJ then Sum.inr ((a:Nat):Int) else eH p1c0 c (a+1)
def ik (l0:List fV) (p1c0:bP):Int:=
 lp (eH p1c0 l0 0) fun _=>(-1)
theorem nG (w:World) (D:Nat→Prop) (o:Option Addr) (C E:Nat) (z:List bG) (l0:List fV) (g1c0:Nat) (p1c0:bP) (A1c0x0:Option Addr) (c1c0x0:Nat) (A1c0x1:Option Addr) (c1c0x1:Nat) (d1c0x1:List af) (A1c0x2:Option Addr) (c1c0x2:Nat) (B:Int) (H:Own w D w [blk g1c0 (gP p1c0 A1c0x0 c1c0x0 A1c0x1 c1c0x1 A1c0x2 c1c0x2) 42]) (p:List.map bG.abs z=l0) (n:Ro w D fun w'=>bD w' 3 o C (List.flatMap bG.cells z)) (r:∀ x ∈ z,Ro w D (fun w'=>bD w' 6 x.aD.A x.aD.ls.length (List.flatMap bC.cells x.aD.ls))∧(x.aD.ls.length≤x.aD.c∧x.aD.ls.length≤9223372036854775807)∧Ro w D (fun w'=>bD w' 1 x.aJ.A x.aJ.ls.length (List.flatMap (eI .i64) x.aJ.ls))∧(x.aJ.ls.length≤x.aJ.c∧x.aJ.ls.length≤9223372036854775807)) (F:C=l0.length) (T:l0.length≤9223372036854775807) (hx1c0x0:Ro w D fun w'=>bD w' 6 A1c0x0 p1c0.aD.ls.length (List.flatMap bC.cells p1c0.aD.ls)) (hb1c0x0:p1c0.aD.ls.length≤c1c0x0∧p1c0.aD.ls.length≤9223372036854775807) (hd1c0x1:List.map af.abs d1c0x1=p1c0.ah.ls) (hx1c0x1:Ro w D fun w'=>bD w' 3 A1c0x1 p1c0.ah.ls.length (List.flatMap af.cells d1c0x1)) (hb1c0x1:p1c0.ah.ls.length≤c1c0x1∧p1c0.ah.ls.length≤9223372036854775807) (hm1c0x1:∀ x ∈ d1c0x1,Ro w D (fun w'=>bD w' 2 x.av.A x.av.ls.length (List.flatMap aL.cells x.av.ls))∧(x.av.ls.length≤x.av.c∧x.av.ls.length≤9223372036854775807)) (hx1c0x2:Ro w D fun w'=>bD w' 2 A1c0x2 p1c0.ag.ls.length (List.flatMap bv.cells p1c0.ag.ls)) (hb1c0x2:p1c0.ag.ls.length≤c1c0x2∧p1c0.ag.ls.length≤9223372036854775807) (hr:ik l0 p1c0=B):
    Calls Tryz.prog 91 #[.slice o C E, .func (.func 92) #[] #[vP g1c0 0]] w (dW fun v w'=>v=vI B∧Own w D w' [blk g1c0 (gP p1c0 A1c0x0 c1c0x0 A1c0x1 c1c0x1 A1c0x2 c1c0x2) 42]∧(-1≤B∧B < ((l0.length:Nat):Int))):=by
 subst F
 have P:=aA p
 have hdl1c0x1:=aA hd1c0x1
 refine cb Tryz.func91 ?_
 refine sr (An rfl (EP (sr (Mz rfl (Kz (vJ l0.length) (Mn rfl (bo ?_)))))))
 have G:=H.pf []
 obtain⟨I,f⟩:=l8 fun(a:Nat) (w':World)=>Own w D w' [blk g1c0 (gP p1c0 A1c0x0 c1c0x0 A1c0x1 c1c0x1 A1c0x2 c1c0x2) 42]∧a≤l0.length∧eH p1c0 l0 0=eH p1c0 (List.drop a l0) a
 refine Wp.loop (fun i:Nat=> [(4,vI 0),(8,vJ i),(7,vJ l0.length),(0, .slice o l0.length E),(1, .func (.func 92) #[] #[vP g1c0 0])]) I (fun i=>l0.length - i) 0 ⟨rfl,rfl,rfl,rfl,rfl,trivial⟩ (f.2 ⟨G,by omega,rfl⟩) ?_
 rintro a U s
 show Wp _ _ _ [(4,vI 0),(8,vJ a),(7,vJ l0.length),(0, .slice o l0.length E),(1, .func (.func 92) #[] #[vP g1c0 0])] _ _
 obtain⟨g,Q,h⟩:=f.1 s
 refine sr (Kz (.bool (decide (((a:Nat):Int) < ((l0.length:Nat):Int)))) (nt (EP ?_)))
 by_cases t:((a:Nat):Int) < ((l0.length:Nat):Int)
 obtain⟨d,b⟩:=dK (ls:=z) (i:=a) bG.len (by decide) (g.ro n) (by first | omega | (simp; done) | (simp; omega))
 have u:=eQ p b
 have R:=(r _ (List.mem_of_getElem? b)).2.1
 have S:=(r _ (List.mem_of_getElem? b)).2.2.2
 have m:=drop_at u
 refine jT (dT t) (sk (EP (bo (sr (Mz rfl (Ar rfl (Mz rfl (Mz rfl (Mz rfl (fw (.pointer (some ⟨ab o,ao o+a *3,none⟩)) (ET (sI) rfl rfl ((g.ro n).addr (i:=a) (by omega)) (by omega)) (fw (.agg (bG.cells d).toArray) (EY rfl (Fb (cs:=(bG.cells d)) Tryz.isAgg172 Tryz.sizeOf172 ((g.ro n).elem bG.len b (by decide)))) ?_)))))))))))
 refine WL.do rfl (Fw Tryz.call92 rfl rfl ?_ (fun _ _ k=>k))
 refine cb Tryz.func92 ?_
 refine sr ?_
 refine dP (bG.cells d) 172 g ?_
 intro J V j
 refine Ar rfl (Kz (vP J 0) (Lz (vI d.dX) j 0 Tryz.isAgg3 (Kz (vP g1c0 1) (Lz (vI p1c0.aJ) j 1 Tryz.isAgg3 (Kz (.bool (decide (d.dX=p1c0.aJ))) (An rfl (rt (rs (nt ?_)))))))))
 by_cases l:d.dX=p1c0.aJ
 refine jT (dT l) (EP ?_)
 have K:=j.pk [1]
 refine EO (Mz rfl (An rfl (rt (bR (tR (tR (bR (tR (rs ?_)))))))))
 have L:=K.pf []
 obtain rfl:_=((a:Nat):Int):=hr.symm.trans (iZ (et (h) (et (congrArg (fun q=>eH p1c0 q a) m) (ip l))))
 exact⟨rfl,L,(by omega)⟩
 refine jF (dF l) (Fs (bN (ER ?_)))
 have M:=j.pk [1]
 refine EO (fw (vJ (a+1)) (EQ (e:=IntKind.i64.wrap (((a:Nat):Int)+1)) yk (by rw [IR _ (by omega)]; omega)) (Mz rfl (WL.nil ?_)))
 have N:=M.pf []
 exact E8 (a+1) ⟨rfl,rfl,rfl,rfl,rfl,trivial⟩ (f.2 ⟨N,by omega,et (h) (et (congrArg (fun q=>eH p1c0 q a) m) (iN l))⟩) (by show l0.length - (a+1) < l0.length - a; omega)
 refine jF (dF t) (Wp.exit (EX ?_))
 have y:eH p1c0 l0 0=Sum.inl ():=et (h) (et (congrArg (fun q=>eH p1c0 q a) (eD (ls:=l0) (i:=a) (by omega))) rfl)
 refine EX (Fg (ER (sr (An rfl (rt (rs ?_))))))
 have O:=g.pf []
 obtain rfl:_=(-1):=hr.symm.trans (nJ y)
 exact⟨rfl,O,(by omega)⟩
def iy (d:Bool):List Bool→Nat→Unit ⊕ Int
  | [],a=>Sum.inl ()
  | b::c,a=>if d=b then Sum.inr ((a:Nat):Int) else iy d c (a+1)
def mU (l0:List Bool) (a:Bool):Int:=
 lp (iy a l0 0) fun _=>(-1)
theorem rJ (w:World) (D:Nat→Prop) (n:Option Addr) (t u:Nat) (l0:List Bool) (b:Bool) (s:Int) (H:Own w D w []) (m:Ro w D fun w'=>bD w' 1 n t (List.flatMap eL l0)) (x:t=l0.length) (F:l0.length≤9223372036854775807) (hr:mU l0 b=s):
    Calls Tryz.prog 128 #[.slice n t u, .bool b] w (dW fun v w'=>v=vI s∧Own w D w' []∧(-1≤s∧s < ((l0.length:Nat):Int))):=by
 subst x
 refine cb Tryz.func128 ?_
 refine sr (An rfl (EP (sr (Mz rfl (Kz (vJ l0.length) (Mn rfl (bo ?_)))))))
 have y:=H.pk []
 obtain⟨z,d⟩:=l8 fun(a:Nat) (w':World)=>Own w D w' []∧a≤l0.length∧iy b l0 0=iy b (List.drop a l0) a
 refine Wp.loop (fun i:Nat=> [(4,vI 0),(8,vJ i),(7,vJ l0.length),(0, .slice n l0.length u),(1, .bool b)]) z (fun i=>l0.length - i) 0 ⟨rfl,rfl,rfl,rfl,rfl,trivial⟩ (d.2 ⟨y,by omega,rfl⟩) ?_
 rintro a G o
 show Wp _ _ _ [(4,vI 0),(8,vJ a),(7,vJ l0.length),(0, .slice n l0.length u),(1, .bool b)] _ _
 obtain⟨c,E,f⟩:=d.1 o
 refine sr (Kz (.bool (decide (((a:Nat):Int) < ((l0.length:Nat):Int)))) (nt (EP ?_)))
 by_cases p:((a:Nat):Int) < ((l0.length:Nat):Int)
 obtain⟨g,j⟩:=dK (ls:=l0) (i:=a) nW (by decide) (c.ro m) (by first | omega | (simp; done) | (simp; omega))
 have l:=drop_at j
 refine jT (decide_eq_true p) (sk (EP (bo (sr (Mz rfl (Ar rfl (Mz rfl (Mz rfl (Mz rfl (fw (.pointer (some ⟨ab n,ao n+a *1,none⟩)) (ET (wV) rfl rfl ((c.ro m).addr (i:=a) (by omega)) (by omega)) (fw (.bool g) (EY rfl (bZ.one Tryz.isAgg4 (((c.ro m).elem nW j (by decide)).at_ (k:=0) rfl))) (fw (.bool (decide (b=g))) (Fq (e:=(b==g)) yk (by first | exact Bool.beq_eq_decide_eq _ _ | (by_cases q:b=g <;> simp [q]))) (nt ?_)))))))))))))
 by_cases h:b=g
 refine jT (dT h) (sr (Mz rfl (An rfl (rt (bR (tR (tR (bR (tR (rs ?_))))))))))
 have A:=c.pk []
 obtain rfl:_=((a:Nat):Int):=hr.symm.trans (iZ (et (f) (et (congrArg (fun q=>iy b q a) l) (ip h))))
 exact⟨rfl,A,(by omega)⟩
 refine jF (dF h) (Fs (bN (ER (EO (fw (vJ (a+1)) (EQ (e:=IntKind.i64.wrap (((a:Nat):Int)+1)) yk (by rw [IR _ (by omega)]; omega)) (Mz rfl (WL.nil ?_)))))))
 have B:=c.pk []
 exact E8 (a+1) ⟨rfl,rfl,rfl,rfl,rfl,trivial⟩ (d.2 ⟨B,by omega,et (f) (et (congrArg (fun q=>iy b q a) l) (iN h))⟩) (by show l0.length - (a+1) < l0.length - a; omega)
 refine jF (dF p) (Wp.exit (EX ?_))
 have r:iy b l0 0=Sum.inl ():=et (f) (et (congrArg (fun q=>iy b q a) (eD (ls:=l0) (i:=a) (by omega))) rfl)
 refine EX (Fg (ER (sr (An rfl (rt (rs ?_))))))
 have C:=c.pk []
 obtain rfl:_=(-1):=hr.symm.trans (nJ r)
 exact⟨rfl,C,(by omega)⟩
def l6 (l0:List Bool) (b:Bool):Bool:=
 bnd (mU l0 b) fun a=>decide (a ≥ 0)
theorem qG (w:World) (D:Nat→Prop) (i:Option Addr) (j o:Nat) (l0:List Bool) (h:Bool) (p:Bool) (H:Own w D w []) (k:Ro w D fun w'=>bD w' 1 i j (List.flatMap eL l0)) (l:j=l0.length) (s:l0.length≤9223372036854775807) (hr:l6 l0 h=p):
    Calls Tryz.prog 93 #[.slice i j o, .bool h] w (dW fun v w'=>v= .bool p∧Own w D w' []):=by
 subst l
 refine cb Tryz.func93 ?_
 refine sr (Ar rfl (Mz rfl (Mz rfl ?_)))
 obtain⟨a,b⟩:∃ q,mU l0 h=q:=⟨_,rfl⟩
 obtain⟨t,d,e,f,r⟩:=EU H
 refine cl Tryz.call128 (rJ _ _ i l0.length o l0 h a d (e _ k) rfl (by omega) b) ?_
 rintro _ u ⟨rfl,g,c⟩
 have m:=f _ _ g
 replace c: -1≤a∧a < ((l0.length:Nat):Int):=c
 refine Kz (.bool (decide (a ≥ 0))) (An rfl (rt (rs ?_)))
 have n:=m.pk []
 obtain rfl:_=decide (a ≥ 0):=hr.symm.trans (ai b)
 exact⟨rfl,n⟩
def kY (i:bQ) (k:bP) (a:aC):bQ × aC:=
 bnd (dB a.aB.ls k.bf) fun g=>if g.2=true then bnd (List.getD a.aB.ls (Int.toNat g.1) default) fun e=>bnd (ik e.aF.ls k) fun f=>if f < 0 then(i,a) else bnd (List.getD e.bF.ls (Int.toNat f) default) fun l=>if l=true then(i,a) else if k.dz=3 then bnd (List.getD e.aF.ls (Int.toNat f) default) fun m=>if((k.ah.ls.length:Nat):Int)=((m.aD.ls.length:Nat):Int) then bnd (jc k.ah.ls) fun h=>bnd (l6 (List.set e.bF.ls (Int.toNat f) true) false) fun j=>if j=true then(i,aC.mk a.aa a.bH (Ll.mk (List.set a.aB.ls (Int.toNat g.1) (dM.mk e.bq e.aW e.aK e.dA (Ll.mk e.bU.ls) (Ll.mk e.aF.ls) (Ll.mk (List.set e.bF.ls (Int.toNat f) true)) (Ll.mk (List.set e.ae.ls (Int.toNat f) (Ll.mk h))) e.ed))) a.aR a.aN a.aM a.aO a.aP a.di a.cB a.cZ a.cK a.cO) else bnd (lg i g.1 (aC.mk a.aa a.bH (Ll.mk (List.set a.aB.ls (Int.toNat g.1) (dM.mk e.bq e.aW e.aK e.dA (Ll.mk e.bU.ls) (Ll.mk e.aF.ls) (Ll.mk (List.set e.bF.ls (Int.toNat f) true)) (Ll.mk (List.set e.ae.ls (Int.toNat f) (Ll.mk h))) e.ed))) a.aR a.aN a.aM a.aO a.aP a.di a.cB a.cZ a.cK a.cO)) fun b=>(b.1,aC.mk (dC.mk b.2.aa.au b.2.aa.ay b.2.aa.aY b.2.aa.aH (Ll.mk a.aa.ag.ls) (Ll.mk b.2.aa.aj.ls) (Ll.mk b.2.aa.aG.ls)) b.2.bH (Ll.mk b.2.aB.ls) b.2.aR b.2.aN b.2.aM b.2.aO b.2.aP b.2.di b.2.cB b.2.cZ b.2.cK b.2.cO) else bnd (gy i g.1 a) fun c=>(c.1,aC.mk (dC.mk c.2.aa.au c.2.aa.ay c.2.aa.aY c.2.aa.aH (Ll.mk a.aa.ag.ls) (Ll.mk a.aa.aj.ls) (Ll.mk a.aa.aG.ls)) c.2.bH (Ll.mk c.2.aB.ls) c.2.aR c.2.aN c.2.aM c.2.aO c.2.aP c.2.di c.2.cB c.2.cZ c.2.cK c.2.cO) else bnd (gy i g.1 a) fun d=>(d.1,aC.mk (dC.mk d.2.aa.au d.2.aa.ay d.2.aa.aY d.2.aa.aH (Ll.mk a.aa.ag.ls) (Ll.mk a.aa.aj.ls) (Ll.mk a.aa.aG.ls)) d.2.bH (Ll.mk d.2.aB.ls) d.2.aR d.2.aN d.2.aM d.2.aO d.2.aP d.2.di d.2.cB d.2.cZ d.2.cK d.2.cO) else(i,a)
set_option maxHeartbeats 4000000 in
theorem vz (w:World) (D:Nat→Prop) (g0:Nat) (p0:bQ) (ae:Option Addr) (ag:Nat) (aa:List bA) (W:bP) (cO:Option Addr) (fo bL:Nat) (bH:Option Addr) (fq bf:Nat) (bN:List af) (cZ:Option Addr) (fu bO:Nat) (X:Nat) (b:aC) (aH:Option Addr) (aI:Nat) (n:Option Addr) (p:Nat) (z:List az) (r:Option Addr) (s:Nat) (B:List aX) (d:Option Addr) (m:Nat) (j:List bB) (J:Option Addr) (K:Nat) (C:List af) (L:Option Addr) (M:Nat) (E:List af) (N:Option Addr) (O:Nat) (F:List af) (P:Option Addr) (Q:Nat) (G:List af) (R:Option Addr) (S:Nat) (I:List af) (r0:bQ) (r1:aC) (H:Own w D w [blk g0 [.pointer (some ⟨X,0,none⟩), .slice ae p0.bE.ls.length ag] 98,row ae p0.bE.ls.length ag (List.flatMap bA.cells aa) 42 21,sepL (List.flatMap bA.own aa),blk X [.int .i64 b.aa.au, .int .u64 ((b.aa.ay:Nat):Int), .int .u64 ((b.aa.aY:Nat):Int), .int .u64 ((b.aa.aH:Nat):Int), .slice aH b.aa.ag.ls.length aI, .slice n b.aa.aj.ls.length p, .slice r b.aa.aG.ls.length s, .int .u64 ((b.bH:Nat):Int), .slice d b.aB.ls.length m, .bool b.aR.aS, .int .u64 ((b.aR.aK:Nat):Int), .int .i64 b.aR.bi, .slice J b.aR.ae.ls.length K, .bool b.aN.aS, .int .u64 ((b.aN.aK:Nat):Int), .int .i64 b.aN.bi, .slice L b.aN.ae.ls.length M, .bool b.aM.aS, .int .u64 ((b.aM.aK:Nat):Int), .int .i64 b.aM.bi, .slice N b.aM.ae.ls.length O, .bool b.aO.aS, .int .u64 ((b.aO.aK:Nat):Int), .int .i64 b.aO.bi, .slice P b.aO.ae.ls.length Q, .bool b.aP.aS, .int .u64 ((b.aP.aK:Nat):Int), .int .i64 b.aP.bi, .slice R b.aP.ae.ls.length S, .int .u64 ((b.di:Nat):Int), .int .u64 ((b.cB:Nat):Int), .int .u64 ((b.cZ:Nat):Int), .int .u64 ((b.cK:Nat):Int), .int .u64 ((b.cO:Nat):Int), .pointer none] 86,row n b.aa.aj.ls.length p (List.flatMap az.cells z) 60 5,sepL (List.flatMap az.own z),row r b.aa.aG.ls.length s (List.flatMap aX.cells B) 56 4,sepL (List.flatMap aX.own B),row d b.aB.ls.length m (List.flatMap bB.cells j) 107 9,sepL (List.flatMap bB.own j),row J b.aR.ae.ls.length K (List.flatMap af.cells C) 149 3,sepL (List.flatMap af.own C),row L b.aN.ae.ls.length M (List.flatMap af.cells E) 149 3,sepL (List.flatMap af.own E),row N b.aM.ae.ls.length O (List.flatMap af.cells F) 149 3,sepL (List.flatMap af.own F),row P b.aO.ae.ls.length Q (List.flatMap af.cells G) 149 3,sepL (List.flatMap af.own G),row R b.aP.ae.ls.length S (List.flatMap af.cells I) 149 3,sepL (List.flatMap af.own I)]) (aK:List.map bA.abs aa=p0.bE.ls) (fP:fo=W.aD.ls.length) (fQ:Ro w D fun w'=>bD w' 6 cO W.aD.ls.length (List.flatMap bC.cells W.aD.ls)) (l7:W.aD.ls.length≤bL∧W.aD.ls.length≤9223372036854775807) (bX:List.map af.abs bN=W.ah.ls) (fV:fq=W.ah.ls.length) (dw:Ro w D fun w'=>bD w' 3 bH W.ah.ls.length (List.flatMap af.cells bN)) (l8:W.ah.ls.length≤bf∧W.ah.ls.length≤9223372036854775807) (bJ:∀ x ∈ bN,Ro w D (fun w'=>bD w' 2 x.av.A x.av.ls.length (List.flatMap aL.cells x.av.ls))∧(x.av.ls.length≤x.av.c∧x.av.ls.length≤9223372036854775807)) (fZ:fu=W.ag.ls.length) (gm:Ro w D fun w'=>bD w' 2 cZ W.ag.ls.length (List.flatMap bv.cells W.ag.ls)) (l9:W.ag.ls.length≤bO∧W.ag.ls.length≤9223372036854775807) (ah:List.map az.abs z=b.aa.aj.ls) (aj:List.map aX.abs B=b.aa.aG.ls) (U:List.map bB.abs j=b.aB.ls) (ak:List.map af.abs C=b.aR.ae.ls) (au:List.map af.abs E=b.aN.ae.ls) (av:List.map af.abs F=b.aM.ae.ls) (ay:List.map af.abs G=b.aO.ae.ls) (aB:List.map af.abs I=b.aP.ae.ls) (qE:b.aa.ag.ls.length≤1000∧b.aa.aj.ls.length≤1000∧b.aa.aG.ls.length≤1000∧b.aB.ls.length≤1000∧p0.bE.ls.length≤100000) (qF:Ak b.aB.ls) (qH:W.aD.ls.length≤24∧W.ag.ls.length≤1000∧W.ah.ls.length≤1000∧jh W.aU) (qI:mK W.ah.ls) (hr:kY p0 W b=(r0,r1)):
    Calls Tryz.prog 57 #[vP g0 0, .agg (gN W.aI W.aJ W.eU W.aQ W.dz W.dL W.aU W.ay W.bf W.cz W.aY W.aH W.dG W.bT W.xN W.dI W.bO.bJ W.bO.bW cO fo bL bH fq bf cZ fu bO).toArray] w (dW fun v w'=> ∃ (B0ox0:Option Addr) (b0ox0:Nat) (e0ox0:List bA) (B1ox1:Option Addr) (b1ox1:Nat) (e1ox1:List az) (B1ox2:Option Addr) (b1ox2:Nat) (e1ox2:List aX) (B1ox3:Option Addr) (b1ox3:Nat) (e1ox3:List bB) (B1ox4:Option Addr) (b1ox4:Nat) (e1ox4:List af) (B1ox5:Option Addr) (b1ox5:Nat) (e1ox5:List af) (B1ox6:Option Addr) (b1ox6:Nat) (e1ox6:List af) (B1ox7:Option Addr) (b1ox7:Nat) (e1ox7:List af) (B1ox8:Option Addr) (b1ox8:Nat) (e1ox8:List af),v= .tuple #[]∧Own w D w' [blk g0 [vP X 0, .slice B0ox0 r0.bE.ls.length b0ox0] 98,row B0ox0 r0.bE.ls.length b0ox0 (List.flatMap bA.cells e0ox0) 42 21,sepL (List.flatMap bA.own e0ox0),blk X [vI r1.aa.au,vU r1.aa.ay,vU r1.aa.aY,vU r1.aa.aH, .slice aH b.aa.ag.ls.length aI, .slice B1ox1 r1.aa.aj.ls.length b1ox1, .slice B1ox2 r1.aa.aG.ls.length b1ox2,vU r1.bH, .slice B1ox3 r1.aB.ls.length b1ox3, .bool r1.aR.aS,vU r1.aR.aK,vI r1.aR.bi, .slice B1ox4 r1.aR.ae.ls.length b1ox4, .bool r1.aN.aS,vU r1.aN.aK,vI r1.aN.bi, .slice B1ox5 r1.aN.ae.ls.length b1ox5, .bool r1.aM.aS,vU r1.aM.aK,vI r1.aM.bi, .slice B1ox6 r1.aM.ae.ls.length b1ox6, .bool r1.aO.aS,vU r1.aO.aK,vI r1.aO.bi, .slice B1ox7 r1.aO.ae.ls.length b1ox7, .bool r1.aP.aS,vU r1.aP.aK,vI r1.aP.bi, .slice B1ox8 r1.aP.ae.ls.length b1ox8,vU r1.di,vU r1.cB,vU r1.cZ,vU r1.cK,vU r1.cO, .pointer none] 86,row B1ox1 r1.aa.aj.ls.length b1ox1 (List.flatMap az.cells e1ox1) 60 5,sepL (List.flatMap az.own e1ox1),row B1ox2 r1.aa.aG.ls.length b1ox2 (List.flatMap aX.cells e1ox2) 56 4,sepL (List.flatMap aX.own e1ox2),row B1ox3 r1.aB.ls.length b1ox3 (List.flatMap bB.cells e1ox3) 107 9,sepL (List.flatMap bB.own e1ox3),row B1ox4 r1.aR.ae.ls.length b1ox4 (List.flatMap af.cells e1ox4) 149 3,sepL (List.flatMap af.own e1ox4),row B1ox5 r1.aN.ae.ls.length b1ox5 (List.flatMap af.cells e1ox5) 149 3,sepL (List.flatMap af.own e1ox5),row B1ox6 r1.aM.ae.ls.length b1ox6 (List.flatMap af.cells e1ox6) 149 3,sepL (List.flatMap af.own e1ox6),row B1ox7 r1.aO.ae.ls.length b1ox7 (List.flatMap af.cells e1ox7) 149 3,sepL (List.flatMap af.own e1ox7),row B1ox8 r1.aP.ae.ls.length b1ox8 (List.flatMap af.cells e1ox8) 149 3,sepL (List.flatMap af.own e1ox8)]∧(List.map bA.abs e0ox0=r0.bE.ls)∧(List.map az.abs e1ox1=r1.aa.aj.ls)∧(List.map aX.abs e1ox2=r1.aa.aG.ls)∧(List.map bB.abs e1ox3=r1.aB.ls)∧(List.map af.abs e1ox4=r1.aR.ae.ls)∧(List.map af.abs e1ox5=r1.aN.ae.ls)∧(List.map af.abs e1ox6=r1.aM.ae.ls)∧(List.map af.abs e1ox7=r1.aO.ae.ls)∧(List.map af.abs e1ox8=r1.aP.ae.ls)):=by
 subst fP fV fZ
 have lZ:=aA aK
 have l5:=aA bX
 have gX:=aA ah
 have gY:=aA aj
 have gZ:=aA U
 have ib:=aA ak
 have ic:=aA au
 have ig:=aA av
 have il:=aA ay
 have iq:=aA aB
 have ma:=H.rowC (i:=1) rfl
 have iw:=H.rowC (i:=4) rfl
 have iy:=H.rowC (i:=6) rfl
 have iA:=H.rowC (i:=8) rfl
 have iB:=H.rowC (i:=10) rfl
 have iD:=H.rowC (i:=12) rfl
 have iE:=H.rowC (i:=14) rfl
 have iF:=H.rowC (i:=16) rfl
 have iG:=H.rowC (i:=18) rfl
 refine cb Tryz.func57 ?_
 refine sr ?_
 refine dP (gP W cO bL bH bf cZ bO) 42 H ?_
 intro di qJ mf
 refine nt (EP ?_)
 refine wS [] (E9 Fp) mf ?_
 intro qK bF
 refine qv 0 rfl rfl (qp g0 0 1 rfl (qp g0 0 2 rfl (ql 3 rfl 1 Tryz.isAgg24 rfl rfl rfl (qp di 8 4 rfl (ql 5 rfl 0 Tryz.isAgg28 rfl rfl rfl ?_)))))
 refine GX.do 6 rfl (by kernel_rfl) (Fe Tryz.call62 rfl ?_ (fun _ _ k=>k))
 refine cb Tryz.func62 ?_
 refine sr (Az rfl (Ar rfl (Mz rfl (Kz (vP X 0) (Kz (vP X 8) (Lz (.slice d b.aB.ls.length m) bF 4 Tryz.isAgg79 (Mz rfl ?_)))))))
 obtain⟨⟨h,bR⟩,aS⟩:∃ q:Int × Bool,dB b.aB.ls W.bf=q:=⟨_,rfl⟩
 obtain⟨qM,iI,o9,iJ,aP⟩:=EU bF
 refine cl Tryz.call102 (iH _ _ d b.aB.ls.length m j b.aB.ls W.bf h bR iI U (aP _ 9 _ rfl aT) (fun x9 h9=>⟨aP _ 10 _ rfl (ax (List.mem_flatMap.2 ⟨x9,h9, .head _⟩) aT),bz (φ:=fun _=>_) bF (i:=10) rfl (ax (List.mem_flatMap.2 ⟨x9,h9, .head _⟩) bn),aP _ 10 _ rfl (ax (List.mem_flatMap.2 ⟨x9,h9, .tail _ (.head _)⟩) aT),bz (φ:=fun _=>_) bF (i:=10) rfl (ax (List.mem_flatMap.2 ⟨x9,h9, .tail _ (.head _)⟩) bn),(fun y1 k1=>⟨aP _ 10 _ rfl (ax (List.mem_flatMap.2 ⟨x9,h9, .tail _ (.tail _ (.tail _ (.tail _ (.head _))))⟩) (ax (List.mem_flatMap.2 ⟨y1,k1, .head _⟩) aT)),bz (φ:=fun _=>_) bF (i:=10) rfl (ax (List.mem_flatMap.2 ⟨x9,h9, .tail _ (.tail _ (.tail _ (.tail _ (.head _))))⟩) (ax (List.mem_flatMap.2 ⟨y1,k1, .head _⟩) bn)),aP _ 10 _ rfl (ax (List.mem_flatMap.2 ⟨x9,h9, .tail _ (.tail _ (.tail _ (.tail _ (.head _))))⟩) (ax (List.mem_flatMap.2 ⟨y1,k1, .tail _ (.head _)⟩) aT)),bz (φ:=fun _=>_) bF (i:=10) rfl (ax (List.mem_flatMap.2 ⟨x9,h9, .tail _ (.tail _ (.tail _ (.tail _ (.head _))))⟩) (ax (List.mem_flatMap.2 ⟨y1,k1, .tail _ (.head _)⟩) bn))⟩),aP _ 10 _ rfl (ax (List.mem_flatMap.2 ⟨x9,h9, .tail _ (.tail _ (.head _))⟩) aT),bz (φ:=fun _=>_) bF (i:=10) rfl (ax (List.mem_flatMap.2 ⟨x9,h9, .tail _ (.tail _ (.head _))⟩) bn),aP _ 10 _ rfl (ax (List.mem_flatMap.2 ⟨x9,h9, .tail _ (.tail _ (.tail _ (.head _)))⟩) aT),bz (φ:=fun _=>_) bF (i:=10) rfl (ax (List.mem_flatMap.2 ⟨x9,h9, .tail _ (.tail _ (.tail _ (.head _)))⟩) bn),(fun y1 k1=>⟨aP _ 10 _ rfl (ax (List.mem_flatMap.2 ⟨x9,h9, .tail _ (.tail _ (.tail _ (.tail _ (.tail _ (.head _)))))⟩) (ax (List.mem_flatMap.2 ⟨y1,k1, .head _⟩) aT)),bz (φ:=fun _=>_) bF (i:=10) rfl (ax (List.mem_flatMap.2 ⟨x9,h9, .tail _ (.tail _ (.tail _ (.tail _ (.tail _ (.head _)))))⟩) (ax (List.mem_flatMap.2 ⟨y1,k1, .head _⟩) bn)),(fun y2 k2=>⟨aP _ 10 _ rfl (ax (List.mem_flatMap.2 ⟨x9,h9, .tail _ (.tail _ (.tail _ (.tail _ (.tail _ (.head _)))))⟩) (ax (List.mem_flatMap.2 ⟨y1,k1, .tail _ (.head _)⟩) (ax (List.mem_flatMap.2 ⟨y2,k2, .head _⟩) aT))),bz (φ:=fun _=>_) bF (i:=10) rfl (ax (List.mem_flatMap.2 ⟨x9,h9, .tail _ (.tail _ (.tail _ (.tail _ (.tail _ (.head _)))))⟩) (ax (List.mem_flatMap.2 ⟨y1,k1, .tail _ (.head _)⟩) (ax (List.mem_flatMap.2 ⟨y2,k2, .head _⟩) bn)))⟩)⟩)⟩) rfl (by omega) aS) ?_
 rintro _ qN ⟨rfl,iK,fA,fB⟩
 have bg:=iJ _ _ iK
 replace fA:0≤h∧h≤((b.aB.ls.length:Nat):Int):=fA
 replace fB:Bool.toNat bR=0∨h < ((b.aB.ls.length:Nat):Int):=fB
 refine Kz (vI h) (Kz (.bool bR) (Az rfl (An rfl (rt (Fin.res (lS rfl rfl rfl) ?_)))))
 refine⟨.inr ⟨_,bg⟩, ?_⟩
 refine qv 7 rfl rfl (qk (vI h) 8 rfl (qk (.bool bR) 9 rfl (qa 10 rfl rfl (qa 11 rfl rfl (qn (ER (EP (sr (Mz rfl (Kz (.bool (!bR)) (nt ?_)))))))))))
 rcases IW (bR) with aY | aY
 have h39t:Bool.toNat bR=1:=by rw [aY]; rfl
 refine jF (cn aY) (sk (sr (Mz rfl (Kz (vP g0 0) (Kz (vP g0 0) (Lz (vP X 0) bg 1 Tryz.isAgg24 (Kz (vP X 0) (Kz (vP X 8) (Lz (.slice d b.aB.ls.length m) bg 4 Tryz.isAgg79 (fw (vJ (Int.toNat h)) (EQ (e:=h) (E5 rfl) (by omega)) ?_))))))))))
 obtain⟨a,l⟩:=dK (ls:=j) (i:=Int.toNat h) bB.len (by decide) (bg.rds (i:=9) rfl) (by first | omega | (simp; done) | (simp; omega))
 have bi:=eQ U l
 have pq:a.bU.ls.length≤a.bU.c∧a.bU.ls.length≤9223372036854775807:=bz bg (i:=10) rfl (φ:=fun _=>_) (ax (List.mem_flatMap.2 ⟨a,List.mem_of_getElem? l, .head _⟩) bn)
 have pu:a.aF.ls.length≤a.aF.c∧a.aF.ls.length≤9223372036854775807:=bz bg (i:=10) rfl (φ:=fun _=>_) (ax (List.mem_flatMap.2 ⟨a,List.mem_of_getElem? l, .tail _ (.head _)⟩) bn)
 have pz:a.bF.ls.length≤a.bF.c∧a.bF.ls.length≤9223372036854775807:=bz bg (i:=10) rfl (φ:=fun _=>_) (ax (List.mem_flatMap.2 ⟨a,List.mem_of_getElem? l, .tail _ (.tail _ (.head _))⟩) bn)
 have pE:a.ae.ls.length≤a.ae.c∧a.ae.ls.length≤9223372036854775807:=bz bg (i:=10) rfl (φ:=fun _=>_) (ax (List.mem_flatMap.2 ⟨a,List.mem_of_getElem? l, .tail _ (.tail _ (.tail _ (.head _)))⟩) bn)
 have aM:Tok (bB.abs a):=xn (by first | assumption | exact Mk.act (by assumption)) bi
 have pF:1≤a.aW∧a.aW≤4:=aM.zM
 have pG:a.bF.ls.length=a.aF.ls.length:=by have q9:=aM.yes; simp only [bB.abs,List.length_map] at q9; exact q9
 have pI:a.ae.ls.length=a.aF.ls.length:=by have q9:=aM.res; simp only [bB.abs,List.length_map] at q9; exact q9
 have pJ:a.aF.ls.length≤5:=by have q9:=aM.len; simp only [bB.abs,List.length_map] at q9; exact q9
 have pM:a.bU.ls.length≤24:=aM.ops.1
 refine fw (.pointer (some ⟨ab d,ao d+(Int.toNat h) *9,none⟩)) (ET (oQ) rfl rfl ((bg.rds (i:=9) rfl).addr (i:=Int.toNat h) (by omega)) (by omega)) (Ar rfl ?_)
 have mg:=bg.pf [10]
 have dm:=GN (f:=bB.own) (i:=Int.toNat h) (row a.bU.A a.bU.ls.length a.bU.c (List.flatMap bC.cells a.bU.ls) 72 6) (row a.aF.A a.aF.ls.length a.aF.c (List.flatMap bG.cells a.aF.ls) 172 3) (row a.bF.A a.bF.ls.length a.bF.c (List.flatMap eL a.bF.ls) 4 1) (row a.ae.A a.ae.ls.length a.ae.c (List.flatMap (FJ (β:=af)) a.ae.ls) 40 1) (sepL (List.flatMap bG.own a.aF.ls)) (sepL (List.flatMap bM.own a.ae.ls)) rfl l mg
 have pO:=dm.rowC (i:=0) rfl
 have pQ:=dm.rowC (i:=1) rfl
 have pR:a.aF.ls.length=List.length (List.map bG.abs a.aF.ls):=aA (rfl:List.map bG.abs a.aF.ls=List.map bG.abs a.aF.ls)
 have pU:=dm.rowC (i:=2) rfl
 have pV:=dm.rowC (i:=3) rfl
 have pW:a.ae.ls.length=List.length (List.map bM.abs a.ae.ls):=aA (rfl:List.map bM.abs a.ae.ls=List.map bM.abs a.ae.ls)
 refine Mz rfl (Kz (.pointer (some ⟨ab d,ao d+(Int.toNat h) *9,none⟩)) (Kz (.pointer (some ⟨ab d,ao d+(Int.toNat h) *9+5,none⟩)) (fw (.slice a.aF.A a.aF.ls.length a.aF.c) (EY rfl (bZ.one Tryz.isAgg103 (((dm.rds (i:=16) rfl).elem bB.len l (by decide)).at_ (k:=5) rfl))) (Kz (.func (.func 92) #[] #[vP di 0]) ?_))))
 have gp:=dm.pf [7]
 have pX:a.aF.ls.length=List.length (List.map bG.abs a.aF.ls):=(by first | rfl | omega | (simp only [List.length_append,List.length_cons,List.length_nil,List.length_take,List.length_drop,List.length_set,List.length_replicate,List.length_map] <;> omega))
 obtain⟨g,bq⟩:∃ q,ik (List.map bG.abs a.aF.ls) W=q:=⟨_,rfl⟩
 obtain⟨qO,iM,df,iO,dx⟩:=Fu gp
 refine cl Tryz.call91 (nG _ _ a.aF.A a.aF.ls.length a.aF.c a.aF.ls (List.map bG.abs a.aF.ls) di W cO bL bH bf bN cZ bO g iM (rfl:List.map bG.abs a.aF.ls=List.map bG.abs a.aF.ls) (dx _ 1 _ rfl aT) (fun x9 h9=>⟨dx _ 4 _ rfl (ax (List.mem_flatMap.2 ⟨x9,h9, .head _⟩) aT),bz (φ:=fun _=>_) gp (i:=5) rfl (ax (List.mem_flatMap.2 ⟨x9,h9, .head _⟩) bn),dx _ 4 _ rfl (ax (List.mem_flatMap.2 ⟨x9,h9, .tail _ (.head _)⟩) aT),bz (φ:=fun _=>_) gp (i:=5) rfl (ax (List.mem_flatMap.2 ⟨x9,h9, .tail _ (.head _)⟩) bn)⟩) (by first | rfl | omega | (simp only [List.length_append,List.length_cons,List.length_nil,List.length_take,List.length_drop,List.length_set,List.length_replicate,List.length_map] <;> omega)) (by first | omega | (simp only [List.length_append,List.length_cons,List.length_nil,List.length_take,List.length_drop,List.length_set]; omega)) (df _ fQ) (show W.aD.ls.length≤bL∧W.aD.ls.length≤9223372036854775807 from by omega) bX (df _ dw) (show W.ah.ls.length≤bf∧W.ah.ls.length≤9223372036854775807 from by omega) (fun x9 h9=>⟨df _ (bJ x9 h9).1,(bJ x9 h9).2⟩) (df _ gm) (show W.ag.ls.length≤bO∧W.ag.ls.length≤9223372036854775807 from by omega) bq) ?_
 rintro _ qP ⟨rfl,iP,fD⟩
 have bY:=iO _ _ iP
 replace fD: -1≤g∧g < ((List.length (List.map bG.abs a.aF.ls):Nat):Int):=fD
 refine An rfl (EP (sr (Mz rfl (Kz (.bool (decide (g < 0))) (Mz rfl ?_)))))
 by_cases aJ:g < 0
 refine Sz (dT aJ) (Sz (dT aJ) (Sz (dT aJ) (Sz (dT aJ) (Sz (dT aJ) (Sz (dT aJ) (Sz (dT aJ) (fw (.bool true) (Fa rfl (dT aJ) rfl) (nt (jt (rt (tR (Fin.res (res0 rfl) ?_))))))))))))
 have mh:=bY.pf [1,2,3,4,5,6,7]
 have dz:=qB (f:=bB.own) l mh
 have pY:a.bU.ls.length≤a.bU.c∧a.bU.ls.length≤9223372036854775807:=bz dz (i:=0) rfl (φ:=fun _=>_) (ax (List.mem_flatMap.2 ⟨a,List.mem_of_getElem? l, .head _⟩) bn)
 have p8:a.aF.ls.length≤a.aF.c∧a.aF.ls.length≤9223372036854775807:=bz dz (i:=0) rfl (φ:=fun _=>_) (ax (List.mem_flatMap.2 ⟨a,List.mem_of_getElem? l, .tail _ (.head _)⟩) bn)
 have p9:a.bF.ls.length≤a.bF.c∧a.bF.ls.length≤9223372036854775807:=bz dz (i:=0) rfl (φ:=fun _=>_) (ax (List.mem_flatMap.2 ⟨a,List.mem_of_getElem? l, .tail _ (.tail _ (.head _))⟩) bn)
 have qb:a.ae.ls.length≤a.ae.c∧a.ae.ls.length≤9223372036854775807:=bz dz (i:=0) rfl (φ:=fun _=>_) (ax (List.mem_flatMap.2 ⟨a,List.mem_of_getElem? l, .tail _ (.tail _ (.tail _ (.head _)))⟩) bn)
 have mi:=dz.px [2,3,4,5,6,7,8,9,10] [1] []
 obtain⟨rfl,rfl⟩:=fT (hr.symm.trans (show _=(p0,b) from et (ai aS) (et (ip aY) (et (ai (bI bi)) (et (ai bq) (ip aJ))))))
 exact⟨ae,ag,aa,n,p,z,r,s,B,d,m,j,J,K,C,L,M,E,N,O,F,P,Q,G,R,S,I,rfl,mi,aK,ah,aj,U,ak,au,av,ay,aB⟩
 refine gw (.pointer (some ⟨ab d,ao d+(Int.toNat h) *9,none⟩)) (dF aJ) (E5 rfl) (Gz (.pointer (some ⟨ab d,ao d+(Int.toNat h) *9,none⟩)) (dF aJ) (Gz (.pointer (some ⟨ab d,ao d+(Int.toNat h) *9+6,none⟩)) (dF aJ) (gw (.slice a.bF.A a.bF.ls.length a.bF.c) (dF aJ) (EY rfl (bZ.one Tryz.isAgg104 (((bY.rds (i:=16) rfl).elem bB.len l (by decide)).at_ (k:=6) rfl))) (gw (vJ (Int.toNat g)) (dF aJ) (EQ (e:=g) (E5 rfl) (by omega)) ?_))))
 obtain⟨gq,aU⟩:=dK (ls:=a.bF.ls) (i:=Int.toNat g) nW (by decide) (bY.rds (i:=3) rfl) (by first | omega | (simp; done) | (simp; omega))
 refine gw (.pointer (some ⟨ab a.bF.A,ao a.bF.A+(Int.toNat g) *1,none⟩)) (dF aJ) (ET (wV) rfl rfl ((bY.rds (i:=3) rfl).addr (i:=Int.toNat g) (by omega)) (by omega)) (gw (.bool gq) (dF aJ) (EY rfl (bZ.one Tryz.isAgg4 (((bY.rds (i:=3) rfl).elem nW aU (by decide)).at_ (k:=0) rfl))) (fw (.bool gq) (ES rfl (dF aJ) rfl) (nt ?_)))
 rcases IW (gq) with bS | bS
 refine jT bS (rt (tR (Fin.res (res0 rfl) ?_)))
 have mo:=bY.pf [1,2,3,4,5,6,7]
 have dA:=qB (f:=bB.own) l mo
 have qc:a.bU.ls.length≤a.bU.c∧a.bU.ls.length≤9223372036854775807:=bz dA (i:=0) rfl (φ:=fun _=>_) (ax (List.mem_flatMap.2 ⟨a,List.mem_of_getElem? l, .head _⟩) bn)
 have qf:a.aF.ls.length≤a.aF.c∧a.aF.ls.length≤9223372036854775807:=bz dA (i:=0) rfl (φ:=fun _=>_) (ax (List.mem_flatMap.2 ⟨a,List.mem_of_getElem? l, .tail _ (.head _)⟩) bn)
 have qg:a.bF.ls.length≤a.bF.c∧a.bF.ls.length≤9223372036854775807:=bz dA (i:=0) rfl (φ:=fun _=>_) (ax (List.mem_flatMap.2 ⟨a,List.mem_of_getElem? l, .tail _ (.tail _ (.head _))⟩) bn)
 have qh:a.ae.ls.length≤a.ae.c∧a.ae.ls.length≤9223372036854775807:=bz dA (i:=0) rfl (φ:=fun _=>_) (ax (List.mem_flatMap.2 ⟨a,List.mem_of_getElem? l, .tail _ (.tail _ (.tail _ (.head _)))⟩) bn)
 have mq:=dA.px [2,3,4,5,6,7,8,9,10] [1] []
 obtain⟨rfl,rfl⟩:=fT (hr.symm.trans (show _=(p0,b) from et (ai aS) (et (ip aY) (et (ai (bI bi)) (et (ai bq) (et (iN aJ) (et (ai (bI aU)) (ip bS))))))))
 exact⟨ae,ag,aa,n,p,z,r,s,B,d,m,j,J,K,C,L,M,E,N,O,F,P,Q,G,R,S,I,rfl,mq,aK,ah,aj,U,ak,au,av,ay,aB⟩
 refine jF bS (sk (EP (EP ?_)))
 refine oF 27 [] (E9 (E9 Fp)) bY ?_
 intro qQ gu
 refine qp di 4 0 rfl (ql 1 rfl 0 Tryz.isAgg3 rfl rfl rfl (qt (v:= .bool (decide (¬ (W.dz=3)))) 2 rfl (fun _ _=>Fq (e:= !(decide (W.dz=3))) yk decide_not.symm) (qv 3 rfl rfl ?_)))
 by_cases V:W.dz=3
 refine EZ (v:=vP di 19) (rs:= []) 4 rfl rfl rfl (dF (IV V)) (by kernel_rfl) (fun _ _=>yk) (EZ (v:= .slice bH W.ah.ls.length bf) (rs:= []) 5 rfl rfl rfl (dF (IV V)) (by kernel_rfl) (fun _ ⟨_,H9⟩=>EY rfl (bZ.one Tryz.isAgg40 (FE (H9.cls (i:=0) rfl) rfl))) (EZ (v:=vJ W.ah.ls.length) (rs:= []) 6 rfl rfl rfl (dF (IV V)) (by kernel_rfl) (fun _ _=>yk) (EZ (v:= .pointer (some ⟨ab d,ao d+(Int.toNat h) *9,none⟩)) (rs:= []) 7 rfl rfl rfl (dF (IV V)) (by kernel_rfl) (fun _ _=>E5 rfl) (EZ (v:= .pointer (some ⟨ab d,ao d+(Int.toNat h) *9,none⟩)) (rs:= []) 8 rfl rfl rfl (dF (IV V)) (by kernel_rfl) (fun _ _=>yk) (EZ (v:= .pointer (some ⟨ab d,ao d+(Int.toNat h) *9+5,none⟩)) (rs:= []) 9 rfl rfl rfl (dF (IV V)) (by kernel_rfl) (fun _ _=>yk) (EZ (v:= .slice a.aF.A a.aF.ls.length a.aF.c) (rs:= []) 10 rfl rfl rfl (dF (IV V)) (by kernel_rfl) (fun _ ⟨_,H9⟩=>EY rfl (bZ.one Tryz.isAgg103 (((H9.rds (i:=16) rfl).elem bB.len l (by decide)).at_ (k:=5) rfl))) (EZ (v:=vJ (Int.toNat g)) (rs:= []) 11 rfl rfl rfl (dF (IV V)) (by kernel_rfl) (fun _ _=>EQ (e:=g) (E5 rfl) (by omega)) ?_)))))))
 obtain⟨bT,fE⟩:=jl (ls:=a.aF.ls) (i:=Int.toNat g) (by first | omega | (simp; done) | (simp; omega))
 have dD:=eQ (rfl:List.map bG.abs a.aF.ls=List.map bG.abs a.aF.ls) fE
 refine EZ (v:= .pointer (some ⟨ab a.aF.A,ao a.aF.A+(Int.toNat g) *3,none⟩)) (rs:= []) 12 rfl rfl rfl (dF (IV V)) (by kernel_rfl) (fun _ ⟨_,H9⟩=>ET (sI) rfl rfl ((H9.rds (i:=2) rfl).addr (i:=Int.toNat g) (by omega)) (by omega)) (EZ (v:= .pointer (some ⟨ab a.aF.A,ao a.aF.A+(Int.toNat g) *3+1,none⟩)) (rs:= []) 13 rfl rfl rfl (dF (IV V)) (by kernel_rfl) (fun _ _=>yk) (EZ (v:= .slice bT.aD.A bT.aD.ls.length bT.aD.c) (rs:= []) 14 rfl rfl rfl (dF (IV V)) (by kernel_rfl) (fun _ ⟨_,H9⟩=>EY rfl (bZ.one Tryz.isAgg39 (((H9.rds (i:=2) rfl).elem bG.len fE (by decide)).at_ (k:=1) rfl))) (EZ (v:=vJ bT.aD.ls.length) (rs:= []) 15 rfl rfl rfl (dF (IV V)) (by kernel_rfl) (fun _ _=>yk) (EZ (v:= .bool (decide (¬ (((W.ah.ls.length:Nat):Int)=((bT.aD.ls.length:Nat):Int))))) (rs:= []) 16 rfl rfl rfl (dF (IV V)) (by kernel_rfl) (fun _ _=>Fq (e:= !(decide (((W.ah.ls.length:Nat):Int)=((bT.aD.ls.length:Nat):Int)))) yk decide_not.symm) (qt (v:= .bool (decide (¬ (((W.ah.ls.length:Nat):Int)=((bT.aD.ls.length:Nat):Int))))) 17 rfl (fun _ _=>ES rfl (dF (IV V)) rfl) (qn (ER ?_)))))))
 by_cases dE:((W.ah.ls.length:Nat):Int)=((bT.aD.ls.length:Nat):Int)
 refine jF (dF (IV dE)) (sk (EP ?_))
 refine oF 27 [14,16] (E9 Fp) gu ?_
 intro qR iQ
 refine qv 0 rfl rfl (qk (.pointer (some ⟨ab d,ao d+(Int.toNat h) *9,none⟩)) 1 rfl (qk (.pointer (some ⟨ab d,ao d+(Int.toNat h) *9+6,none⟩)) 2 rfl (qt (v:= .slice a.bF.A a.bF.ls.length a.bF.c) 3 rfl (fun _ ⟨_,H9⟩=>EY rfl (bZ.one Tryz.isAgg104 (((H9.rds (i:=16) rfl).elem bB.len l (by decide)).at_ (k:=6) rfl))) (qt (v:=vJ (Int.toNat g)) 4 rfl (fun _ _=>EQ (e:=g) (E5 rfl) (by omega)) (qv 5 rfl rfl (qk (.pointer (some ⟨ab d,ao d+(Int.toNat h) *9,none⟩)) 6 rfl (qk (.pointer (some ⟨ab d,ao d+(Int.toNat h) *9+7,none⟩)) 7 rfl (qt (v:= .slice a.ae.A a.ae.ls.length a.ae.c) 8 rfl (fun _ ⟨_,H9⟩=>EY rfl (bZ.one Tryz.isAgg105 (((H9.rds (i:=16) rfl).elem bB.len l (by decide)).at_ (k:=7) rfl))) (Fz (v:=vJ (Int.toNat g)) 9 rfl (by kernel_rfl) (fun _=>EQ (e:=g) (E5 rfl) (by omega)) (qp di 19 10 rfl (ql 11 rfl 0 Tryz.isAgg40 rfl rfl rfl ?_)))))))))))
 obtain⟨Y,bK⟩:∃ q,jc W.ah.ls=q:=⟨_,rfl⟩
 obtain⟨qi,gz,dG,gB,mr⟩:=EU iQ
 refine qd 12 rfl (Fe Tryz.call48 rfl (lM _ _ bH W.ah.ls.length bf bN W.ah.ls Y gz bX (dG _ dw) (fun x9 h9=>⟨dG _ (bJ x9 h9).1,(bJ x9 h9).2⟩) rfl (by omega) (by first | assumption | exact dH (by assumption) | (intro x hx; exact absurd hx List.not_mem_nil)) bK) ?_)
 rintro _ qj ⟨t,u,T,rfl,gD,aN⟩
 have fF:=gB _ _ gD
 have mD:=aA aN
 have mF:=fF.rowC (i:=0) rfl
 have mG:mK Y:=by rw [← bK]; show mK W.ah.ls; assumption
 have fG:=fF.pb [0,1]
 refine⟨.inr ⟨_,fG⟩, ?_⟩
 refine qt (v:= .pointer (some ⟨ab a.bF.A,ao a.bF.A+(Int.toNat g) *1,none⟩)) 13 rfl (fun _ ⟨_,H9⟩=>ET (wV) rfl rfl ((H9.rds (i:=3) rfl).addr (i:=Int.toNat g) (by omega)) (by omega)) ?_
 have iR:=fG.pf [3]
 refine qe 14 rfl (Do.storeRow (vs:= [.bool true]) (o:=(Int.toNat g) *1+0) (q:=ao a.bF.A+(Int.toNat g) *1) iR rfl (by omega) rfl Tryz.sizeOf4 rfl rfl (IQ rfl) (iL nW aU (IQ rfl)) (jA (y:=true) nW rfl (IQ rfl) aU) ?_)
 intro qm fH
 refine⟨.inl (by kernel_rfl), ?_⟩
 obtain⟨bu,bE⟩:=jl (ls:=a.ae.ls) (i:=Int.toNat g) (by first | omega | (simp; done) | (simp; omega))
 have mH:=eQ (rfl:List.map bM.abs a.ae.ls=List.map bM.abs a.ae.ls) bE
 refine Fz (v:= .pointer (some ⟨ab a.ae.A,ao a.ae.A+(Int.toNat g) *1,none⟩)) 15 rfl (by kernel_rfl) (fun _=>ET (vN) rfl rfl ((fH.rds (i:=4) rfl).addr (i:=Int.toNat g) (by omega)) (by omega)) ?_
 have iT:=fH.pf [6]
 have iU:=GM (f:=bM.own) (i:=Int.toNat g) (row bu.A bu.ls.length bu.c (List.flatMap af.cells bu.ls) 149 3) (sepL (List.flatMap af.own bu.ls)) rfl bE iT
 have iV:=iU.px [] [0,1] []
 have iW:=iV.pf [27,28]
 have iX:=FK (aA aN).symm iW
 have iY:=FN (f:=bM.own) (y:=(Sv.mk t u T)) bE iX
 have iZ:=iY.pf [5]
 refine qe 16 rfl (Do.storeRow (vs:= [.slice t Y.length u]) (o:=(Int.toNat g) *1+0) (q:=ao a.ae.A+(Int.toNat g) *1) iZ rfl (by omega) rfl Tryz.sizeOf40 rfl rfl (IQ rfl) (iL qL bE (IQ rfl)) (jA (x:=bu) (f:=0) (vs:= [.slice t Y.length u]) (y:=(Sv.mk t u T)) qL (show put ((FJ (β:=af)) bu) 0 ([.slice t Y.length u]:List Value)=(FJ (β:=af)) (Sv.mk t u T) from congrArg (fun z9=>([.slice t z9 u]:List Value)) (aA aN).symm) (IQ rfl) bE) ?_)
 intro qo ja
 have mI:List.length (List.set a.ae.ls (Int.toNat g) (Sv.mk t u T))=List.length (List.set (List.map bM.abs a.ae.ls) (Int.toNat g) (Ll.mk Y)):=aA (iC (rfl:List.map bM.abs a.ae.ls=List.map bM.abs a.ae.ls) (congrArg Ll.mk aN))
 have mM:List.length (List.set (List.map bM.abs a.ae.ls) (Int.toNat g) (Ll.mk Y))=List.length (List.map bM.abs a.ae.ls):=List.length_set
 refine⟨.inl (by kernel_rfl), ?_⟩
 refine qn (ER (EP ?_))
 have fI:=ja.px [] [3] []
 refine EO (Mz rfl (Kz (.pointer (some ⟨ab d,ao d+(Int.toNat h) *9,none⟩)) (Kz (.pointer (some ⟨ab d,ao d+(Int.toNat h) *9+6,none⟩)) (fw (.slice a.bF.A a.bF.ls.length a.bF.c) (EY rfl (bZ.one Tryz.isAgg104 (((fI.rds (i:=15) rfl).elem bB.len l (by decide)).at_ (k:=6) rfl))) ?_))))
 have mO:a.bF.ls.length=List.length (List.set a.bF.ls (Int.toNat g) true):=(by first | rfl | omega | (simp only [List.length_append,List.length_cons,List.length_nil,List.length_take,List.length_drop,List.length_set,List.length_replicate,List.length_map] <;> omega))
 obtain⟨dI,cu⟩:∃ q,l6 (List.set a.bF.ls (Int.toNat g) true) false=q:=⟨_,rfl⟩
 obtain⟨qw,gF,mP,gG,gH⟩:=EU fI
 refine cl Tryz.call93 (qG _ _ a.bF.A a.bF.ls.length a.bF.c (List.set a.bF.ls (Int.toNat g) true) false dI gF (gH _ 2 _ rfl aT) (by first | rfl | omega | (simp only [List.length_append,List.length_cons,List.length_nil,List.length_take,List.length_drop,List.length_set,List.length_replicate,List.length_map] <;> omega)) (by first | omega | (simp only [List.length_append,List.length_cons,List.length_nil,List.length_take,List.length_drop,List.length_set]; omega)) cu) ?_
 rintro _ dh ⟨rfl,gI⟩
 have fJ:=gG _ _ gI
 refine Kz (.bool (!dI)) (nt ?_)
 rcases IW (dI) with bU | bU
 refine jF (cn bU) (Fs (Ff (res0 rfl) ?_))
 have jb:=fJ.pf [2]
 have jd:=Fx (y:=row a.bF.A (List.length (List.set a.bF.ls (Int.toNat g) true)) a.bF.c (List.flatMap eL (List.set a.bF.ls (Int.toNat g) true)) 4 1) (congrArg (fun z9=>row a.bF.A z9 a.bF.c (List.flatMap eL (List.set a.bF.ls (Int.toNat g) true)) 4 1) (by simp only [List.length_set]:a.bF.ls.length=List.length (List.set a.bF.ls (Int.toNat g) true))) jb
 have je:=jd.pf [1]
 have jf:=Fx (y:=row a.ae.A (List.length (List.set a.ae.ls (Int.toNat g) (Sv.mk t u T))) a.ae.c (List.flatMap (FJ (β:=af)) (List.set a.ae.ls (Int.toNat g) (Sv.mk t u T))) 40 1) (congrArg (fun z9=>row a.ae.A z9 a.ae.c (List.flatMap (FJ (β:=af)) (List.set a.ae.ls (Int.toNat g) (Sv.mk t u T))) 40 1) (by simp only [List.length_set]:a.ae.ls.length=List.length (List.set a.ae.ls (Int.toNat g) (Sv.mk t u T)))) je
 have jg:=jf.pf [3,4,1,0,5]
 have ji:=FN (f:=bB.own) (y:=(bB.mk a.bq a.aW a.aK a.dA a.bU a.aF (Sv.mk a.bF.A a.bF.c (List.set a.bF.ls (Int.toNat g) true)) (Sv.mk a.ae.A a.ae.c (List.set a.ae.ls (Int.toNat g) (Sv.mk t u T))) a.ed)) l jg
 have jk:Own w D dh [sepL (List.flatMap bB.own (List.set j (Int.toNat h) (bB.mk a.bq a.aW a.aK a.dA a.bU a.aF (Sv.mk a.bF.A a.bF.c (List.set a.bF.ls (Int.toNat g) true)) (Sv.mk a.ae.A a.ae.c (List.set a.ae.ls (Int.toNat g) (Sv.mk t u T))) a.ed))),blk g0 [vP X 0, .slice ae p0.bE.ls.length ag] 98,row ae p0.bE.ls.length ag (List.flatMap bA.cells aa) 42 21,sepL (List.flatMap bA.own aa),blk X [vI b.aa.au,vU b.aa.ay,vU b.aa.aY,vU b.aa.aH, .slice aH b.aa.ag.ls.length aI, .slice n b.aa.aj.ls.length p, .slice r b.aa.aG.ls.length s,vU b.bH, .slice d b.aB.ls.length m, .bool b.aR.aS,vU b.aR.aK,vI b.aR.bi, .slice J b.aR.ae.ls.length K, .bool b.aN.aS,vU b.aN.aK,vI b.aN.bi, .slice L b.aN.ae.ls.length M, .bool b.aM.aS,vU b.aM.aK,vI b.aM.bi, .slice N b.aM.ae.ls.length O, .bool b.aO.aS,vU b.aO.aK,vI b.aO.bi, .slice P b.aO.ae.ls.length Q, .bool b.aP.aS,vU b.aP.aK,vI b.aP.bi, .slice R b.aP.ae.ls.length S,vU b.di,vU b.cB,vU b.cZ,vU b.cK,vU b.cO, .pointer none] 86,row n b.aa.aj.ls.length p (List.flatMap az.cells z) 60 5,sepL (List.flatMap az.own z),row r b.aa.aG.ls.length s (List.flatMap aX.cells B) 56 4,sepL (List.flatMap aX.own B),row d b.aB.ls.length m (List.flatMap bB.cells (List.set j (Int.toNat h) (bB.mk a.bq a.aW a.aK a.dA a.bU a.aF (Sv.mk a.bF.A a.bF.c (List.set a.bF.ls (Int.toNat g) true)) (Sv.mk a.ae.A a.ae.c (List.set a.ae.ls (Int.toNat g) (Sv.mk t u T))) a.ed))) 107 9,row J b.aR.ae.ls.length K (List.flatMap af.cells C) 149 3,sepL (List.flatMap af.own C),row L b.aN.ae.ls.length M (List.flatMap af.cells E) 149 3,sepL (List.flatMap af.own E),row N b.aM.ae.ls.length O (List.flatMap af.cells F) 149 3,sepL (List.flatMap af.own F),row P b.aO.ae.ls.length Q (List.flatMap af.cells G) 149 3,sepL (List.flatMap af.own G),row R b.aP.ae.ls.length S (List.flatMap af.cells I) 149 3,sepL (List.flatMap af.own I)]:=by rw [xY (f:=bB.cells) (y:=(bB.mk a.bq a.aW a.aK a.dA a.bU a.aF (Sv.mk a.bF.A a.bF.c (List.set a.bF.ls (Int.toNat g) true)) (Sv.mk a.ae.A a.ae.c (List.set a.ae.ls (Int.toNat g) (Sv.mk t u T))) a.ed)) l (by simp only [bB.cells,List.length_set])]; exact ji
 have mQ:List.length (List.set j (Int.toNat h) (bB.mk a.bq a.aW a.aK a.dA a.bU a.aF (Sv.mk a.bF.A a.bF.c (List.set a.bF.ls (Int.toNat g) true)) (Sv.mk a.ae.A a.ae.c (List.set a.ae.ls (Int.toNat g) (Sv.mk t u T))) a.ed))=List.length (List.set b.aB.ls (Int.toNat h) (dM.mk a.bq a.aW a.aK a.dA (Ll.mk a.bU.ls) (Ll.mk (List.map bG.abs a.aF.ls)) (Ll.mk (List.set a.bF.ls (Int.toNat g) true)) (Ll.mk (List.set (List.map bM.abs a.ae.ls) (Int.toNat g) (Ll.mk Y))) a.ed)):=aA (iC U (congrArg (fun z0=>(dM.mk a.bq a.aW a.aK a.dA (Ll.mk a.bU.ls) (Ll.mk (List.map bG.abs a.aF.ls)) (Ll.mk (List.set a.bF.ls (Int.toNat g) true)) (Ll.mk z0) a.ed)) (iC (rfl:List.map bM.abs a.ae.ls=List.map bM.abs a.ae.ls) (congrArg Ll.mk aN))))
 have mR:List.length (List.set b.aB.ls (Int.toNat h) (dM.mk a.bq a.aW a.aK a.dA (Ll.mk a.bU.ls) (Ll.mk (List.map bG.abs a.aF.ls)) (Ll.mk (List.set a.bF.ls (Int.toNat g) true)) (Ll.mk (List.set (List.map bM.abs a.ae.ls) (Int.toNat g) (Ll.mk Y))) a.ed))=b.aB.ls.length:=List.length_set
 have cz:b.aB.ls.length=List.length (List.set b.aB.ls (Int.toNat h) (dM.mk a.bq a.aW a.aK a.dA (Ll.mk a.bU.ls) (Ll.mk (List.map bG.abs a.aF.ls)) (Ll.mk (List.set a.bF.ls (Int.toNat g) true)) (Ll.mk (List.set (List.map bM.abs a.ae.ls) (Int.toNat g) (Ll.mk Y))) a.ed)):=by first | omega | (simp only [List.length_set]; done) | (simp only [List.length_set,List.length_append,List.length_cons,List.length_nil,List.length_take,List.length_drop,List.length_replicate]; omega)
 have jm:Own w D dh [sepL (List.flatMap bB.own (List.set j (Int.toNat h) (bB.mk a.bq a.aW a.aK a.dA a.bU a.aF (Sv.mk a.bF.A a.bF.c (List.set a.bF.ls (Int.toNat g) true)) (Sv.mk a.ae.A a.ae.c (List.set a.ae.ls (Int.toNat g) (Sv.mk t u T))) a.ed))),blk g0 [vP X 0, .slice ae p0.bE.ls.length ag] 98,row ae p0.bE.ls.length ag (List.flatMap bA.cells aa) 42 21,sepL (List.flatMap bA.own aa),blk X [vI b.aa.au,vU b.aa.ay,vU b.aa.aY,vU b.aa.aH, .slice aH b.aa.ag.ls.length aI, .slice n b.aa.aj.ls.length p, .slice r b.aa.aG.ls.length s,vU b.bH, .slice d (List.length (List.set b.aB.ls (Int.toNat h) (dM.mk a.bq a.aW a.aK a.dA (Ll.mk a.bU.ls) (Ll.mk (List.map bG.abs a.aF.ls)) (Ll.mk (List.set a.bF.ls (Int.toNat g) true)) (Ll.mk (List.set (List.map bM.abs a.ae.ls) (Int.toNat g) (Ll.mk Y))) a.ed))) m, .bool b.aR.aS,vU b.aR.aK,vI b.aR.bi, .slice J b.aR.ae.ls.length K, .bool b.aN.aS,vU b.aN.aK,vI b.aN.bi, .slice L b.aN.ae.ls.length M, .bool b.aM.aS,vU b.aM.aK,vI b.aM.bi, .slice N b.aM.ae.ls.length O, .bool b.aO.aS,vU b.aO.aK,vI b.aO.bi, .slice P b.aO.ae.ls.length Q, .bool b.aP.aS,vU b.aP.aK,vI b.aP.bi, .slice R b.aP.ae.ls.length S,vU b.di,vU b.cB,vU b.cZ,vU b.cK,vU b.cO, .pointer none] 86,row n b.aa.aj.ls.length p (List.flatMap az.cells z) 60 5,sepL (List.flatMap az.own z),row r b.aa.aG.ls.length s (List.flatMap aX.cells B) 56 4,sepL (List.flatMap aX.own B),row d (List.length (List.set b.aB.ls (Int.toNat h) (dM.mk a.bq a.aW a.aK a.dA (Ll.mk a.bU.ls) (Ll.mk (List.map bG.abs a.aF.ls)) (Ll.mk (List.set a.bF.ls (Int.toNat g) true)) (Ll.mk (List.set (List.map bM.abs a.ae.ls) (Int.toNat g) (Ll.mk Y))) a.ed))) m (List.flatMap bB.cells (List.set j (Int.toNat h) (bB.mk a.bq a.aW a.aK a.dA a.bU a.aF (Sv.mk a.bF.A a.bF.c (List.set a.bF.ls (Int.toNat g) true)) (Sv.mk a.ae.A a.ae.c (List.set a.ae.ls (Int.toNat g) (Sv.mk t u T))) a.ed))) 107 9,row J b.aR.ae.ls.length K (List.flatMap af.cells C) 149 3,sepL (List.flatMap af.own C),row L b.aN.ae.ls.length M (List.flatMap af.cells E) 149 3,sepL (List.flatMap af.own E),row N b.aM.ae.ls.length O (List.flatMap af.cells F) 149 3,sepL (List.flatMap af.own F),row P b.aO.ae.ls.length Q (List.flatMap af.cells G) 149 3,sepL (List.flatMap af.own G),row R b.aP.ae.ls.length S (List.flatMap af.cells I) 149 3,sepL (List.flatMap af.own I)]:=by rw [← cz]; exact jk
 have jo:=jm.pf [1,2,3,4,5,6,7,8,9]
 obtain⟨rfl,rfl⟩:=fT (hr.symm.trans (show _=(p0,aC.mk b.aa b.bH (Ll.mk (List.set b.aB.ls (Int.toNat h) (dM.mk a.bq a.aW a.aK a.dA (Ll.mk a.bU.ls) (Ll.mk (List.map bG.abs a.aF.ls)) (Ll.mk (List.set a.bF.ls (Int.toNat g) true)) (Ll.mk (List.set (List.map bM.abs a.ae.ls) (Int.toNat g) (Ll.mk Y))) a.ed))) b.aR b.aN b.aM b.aO b.aP b.di b.cB b.cZ b.cK b.cO) from et (ai aS) (et (ip aY) (et (ai (bI bi)) (et (ai bq) (et (iN aJ) (et (ai (bI aU)) (et (fU bS) (et (ip V) (et (ai (bI dD)) (et (ip dE) (et (ai bK) (et (ai cu) (ip bU))))))))))))))
 exact⟨ae,ag,aa,n,p,z,r,s,B,d,m,(List.set j (Int.toNat h) (bB.mk a.bq a.aW a.aK a.dA a.bU a.aF (Sv.mk a.bF.A a.bF.c (List.set a.bF.ls (Int.toNat g) true)) (Sv.mk a.ae.A a.ae.c (List.set a.ae.ls (Int.toNat g) (Sv.mk t u T))) a.ed)),J,K,C,L,M,E,N,O,F,P,Q,G,R,S,I,(by first | rfl | (rw [← cz]; done) | (rw [← cz]; rfl)),jo,aK,ah,aj,(iC U (congrArg (fun z0=>(dM.mk a.bq a.aW a.aK a.dA (Ll.mk a.bU.ls) (Ll.mk (List.map bG.abs a.aF.ls)) (Ll.mk (List.set a.bF.ls (Int.toNat g) true)) (Ll.mk z0) a.ed)) (iC (rfl:List.map bM.abs a.ae.ls=List.map bM.abs a.ae.ls) (congrArg Ll.mk aN)))),ak,au,av,ay,aB⟩
 refine jT (cn bU) (EO ?_)
 have jq:=fJ.pf [2]
 have jr:=Fx (y:=row a.bF.A (List.length (List.set a.bF.ls (Int.toNat g) true)) a.bF.c (List.flatMap eL (List.set a.bF.ls (Int.toNat g) true)) 4 1) (congrArg (fun z9=>row a.bF.A z9 a.bF.c (List.flatMap eL (List.set a.bF.ls (Int.toNat g) true)) 4 1) (by simp only [List.length_set]:a.bF.ls.length=List.length (List.set a.bF.ls (Int.toNat g) true))) jq
 have jv:=jr.pf [1]
 have jw:=Fx (y:=row a.ae.A (List.length (List.set a.ae.ls (Int.toNat g) (Sv.mk t u T))) a.ae.c (List.flatMap (FJ (β:=af)) (List.set a.ae.ls (Int.toNat g) (Sv.mk t u T))) 40 1) (congrArg (fun z9=>row a.ae.A z9 a.ae.c (List.flatMap (FJ (β:=af)) (List.set a.ae.ls (Int.toNat g) (Sv.mk t u T))) 40 1) (by simp only [List.length_set]:a.ae.ls.length=List.length (List.set a.ae.ls (Int.toNat g) (Sv.mk t u T)))) jv
 have jy:=jw.pf [3,4,1,0,5]
 have jB:=FN (f:=bB.own) (y:=(bB.mk a.bq a.aW a.aK a.dA a.bU a.aF (Sv.mk a.bF.A a.bF.c (List.set a.bF.ls (Int.toNat g) true)) (Sv.mk a.ae.A a.ae.c (List.set a.ae.ls (Int.toNat g) (Sv.mk t u T))) a.ed)) l jy
 have jC:Own w D dh [sepL (List.flatMap bB.own (List.set j (Int.toNat h) (bB.mk a.bq a.aW a.aK a.dA a.bU a.aF (Sv.mk a.bF.A a.bF.c (List.set a.bF.ls (Int.toNat g) true)) (Sv.mk a.ae.A a.ae.c (List.set a.ae.ls (Int.toNat g) (Sv.mk t u T))) a.ed))),blk g0 [vP X 0, .slice ae p0.bE.ls.length ag] 98,row ae p0.bE.ls.length ag (List.flatMap bA.cells aa) 42 21,sepL (List.flatMap bA.own aa),blk X [vI b.aa.au,vU b.aa.ay,vU b.aa.aY,vU b.aa.aH, .slice aH b.aa.ag.ls.length aI, .slice n b.aa.aj.ls.length p, .slice r b.aa.aG.ls.length s,vU b.bH, .slice d b.aB.ls.length m, .bool b.aR.aS,vU b.aR.aK,vI b.aR.bi, .slice J b.aR.ae.ls.length K, .bool b.aN.aS,vU b.aN.aK,vI b.aN.bi, .slice L b.aN.ae.ls.length M, .bool b.aM.aS,vU b.aM.aK,vI b.aM.bi, .slice N b.aM.ae.ls.length O, .bool b.aO.aS,vU b.aO.aK,vI b.aO.bi, .slice P b.aO.ae.ls.length Q, .bool b.aP.aS,vU b.aP.aK,vI b.aP.bi, .slice R b.aP.ae.ls.length S,vU b.di,vU b.cB,vU b.cZ,vU b.cK,vU b.cO, .pointer none] 86,row n b.aa.aj.ls.length p (List.flatMap az.cells z) 60 5,sepL (List.flatMap az.own z),row r b.aa.aG.ls.length s (List.flatMap aX.cells B) 56 4,sepL (List.flatMap aX.own B),row d b.aB.ls.length m (List.flatMap bB.cells (List.set j (Int.toNat h) (bB.mk a.bq a.aW a.aK a.dA a.bU a.aF (Sv.mk a.bF.A a.bF.c (List.set a.bF.ls (Int.toNat g) true)) (Sv.mk a.ae.A a.ae.c (List.set a.ae.ls (Int.toNat g) (Sv.mk t u T))) a.ed))) 107 9,row J b.aR.ae.ls.length K (List.flatMap af.cells C) 149 3,sepL (List.flatMap af.own C),row L b.aN.ae.ls.length M (List.flatMap af.cells E) 149 3,sepL (List.flatMap af.own E),row N b.aM.ae.ls.length O (List.flatMap af.cells F) 149 3,sepL (List.flatMap af.own F),row P b.aO.ae.ls.length Q (List.flatMap af.cells G) 149 3,sepL (List.flatMap af.own G),row R b.aP.ae.ls.length S (List.flatMap af.cells I) 149 3,sepL (List.flatMap af.own I)]:=by rw [xY (f:=bB.cells) (y:=(bB.mk a.bq a.aW a.aK a.dA a.bU a.aF (Sv.mk a.bF.A a.bF.c (List.set a.bF.ls (Int.toNat g) true)) (Sv.mk a.ae.A a.ae.c (List.set a.ae.ls (Int.toNat g) (Sv.mk t u T))) a.ed)) l (by simp only [bB.cells,List.length_set])]; exact jB
 have mU:List.length (List.set j (Int.toNat h) (bB.mk a.bq a.aW a.aK a.dA a.bU a.aF (Sv.mk a.bF.A a.bF.c (List.set a.bF.ls (Int.toNat g) true)) (Sv.mk a.ae.A a.ae.c (List.set a.ae.ls (Int.toNat g) (Sv.mk t u T))) a.ed))=List.length (List.set b.aB.ls (Int.toNat h) (dM.mk a.bq a.aW a.aK a.dA (Ll.mk a.bU.ls) (Ll.mk (List.map bG.abs a.aF.ls)) (Ll.mk (List.set a.bF.ls (Int.toNat g) true)) (Ll.mk (List.set (List.map bM.abs a.ae.ls) (Int.toNat g) (Ll.mk Y))) a.ed)):=aA (iC U (congrArg (fun z0=>(dM.mk a.bq a.aW a.aK a.dA (Ll.mk a.bU.ls) (Ll.mk (List.map bG.abs a.aF.ls)) (Ll.mk (List.set a.bF.ls (Int.toNat g) true)) (Ll.mk z0) a.ed)) (iC (rfl:List.map bM.abs a.ae.ls=List.map bM.abs a.ae.ls) (congrArg Ll.mk aN))))
 have mV:List.length (List.set b.aB.ls (Int.toNat h) (dM.mk a.bq a.aW a.aK a.dA (Ll.mk a.bU.ls) (Ll.mk (List.map bG.abs a.aF.ls)) (Ll.mk (List.set a.bF.ls (Int.toNat g) true)) (Ll.mk (List.set (List.map bM.abs a.ae.ls) (Int.toNat g) (Ll.mk Y))) a.ed))=b.aB.ls.length:=List.length_set
 refine Mz rfl (Mz rfl ?_)
 have cB:b.aB.ls.length=List.length (List.set b.aB.ls (Int.toNat h) (dM.mk a.bq a.aW a.aK a.dA (Ll.mk a.bU.ls) (Ll.mk (List.map bG.abs a.aF.ls)) (Ll.mk (List.set a.bF.ls (Int.toNat g) true)) (Ll.mk (List.set (List.map bM.abs a.ae.ls) (Int.toNat g) (Ll.mk Y))) a.ed)):=by first | omega | (simp only [List.length_set]; done) | (simp only [List.length_set,List.length_append,List.length_cons,List.length_nil,List.length_take,List.length_drop,List.length_replicate]; omega)
 have jD:Own w D dh [sepL (List.flatMap bB.own (List.set j (Int.toNat h) (bB.mk a.bq a.aW a.aK a.dA a.bU a.aF (Sv.mk a.bF.A a.bF.c (List.set a.bF.ls (Int.toNat g) true)) (Sv.mk a.ae.A a.ae.c (List.set a.ae.ls (Int.toNat g) (Sv.mk t u T))) a.ed))),blk g0 [vP X 0, .slice ae p0.bE.ls.length ag] 98,row ae p0.bE.ls.length ag (List.flatMap bA.cells aa) 42 21,sepL (List.flatMap bA.own aa),blk X [vI b.aa.au,vU b.aa.ay,vU b.aa.aY,vU b.aa.aH, .slice aH b.aa.ag.ls.length aI, .slice n b.aa.aj.ls.length p, .slice r b.aa.aG.ls.length s,vU b.bH, .slice d (List.length (List.set b.aB.ls (Int.toNat h) (dM.mk a.bq a.aW a.aK a.dA (Ll.mk a.bU.ls) (Ll.mk (List.map bG.abs a.aF.ls)) (Ll.mk (List.set a.bF.ls (Int.toNat g) true)) (Ll.mk (List.set (List.map bM.abs a.ae.ls) (Int.toNat g) (Ll.mk Y))) a.ed))) m, .bool b.aR.aS,vU b.aR.aK,vI b.aR.bi, .slice J b.aR.ae.ls.length K, .bool b.aN.aS,vU b.aN.aK,vI b.aN.bi, .slice L b.aN.ae.ls.length M, .bool b.aM.aS,vU b.aM.aK,vI b.aM.bi, .slice N b.aM.ae.ls.length O, .bool b.aO.aS,vU b.aO.aK,vI b.aO.bi, .slice P b.aO.ae.ls.length Q, .bool b.aP.aS,vU b.aP.aK,vI b.aP.bi, .slice R b.aP.ae.ls.length S,vU b.di,vU b.cB,vU b.cZ,vU b.cK,vU b.cO, .pointer none] 86,row n b.aa.aj.ls.length p (List.flatMap az.cells z) 60 5,sepL (List.flatMap az.own z),row r b.aa.aG.ls.length s (List.flatMap aX.cells B) 56 4,sepL (List.flatMap aX.own B),row d (List.length (List.set b.aB.ls (Int.toNat h) (dM.mk a.bq a.aW a.aK a.dA (Ll.mk a.bU.ls) (Ll.mk (List.map bG.abs a.aF.ls)) (Ll.mk (List.set a.bF.ls (Int.toNat g) true)) (Ll.mk (List.set (List.map bM.abs a.ae.ls) (Int.toNat g) (Ll.mk Y))) a.ed))) m (List.flatMap bB.cells (List.set j (Int.toNat h) (bB.mk a.bq a.aW a.aK a.dA a.bU a.aF (Sv.mk a.bF.A a.bF.c (List.set a.bF.ls (Int.toNat g) true)) (Sv.mk a.ae.A a.ae.c (List.set a.ae.ls (Int.toNat g) (Sv.mk t u T))) a.ed))) 107 9,row J b.aR.ae.ls.length K (List.flatMap af.cells C) 149 3,sepL (List.flatMap af.own C),row L b.aN.ae.ls.length M (List.flatMap af.cells E) 149 3,sepL (List.flatMap af.own E),row N b.aM.ae.ls.length O (List.flatMap af.cells F) 149 3,sepL (List.flatMap af.own F),row P b.aO.ae.ls.length Q (List.flatMap af.cells G) 149 3,sepL (List.flatMap af.own G),row R b.aP.ae.ls.length S (List.flatMap af.cells I) 149 3,sepL (List.flatMap af.own I)]:=by rw [← cB]; exact jC
 have jE:=jD.pf [1,2,3,4,5,6,7,8,9]
 obtain⟨⟨fK,Z⟩,dJ⟩:∃ q:bQ × aC,lg p0 h (aC.mk b.aa b.bH (Ll.mk (List.set b.aB.ls (Int.toNat h) (dM.mk a.bq a.aW a.aK a.dA (Ll.mk a.bU.ls) (Ll.mk (List.map bG.abs a.aF.ls)) (Ll.mk (List.set a.bF.ls (Int.toNat g) true)) (Ll.mk (List.set (List.map bM.abs a.ae.ls) (Int.toNat g) (Ll.mk Y))) a.ed))) b.aR b.aN b.aM b.aO b.aP b.di b.cB b.cZ b.cK b.cO)=q:=⟨_,rfl⟩
 obtain⟨qx,gJ,mW,gK,mX⟩:=Gx jE
 refine cl Tryz.call94 (uw _ _ g0 p0 ae ag aa h X (aC.mk b.aa b.bH (Ll.mk (List.set b.aB.ls (Int.toNat h) (dM.mk a.bq a.aW a.aK a.dA (Ll.mk a.bU.ls) (Ll.mk (List.map bG.abs a.aF.ls)) (Ll.mk (List.set a.bF.ls (Int.toNat g) true)) (Ll.mk (List.set (List.map bM.abs a.ae.ls) (Int.toNat g) (Ll.mk Y))) a.ed))) b.aR b.aN b.aM b.aO b.aP b.di b.cB b.cZ b.cK b.cO) aH aI n p z r s B d m (List.set j (Int.toNat h) (bB.mk a.bq a.aW a.aK a.dA a.bU a.aF (Sv.mk a.bF.A a.bF.c (List.set a.bF.ls (Int.toNat g) true)) (Sv.mk a.ae.A a.ae.c (List.set a.ae.ls (Int.toNat g) (Sv.mk t u T))) a.ed)) J K C L M E N O F P Q G R S I fK Z gJ aK ah aj (iC U (congrArg (fun z0=>(dM.mk a.bq a.aW a.aK a.dA (Ll.mk a.bU.ls) (Ll.mk (List.map bG.abs a.aF.ls)) (Ll.mk (List.set a.bF.ls (Int.toNat g) true)) (Ll.mk z0) a.ed)) (iC (rfl:List.map bM.abs a.ae.ls=List.map bM.abs a.ae.ls) (congrArg Ll.mk aN)))) ak au av ay aB (by first | omega | (dsimp only; omega) | (simp only [List.length_nil]; omega) | decide) (by first | assumption | exact Mk.act (by assumption) | exact mE (by first | assumption | exact Mk.act (by assumption)) (nQ (x:=bB.abs a) aM (by assumption)) | exact mE (by first | assumption | exact Mk.act (by assumption)) (pK (x:=bB.abs a) aM _)) (by first | omega | (dsimp only; omega) | (simp only [List.length_nil]; omega) | decide) dJ) ?_
 rintro _ qy ⟨jG,jH,jI,jJ,jK,jL,jM,jN,jO,jP,jQ,jR,jS,jU,jV,jW,jX,jY,jZ,j3,j4,j5,j6,kg,ko,kr,ku,rfl,gL,dL,dN,dO,dQ,dR,dS,dU,dV,dX⟩
 have aO:=gK _ _ gL
 have mY:=aA dL
 have mZ:=aA dN
 have ng:=aA dO
 have ni:=aA dQ
 have nk:=aA dR
 have nu:=aA dS
 have ny:=aA dU
 have nz:=aA dV
 have nA:=aA dX
 have nC:=aO.rowC (i:=1) rfl
 have nD:=aO.rowC (i:=4) rfl
 have nE:=aO.rowC (i:=6) rfl
 have nH:=aO.rowC (i:=8) rfl
 have nI:=aO.rowC (i:=10) rfl
 have nJ:=aO.rowC (i:=12) rfl
 have nK:=aO.rowC (i:=14) rfl
 have nL:=aO.rowC (i:=16) rfl
 have nM:=aO.rowC (i:=18) rfl
 refine WL.nil (Ff (res0 rfl) ?_)
 have kv:=aO.pf []
 obtain⟨rfl,rfl⟩:=fT (hr.symm.trans (show _=(fK,aC.mk (dC.mk Z.aa.au Z.aa.ay Z.aa.aY Z.aa.aH (Ll.mk b.aa.ag.ls) (Ll.mk Z.aa.aj.ls) (Ll.mk Z.aa.aG.ls)) Z.bH (Ll.mk Z.aB.ls) Z.aR Z.aN Z.aM Z.aO Z.aP Z.di Z.cB Z.cZ Z.cK Z.cO) from et (ai aS) (et (ip aY) (et (ai (bI bi)) (et (ai bq) (et (iN aJ) (et (ai (bI aU)) (et (fU bS) (et (ip V) (et (ai (bI dD)) (et (ip dE) (et (ai bK) (et (ai cu) (et (fU bU) (ai dJ)))))))))))))))
 exact⟨jG,jH,jI,jJ,jK,jL,jM,jN,jO,jP,jQ,jR,jS,jU,jV,jW,jX,jY,jZ,j3,j4,j5,j6,kg,ko,kr,ku,(by first | rfl | (rw [← cB]; done) | (rw [← cB]; rfl)),kv,dL,dN,dO,dQ,dR,dS,dU,dV,dX⟩
 refine jT (dT dE) (sr ?_)
 have kw:=gu.pf [1,2,3,4,5,6,7]
 have bV:=qB (f:=bB.own) l kw
 have nN:a.bU.ls.length≤a.bU.c∧a.bU.ls.length≤9223372036854775807:=bz bV (i:=0) rfl (φ:=fun _=>_) (ax (List.mem_flatMap.2 ⟨a,List.mem_of_getElem? l, .head _⟩) bn)
 have nO:a.aF.ls.length≤a.aF.c∧a.aF.ls.length≤9223372036854775807:=bz bV (i:=0) rfl (φ:=fun _=>_) (ax (List.mem_flatMap.2 ⟨a,List.mem_of_getElem? l, .tail _ (.head _)⟩) bn)
 have nP:a.bF.ls.length≤a.bF.c∧a.bF.ls.length≤9223372036854775807:=bz bV (i:=0) rfl (φ:=fun _=>_) (ax (List.mem_flatMap.2 ⟨a,List.mem_of_getElem? l, .tail _ (.tail _ (.head _))⟩) bn)
 have nR:a.ae.ls.length≤a.ae.c∧a.ae.ls.length≤9223372036854775807:=bz bV (i:=0) rfl (φ:=fun _=>_) (ax (List.mem_flatMap.2 ⟨a,List.mem_of_getElem? l, .tail _ (.tail _ (.tail _ (.head _)))⟩) bn)
 refine Mz rfl (Mz rfl ?_)
 have ky:=bV.px [2,3,4,5,10] [] [1,6,7,8,9]
 obtain⟨⟨fM,aD⟩,dY⟩:∃ q:bQ × aC,gy p0 h b=q:=⟨_,rfl⟩
 obtain⟨qz,gM,nS,gQ,nT⟩:=FY ky
 refine cl Tryz.call63 (mJ _ _ g0 p0 ae ag aa h X b aH aI n p r s d m j J K C L M E N O F P Q G R S I fM aD gM aK U ak au av ay aB (by first | omega | (dsimp only; omega) | (simp only [List.length_nil]; omega) | decide) (by first | assumption | exact Mk.act (by assumption) | exact mE (by first | assumption | exact Mk.act (by assumption)) (nQ (x:=bB.abs a) aM (by assumption)) | exact mE (by first | assumption | exact Mk.act (by assumption)) (pK (x:=bB.abs a) aM _)) (by first | omega | (dsimp only; omega) | (simp only [List.length_nil]; omega) | decide) dY) ?_
 rintro _ qA ⟨kz,kC,kD,kE,kF,kG,kH,kI,kJ,kK,kL,kM,kN,kP,kQ,kR,kS,kT,kU,kV,kW,rfl,gT,dZ,d9,ed,ek,eu,eB,eD⟩
 have aV:=gQ _ _ gT
 have nU:=aA dZ
 have nV:=aA d9
 have nX:=aA ed
 have nY:=aA ek
 have nZ:=aA eu
 have og:=aA eB
 have oh:=aA eD
 have ol:=aV.rowC (i:=1) rfl
 have om:=aV.rowC (i:=4) rfl
 have oo:=aV.rowC (i:=6) rfl
 have oq:=aV.rowC (i:=8) rfl
 have ou:=aV.rowC (i:=10) rfl
 have ow:=aV.rowC (i:=12) rfl
 have oz:=aV.rowC (i:=14) rfl
 refine nt (rt (tR (Fin.res (res0 rfl) ?_)))
 have kX:=aV.px [0,1,2,3,17,18,19,20] [16] []
 obtain⟨rfl,rfl⟩:=fT (hr.symm.trans (show _=(fM,aC.mk (dC.mk aD.aa.au aD.aa.ay aD.aa.aY aD.aa.aH (Ll.mk b.aa.ag.ls) (Ll.mk b.aa.aj.ls) (Ll.mk b.aa.aG.ls)) aD.bH (Ll.mk aD.aB.ls) aD.aR aD.aN aD.aM aD.aO aD.aP aD.di aD.cB aD.cZ aD.cK aD.cO) from et (ai aS) (et (ip aY) (et (ai (bI bi)) (et (ai bq) (et (iN aJ) (et (ai (bI aU)) (et (fU bS) (et (ip V) (et (ai (bI dD)) (et (iN dE) (ai dY))))))))))))
 exact⟨kz,kC,kD,n,p,z,r,s,B,kE,kF,kG,kH,kI,kJ,kK,kL,kM,kN,kP,kQ,kR,kS,kT,kU,kV,kW,rfl,kX,dZ,ah,aj,d9,ed,ek,eu,eB,eD⟩
 refine EW (rs:= []) 4 rfl rfl rfl (dT V) (by kernel_rfl) (EW (rs:= []) 5 rfl rfl rfl (dT V) (by kernel_rfl) (EW (rs:= []) 6 rfl rfl rfl (dT V) (by kernel_rfl) (EW (rs:= []) 7 rfl rfl rfl (dT V) (by kernel_rfl) (EW (rs:= []) 8 rfl rfl rfl (dT V) (by kernel_rfl) (EW (rs:= []) 9 rfl rfl rfl (dT V) (by kernel_rfl) (EW (rs:= []) 10 rfl rfl rfl (dT V) (by kernel_rfl) (EW (rs:= []) 11 rfl rfl rfl (dT V) (by kernel_rfl) (EW (rs:= []) 12 rfl rfl rfl (dT V) (by kernel_rfl) (EW (rs:= []) 13 rfl rfl rfl (dT V) (by kernel_rfl) (EW (rs:= []) 14 rfl rfl rfl (dT V) (by kernel_rfl) (EW (rs:= []) 15 rfl rfl rfl (dT V) (by kernel_rfl) (EW (rs:= []) 16 rfl rfl rfl (dT V) (by kernel_rfl) (qt (v:= .bool true) 17 rfl (fun _ _=>Fa rfl (dT V) rfl) (qn (ER (jt (sr ?_)))))))))))))))))
 have kZ:=gu.pf [1,2,3,4,5,6,7]
 have bW:=qB (f:=bB.own) l kZ
 have oC:a.bU.ls.length≤a.bU.c∧a.bU.ls.length≤9223372036854775807:=bz bW (i:=0) rfl (φ:=fun _=>_) (ax (List.mem_flatMap.2 ⟨a,List.mem_of_getElem? l, .head _⟩) bn)
 have oD:a.aF.ls.length≤a.aF.c∧a.aF.ls.length≤9223372036854775807:=bz bW (i:=0) rfl (φ:=fun _=>_) (ax (List.mem_flatMap.2 ⟨a,List.mem_of_getElem? l, .tail _ (.head _)⟩) bn)
 have oG:a.bF.ls.length≤a.bF.c∧a.bF.ls.length≤9223372036854775807:=bz bW (i:=0) rfl (φ:=fun _=>_) (ax (List.mem_flatMap.2 ⟨a,List.mem_of_getElem? l, .tail _ (.tail _ (.head _))⟩) bn)
 have oH:a.ae.ls.length≤a.ae.c∧a.ae.ls.length≤9223372036854775807:=bz bW (i:=0) rfl (φ:=fun _=>_) (ax (List.mem_flatMap.2 ⟨a,List.mem_of_getElem? l, .tail _ (.tail _ (.tail _ (.head _)))⟩) bn)
 refine Mz rfl (Mz rfl ?_)
 have lc:=bW.px [2,3,4,5,10] [] [1,6,7,8,9]
 obtain⟨⟨fO,aF⟩,eF⟩:∃ q:bQ × aC,gy p0 h b=q:=⟨_,rfl⟩
 obtain⟨qC,gU,oI,gV,oJ⟩:=FY lc
 refine cl Tryz.call63 (mJ _ _ g0 p0 ae ag aa h X b aH aI n p r s d m j J K C L M E N O F P Q G R S I fO aF gU aK U ak au av ay aB (by first | omega | (dsimp only; omega) | (simp only [List.length_nil]; omega) | decide) (by first | assumption | exact Mk.act (by assumption) | exact mE (by first | assumption | exact Mk.act (by assumption)) (nQ (x:=bB.abs a) aM (by assumption)) | exact mE (by first | assumption | exact Mk.act (by assumption)) (pK (x:=bB.abs a) aM _)) (by first | omega | (dsimp only; omega) | (simp only [List.length_nil]; omega) | decide) eF) ?_
 rintro _ qD ⟨lh,ll,lm,lq,lu,lv,lw,lC,lD,lF,lG,lH,lI,lJ,lK,lL,lN,lQ,lT,lU,lV,rfl,gW,eG,eH,eO,eP,eT,eU,eX⟩
 have aW:=gV _ _ gW
 have oK:=aA eG
 have oL:=aA eH
 have oM:=aA eO
 have oN:=aA eP
 have oO:=aA eT
 have oP:=aA eU
 have oU:=aA eX
 have oV:=aW.rowC (i:=1) rfl
 have oW:=aW.rowC (i:=4) rfl
 have oZ:=aW.rowC (i:=6) rfl
 have o5:=aW.rowC (i:=8) rfl
 have o6:=aW.rowC (i:=10) rfl
 have o7:=aW.rowC (i:=12) rfl
 have o8:=aW.rowC (i:=14) rfl
 refine nt (rt (tR (Fin.res (res0 rfl) ?_)))
 have lW:=aW.px [0,1,2,3,17,18,19,20] [16] []
 obtain⟨rfl,rfl⟩:=fT (hr.symm.trans (show _=(fO,aC.mk (dC.mk aF.aa.au aF.aa.ay aF.aa.aY aF.aa.aH (Ll.mk b.aa.ag.ls) (Ll.mk b.aa.aj.ls) (Ll.mk b.aa.aG.ls)) aF.bH (Ll.mk aF.aB.ls) aF.aR aF.aN aF.aM aF.aO aF.aP aF.di aF.cB aF.cZ aF.cK aF.cO) from et (ai aS) (et (ip aY) (et (ai (bI bi)) (et (ai bq) (et (iN aJ) (et (ai (bI aU)) (et (fU bS) (et (iN V) (ai eF))))))))))
 exact⟨lh,ll,lm,n,p,z,r,s,B,lq,lu,lv,lw,lC,lD,lF,lG,lH,lI,lJ,lK,lL,lN,lQ,lT,lU,lV,rfl,lW,eG,ah,aj,eH,eO,eP,eT,eU,eX⟩
 have h39t:Bool.toNat bR=0:=by rw [aY]; rfl
 refine jT (cn aY) (rt (tR (Fin.res (res0 rfl) ?_)))
 have lX:=bg.px [] [0] []
 obtain⟨rfl,rfl⟩:=fT (hr.symm.trans (show _=(p0,b) from et (ai aS) (fU aY)))
 exact⟨ae,ag,aa,n,p,z,r,s,B,d,m,j,J,K,C,L,M,E,N,O,F,P,Q,G,R,S,I,rfl,lX,aK,ah,aj,U,ak,au,av,ay,aB⟩
end Go.Proofs.YtbkagebjhbphaaaGreat
