/-
 coord: a vote.
-/
import Derived.Test.YtbkagebjhbphaaaGreatCc
import Derived.Test.YtbkagebjhbphaaaGreatCg
namespace Go.Proofs.YtbkagebjhbphaaaGreat
open Int renaming toNat→D2
open List renaming flatMap→q6,getD→C2,length→s2,length_append→p5,length_cons→s3,length_drop→p4,length_map→s6,length_nil→G1,length_replicate→H4,length_set→H3,length_take→p3,map→s8,mem_flatMap→O7,mem_of_getElem?→E0,set→u5
open Ll renaming mk→E4
open Sum renaming inl→C1
open Sv renaming mk→H2
open _root_.Go.Proofs.Tryz renaming isAgg104→P0,isAgg3→C6,prog→y4
set_option maxRecDepth 100000
open Go.RowKit
set_option linter.unusedVariables false
set_option linter.unusedSectionVars false
set_option linter.unusedSimpArgs false
def eH (p1c0:bQ):List fV→Nat→Unit ⊕ Int
  | [],a=>C1 ()
  | b::c,a=>if b.dU=p1c0.aP then Sum.inr ((a:Nat):Int) else eH p1c0 c (a+1)
def ic (l0:List fV) (p1c0:bQ):Int:=
 lp (eH p1c0 l0 0) fun _=>(-1)
theorem nE (w:World) (D:Nat→Prop) (o:Option Addr) (C E:Nat) (z:List bG) (l0:List fV) (g1c0:Nat) (p1c0:bQ) (A1c0x0:Option Addr) (c1c0x0:Nat) (A1c0x1:Option Addr) (c1c0x1:Nat) (d1c0x1:List af) (A1c0x2:Option Addr) (c1c0x2:Nat) (B:Int) (H:Own w D w [blk g1c0 (gM p1c0 A1c0x0 c1c0x0 A1c0x1 c1c0x1 A1c0x2 c1c0x2) 42]) (p:s8 bG.abs z=l0) (n:Ro w D fun w'=>bD w' 3 o C (q6 bG.cells z)) (r:∀ x ∈ z,Ro w D (fun w'=>bD w' 6 x.aD.A x.aD.ls.length (q6 bC.cells x.aD.ls))∧(x.aD.ls.length≤x.aD.c∧x.aD.ls.length≤9223372036854775807)∧Ro w D (fun w'=>bD w' 1 x.aP.A x.aP.ls.length (q6 (eI .i64) x.aP.ls))∧(x.aP.ls.length≤x.aP.c∧x.aP.ls.length≤9223372036854775807)) (F:C=l0.length) (T:l0.length≤9223372036854775807) (hx1c0x0:Ro w D fun w'=>bD w' 6 A1c0x0 p1c0.aD.ls.length (q6 bC.cells p1c0.aD.ls)) (hb1c0x0:p1c0.aD.ls.length≤c1c0x0∧p1c0.aD.ls.length≤9223372036854775807) (hd1c0x1:s8 af.abs d1c0x1=p1c0.ai.ls) (hx1c0x1:Ro w D fun w'=>bD w' 3 A1c0x1 p1c0.ai.ls.length (q6 af.cells d1c0x1)) (hb1c0x1:p1c0.ai.ls.length≤c1c0x1∧p1c0.ai.ls.length≤9223372036854775807) (hm1c0x1:∀ x ∈ d1c0x1,Ro w D (fun w'=>bD w' 2 x.au.A x.au.ls.length (q6 aJ.cells x.au.ls))∧(x.au.ls.length≤x.au.c∧x.au.ls.length≤9223372036854775807)) (hx1c0x2:Ro w D fun w'=>bD w' 2 A1c0x2 p1c0.ag.ls.length (q6 bv.cells p1c0.ag.ls)) (hb1c0x2:p1c0.ag.ls.length≤c1c0x2∧p1c0.ag.ls.length≤9223372036854775807) (hr:ic l0 p1c0=B):
    Calls y4 91 #[.slice o C E, .func (.func 92) #[] #[vP g1c0 0]] w (dS fun v w'=>v=vI B∧Own w D w' [blk g1c0 (gM p1c0 A1c0x0 c1c0x0 A1c0x1 c1c0x1 A1c0x2 c1c0x2) 42]∧(-1≤B∧B < ((l0.length:Nat):Int))):=by
 subst F
 have P:=az p
 have hdl1c0x1:=az hd1c0x1
 refine cb Tryz.func91 ?_
 refine sr (An rfl (EP (sr (Mz rfl (Kz (vJ l0.length) (Mn rfl (bo ?_)))))))
 have G:=H.pf []
 obtain⟨I,f⟩:=lK fun(a:Nat) (w':World)=>Own w D w' [blk g1c0 (gM p1c0 A1c0x0 c1c0x0 A1c0x1 c1c0x1 A1c0x2 c1c0x2) 42]∧a≤l0.length∧eH p1c0 l0 0=eH p1c0 (List.drop a l0) a
 refine Wp.loop (fun i:Nat=> [(4,vI 0),(8,vJ i),(7,vJ l0.length),(0, .slice o l0.length E),(1, .func (.func 92) #[] #[vP g1c0 0])]) I (fun i=>l0.length - i) 0 ⟨rfl,rfl,rfl,rfl,rfl,trivial⟩ (f.2 ⟨G,e6,rfl⟩) ?_
 rintro a U s
 obtain⟨g,Q,h⟩:=f.1 s
 refine sr (Kz (.bool (decide (((a:Nat):Int) < ((l0.length:Nat):Int)))) (nt (EP ?_)))
 by_cases t:((a:Nat):Int) < ((l0.length:Nat):Int)
 obtain⟨d,b⟩:=dG (ls:=z) (i:=a) bG.len f3 (g.ro n) e9
 have u:=eP p b
 have R:=(r _ (E0 b)).2.1
 have S:=(r _ (E0 b)).2.2.2
 have m:=drop_at u
 refine jT (dT t) (sk (EP (bo (sr (Mz rfl (Ar rfl (Mz rfl (Mz rfl (Mz rfl (fw (.pointer (some ⟨ab o,ao o+a *3,none⟩)) (ET (sI) rfl rfl ((g.ro n).addr (i:=a) e6) e6) (fw (.agg (bG.cells d).toArray) (EY rfl (Fb (cs:=(bG.cells d)) Tryz.isAgg172 Tryz.sizeOf172 ((g.ro n).elem bG.len b f3))) ?_)))))))))))
 refine WL.do rfl (Fw Tryz.call92 rfl rfl ?_ (fun _ _ k=>k))
 refine cb Tryz.func92 ?_
 refine sr ?_
 refine dK (bG.cells d) 172 g ?_
 intro J V j
 refine Ar rfl (Kz (vP J 0) (Lz (vI d.dU) j 0 C6 (Kz (vP g1c0 1) (Lz (vI p1c0.aP) j 1 C6 (Kz (.bool (decide (d.dU=p1c0.aP))) (An rfl (rt (rs (nt ?_)))))))))
 by_cases l:d.dU=p1c0.aP
 refine jT (dT l) (EP ?_)
 have K:=j.pk [1]
 refine EO (Mz rfl (An rfl (rt (bR (tR (tR (bR (tR (rs ?_)))))))))
 have L:=K.pf []
 obtain rfl:_=((a:Nat):Int):=hr.symm.trans (iY (et (h) (et (congrArg (fun q=>eH p1c0 q a) m) (ip l))))
 exact⟨rfl,L,e6⟩
 refine jF (dF l) (Fq (bN (ER ?_)))
 have M:=j.pk [1]
 refine EO (fw (vJ (a+1)) (EQ (e:=IntKind.i64.wrap (((a:Nat):Int)+1)) yk f1) (Mz rfl (WL.nil ?_)))
 have N:=M.pf []
 exact E8 (a+1) ⟨rfl,rfl,rfl,rfl,rfl,trivial⟩ (f.2 ⟨N,e6,et (h) (et (congrArg (fun q=>eH p1c0 q a) m) (iN l))⟩) (by show l0.length - (a+1) < l0.length - a; omega)
 refine jF (dF t) (Wp.exit (EX ?_))
 have y:eH p1c0 l0 0=C1 ():=et (h) (et (congrArg (fun q=>eH p1c0 q a) (eD (ls:=l0) (i:=a) e6)) rfl)
 refine EX (Fg (ER (sr (An rfl (rt (rs ?_))))))
 have O:=g.pf []
 obtain rfl:_=(-1):=hr.symm.trans (nI y)
 exact⟨rfl,O,e6⟩
def iq (d:Bool):List Bool→Nat→Unit ⊕ Int
  | [],a=>C1 ()
  | b::c,a=>if d=b then Sum.inr ((a:Nat):Int) else iq d c (a+1)
def mU (l0:List Bool) (a:Bool):Int:=
 lp (iq a l0 0) fun _=>(-1)
theorem rJ (w:World) (D:Nat→Prop) (n:Option Addr) (t u:Nat) (l0:List Bool) (b:Bool) (s:Int) (H:Own w D w []) (m:Ro w D fun w'=>bD w' 1 n t (q6 eL l0)) (x:t=l0.length) (F:l0.length≤9223372036854775807) (hr:mU l0 b=s):
    Calls y4 128 #[.slice n t u, .bool b] w (dS fun v w'=>v=vI s∧Own w D w' []∧(-1≤s∧s < ((l0.length:Nat):Int))):=by
 subst x
 refine cb Tryz.func128 ?_
 refine sr (An rfl (EP (sr (Mz rfl (Kz (vJ l0.length) (Mn rfl (bo ?_)))))))
 have y:=H.pk []
 obtain⟨z,d⟩:=lK fun(a:Nat) (w':World)=>Own w D w' []∧a≤l0.length∧iq b l0 0=iq b (List.drop a l0) a
 refine Wp.loop (fun i:Nat=> [(4,vI 0),(8,vJ i),(7,vJ l0.length),(0, .slice n l0.length u),(1, .bool b)]) z (fun i=>l0.length - i) 0 ⟨rfl,rfl,rfl,rfl,rfl,trivial⟩ (d.2 ⟨y,e6,rfl⟩) ?_
 rintro a G o
 obtain⟨c,E,f⟩:=d.1 o
 refine sr (Kz (.bool (decide (((a:Nat):Int) < ((l0.length:Nat):Int)))) (nt (EP ?_)))
 by_cases p:((a:Nat):Int) < ((l0.length:Nat):Int)
 obtain⟨g,j⟩:=dG (ls:=l0) (i:=a) nV f3 (c.ro m) e9
 have l:=drop_at j
 refine jT (decide_eq_true p) (sk (EP (bo (sr (Mz rfl (Ar rfl (Mz rfl (Mz rfl (Mz rfl (fw (.pointer (some ⟨ab n,ao n+a *1,none⟩)) (ET (wU) rfl rfl ((c.ro m).addr (i:=a) e6) e6) (fw (.bool g) (EY rfl (bZ.one Tryz.isAgg4 (((c.ro m).elem nV j f3).at_ (k:=0) rfl))) (fw (.bool (decide (b=g))) (Fs (e:=(b==g)) yk (by first | exact Bool.beq_eq_decide_eq _ _ | (by_cases q:b=g <;> simp [q]))) (nt ?_)))))))))))))
 by_cases h:b=g
 refine jT (dT h) (sr (Mz rfl (An rfl (rt (bR (tR (tR (bR (tR (rs ?_))))))))))
 have A:=c.pk []
 obtain rfl:_=((a:Nat):Int):=hr.symm.trans (iY (et (f) (et (congrArg (fun q=>iq b q a) l) (ip h))))
 exact⟨rfl,A,e6⟩
 refine jF (dF h) (Fq (bN (ER (EO (fw (vJ (a+1)) (EQ (e:=IntKind.i64.wrap (((a:Nat):Int)+1)) yk f1) (Mz rfl (WL.nil ?_)))))))
 have B:=c.pk []
 exact E8 (a+1) ⟨rfl,rfl,rfl,rfl,rfl,trivial⟩ (d.2 ⟨B,e6,et (f) (et (congrArg (fun q=>iq b q a) l) (iN h))⟩) (by show l0.length - (a+1) < l0.length - a; omega)
 refine jF (dF p) (Wp.exit (EX ?_))
 have r:iq b l0 0=C1 ():=et (f) (et (congrArg (fun q=>iq b q a) (eD (ls:=l0) (i:=a) e6)) rfl)
 refine EX (Fg (ER (sr (An rfl (rt (rs ?_))))))
 have C:=c.pk []
 obtain rfl:_=(-1):=hr.symm.trans (nI r)
 exact⟨rfl,C,e6⟩
def l6 (l0:List Bool) (b:Bool):Bool:=
 bnd (mU l0 b) fun a=>decide (a ≥ 0)
theorem qG (w:World) (D:Nat→Prop) (i:Option Addr) (j o:Nat) (l0:List Bool) (h:Bool) (p:Bool) (H:Own w D w []) (k:Ro w D fun w'=>bD w' 1 i j (q6 eL l0)) (l:j=l0.length) (s:l0.length≤9223372036854775807) (hr:l6 l0 h=p):
    Calls y4 93 #[.slice i j o, .bool h] w (dS fun v w'=>v= .bool p∧Own w D w' []):=by
 subst l
 refine cb Tryz.func93 ?_
 refine sr (Ar rfl (Mz rfl (Mz rfl ?_)))
 obtain⟨a,b⟩:∃ q,mU l0 h=q:=⟨_,rfl⟩
 obtain⟨t,d,e,f,r⟩:=EU H
 refine cl Tryz.call128 (rJ _ _ i l0.length o l0 h a d (e _ k) rfl e6 b) ?_
 rintro _ u ⟨rfl,g,c⟩
 have m:=f _ _ g
 replace c: -1≤a∧a < ((l0.length:Nat):Int):=c
 refine Kz (.bool (decide (a ≥ 0))) (An rfl (rt (rs ?_)))
 have n:=m.pk []
 obtain rfl:_=decide (a ≥ 0):=hr.symm.trans (ah b)
 exact⟨rfl,n⟩
def kY (i:bO) (k:bQ) (a:aB):bO × aB:=
 bnd (dz a.aA.ls k.bf) fun g=>if g.2=true then bnd (C2 a.aA.ls (D2 g.1) default) fun e=>bnd (ic e.aC.ls k) fun f=>if f < 0 then(i,a) else bnd (C2 e.bF.ls (D2 f) default) fun l=>if l=true then(i,a) else if k.dJ=3 then bnd (C2 e.aC.ls (D2 f) default) fun m=>if((k.ai.ls.length:Nat):Int)=((m.aD.ls.length:Nat):Int) then bnd (jb k.ai.ls) fun h=>bnd (l6 (u5 e.bF.ls (D2 f) true) false) fun j=>if j=true then(i,aB.mk a.aa a.bH (E4 (u5 a.aA.ls (D2 g.1) (dH.mk e.bq e.aW e.aH e.dw (E4 e.bS.ls) (E4 e.aC.ls) (E4 (u5 e.bF.ls (D2 f) true)) (E4 (u5 e.ae.ls (D2 f) (E4 h))) e.dZ))) a.aQ a.aO a.aL a.aN a.aK a.df a.cu a.cz a.cB a.cK) else bnd (lg i g.1 (aB.mk a.aa a.bH (E4 (u5 a.aA.ls (D2 g.1) (dH.mk e.bq e.aW e.aH e.dw (E4 e.bS.ls) (E4 e.aC.ls) (E4 (u5 e.bF.ls (D2 f) true)) (E4 (u5 e.ae.ls (D2 f) (E4 h))) e.dZ))) a.aQ a.aO a.aL a.aN a.aK a.df a.cu a.cz a.cB a.cK)) fun b=>(b.1,aB.mk (dA.mk b.2.aa.ak b.2.aa.ax b.2.aa.bi b.2.aa.aI (E4 a.aa.ag.ls) (E4 b.2.aa.aj.ls) (E4 b.2.aa.aF.ls)) b.2.bH (E4 b.2.aA.ls) b.2.aQ b.2.aO b.2.aL b.2.aN b.2.aK b.2.df b.2.cu b.2.cz b.2.cB b.2.cK) else bnd (gz i g.1 a) fun c=>(c.1,aB.mk (dA.mk c.2.aa.ak c.2.aa.ax c.2.aa.bi c.2.aa.aI (E4 a.aa.ag.ls) (E4 a.aa.aj.ls) (E4 a.aa.aF.ls)) c.2.bH (E4 c.2.aA.ls) c.2.aQ c.2.aO c.2.aL c.2.aN c.2.aK c.2.df c.2.cu c.2.cz c.2.cB c.2.cK) else bnd (gz i g.1 a) fun d=>(d.1,aB.mk (dA.mk d.2.aa.ak d.2.aa.ax d.2.aa.bi d.2.aa.aI (E4 a.aa.ag.ls) (E4 a.aa.aj.ls) (E4 a.aa.aF.ls)) d.2.bH (E4 d.2.aA.ls) d.2.aQ d.2.aO d.2.aL d.2.aN d.2.aK d.2.df d.2.cu d.2.cz d.2.cB d.2.cK) else(i,a)
set_option maxHeartbeats 4000000 in
theorem vo (w:World) (D:Nat→Prop) (g0:Nat) (p0:bO) (ae:Option Addr) (ag:Nat) (aa:List bA) (W:bQ) (cO:Option Addr) (fo bL:Nat) (bH:Option Addr) (fq bf:Nat) (bN:List af) (cZ:Option Addr) (fu bP:Nat) (X:Nat) (b:aB) (aH:Option Addr) (aI:Nat) (n:Option Addr) (p:Nat) (z:List ay) (r:Option Addr) (s:Nat) (B:List aV) (d:Option Addr) (m:Nat) (j:List bB) (J:Option Addr) (K:Nat) (C:List af) (L:Option Addr) (M:Nat) (E:List af) (N:Option Addr) (O:Nat) (F:List af) (P:Option Addr) (Q:Nat) (G:List af) (R:Option Addr) (S:Nat) (I:List af) (r0:bO) (r1:aB) (H:Own w D w [blk g0 [.pointer (some ⟨X,0,none⟩), .slice ae p0.bE.ls.length ag] 98,row ae p0.bE.ls.length ag (q6 bA.cells aa) 42 21,sepL (q6 bA.own aa),blk X [.int .i64 b.aa.ak, .int .u64 ((b.aa.ax:Nat):Int), .int .u64 ((b.aa.bi:Nat):Int), .int .u64 ((b.aa.aI:Nat):Int), .slice aH b.aa.ag.ls.length aI, .slice n b.aa.aj.ls.length p, .slice r b.aa.aF.ls.length s, .int .u64 ((b.bH:Nat):Int), .slice d b.aA.ls.length m, .bool b.aQ.aR, .int .u64 ((b.aQ.aH:Nat):Int), .int .i64 b.aQ.aZ, .slice J b.aQ.ae.ls.length K, .bool b.aO.aR, .int .u64 ((b.aO.aH:Nat):Int), .int .i64 b.aO.aZ, .slice L b.aO.ae.ls.length M, .bool b.aL.aR, .int .u64 ((b.aL.aH:Nat):Int), .int .i64 b.aL.aZ, .slice N b.aL.ae.ls.length O, .bool b.aN.aR, .int .u64 ((b.aN.aH:Nat):Int), .int .i64 b.aN.aZ, .slice P b.aN.ae.ls.length Q, .bool b.aK.aR, .int .u64 ((b.aK.aH:Nat):Int), .int .i64 b.aK.aZ, .slice R b.aK.ae.ls.length S, .int .u64 ((b.df:Nat):Int), .int .u64 ((b.cu:Nat):Int), .int .u64 ((b.cz:Nat):Int), .int .u64 ((b.cB:Nat):Int), .int .u64 ((b.cK:Nat):Int), .pointer none] 86,row n b.aa.aj.ls.length p (q6 ay.cells z) 60 5,sepL (q6 ay.own z),row r b.aa.aF.ls.length s (q6 aV.cells B) 56 4,sepL (q6 aV.own B),row d b.aA.ls.length m (q6 bB.cells j) 107 9,sepL (q6 bB.own j),row J b.aQ.ae.ls.length K (q6 af.cells C) 149 3,sepL (q6 af.own C),row L b.aO.ae.ls.length M (q6 af.cells E) 149 3,sepL (q6 af.own E),row N b.aL.ae.ls.length O (q6 af.cells F) 149 3,sepL (q6 af.own F),row P b.aN.ae.ls.length Q (q6 af.cells G) 149 3,sepL (q6 af.own G),row R b.aK.ae.ls.length S (q6 af.cells I) 149 3,sepL (q6 af.own I)]) (aL:s8 bA.abs aa=p0.bE.ls) (fP:fo=W.aD.ls.length) (fQ:Ro w D fun w'=>bD w' 6 cO W.aD.ls.length (q6 bC.cells W.aD.ls)) (l7:W.aD.ls.length≤bL∧W.aD.ls.length≤9223372036854775807) (bX:s8 af.abs bN=W.ai.ls) (fV:fq=W.ai.ls.length) (dw:Ro w D fun w'=>bD w' 3 bH W.ai.ls.length (q6 af.cells bN)) (l8:W.ai.ls.length≤bf∧W.ai.ls.length≤9223372036854775807) (bJ:∀ x ∈ bN,Ro w D (fun w'=>bD w' 2 x.au.A x.au.ls.length (q6 aJ.cells x.au.ls))∧(x.au.ls.length≤x.au.c∧x.au.ls.length≤9223372036854775807)) (fZ:fu=W.ag.ls.length) (gm:Ro w D fun w'=>bD w' 2 cZ W.ag.ls.length (q6 bv.cells W.ag.ls)) (l9:W.ag.ls.length≤bP∧W.ag.ls.length≤9223372036854775807) (ai:s8 ay.abs z=b.aa.aj.ls) (aj:s8 aV.abs B=b.aa.aF.ls) (U:s8 bB.abs j=b.aA.ls) (ak:s8 af.abs C=b.aQ.ae.ls) (au:s8 af.abs E=b.aO.ae.ls) (ax:s8 af.abs F=b.aL.ae.ls) (aA:s8 af.abs G=b.aN.ae.ls) (aC:s8 af.abs I=b.aK.ae.ls) (qE:b.aa.ag.ls.length≤1000∧b.aa.aj.ls.length≤1000∧b.aa.aF.ls.length≤1000∧b.aA.ls.length≤1000∧p0.bE.ls.length≤100000) (qF:Ak b.aA.ls) (qH:W.aD.ls.length≤24∧W.ag.ls.length≤1000∧W.ai.ls.length≤1000∧jy W.aY) (qI:mJ W.ai.ls) (hr:kY p0 W b=(r0,r1)):
    Calls y4 57 #[vP g0 0, .agg (gH W.aM W.aP W.fO W.aS W.dJ W.d9 W.aY W.ax W.bf W.di W.bi W.aI W.dM W.cZ W.xN W.dY W.bW.bJ W.bW.bX cO fo bL bH fq bf cZ fu bP).toArray] w (dS fun v w'=> ∃ (B0ox0:Option Addr) (b0ox0:Nat) (e0ox0:List bA) (B1ox1:Option Addr) (b1ox1:Nat) (e1ox1:List ay) (B1ox2:Option Addr) (b1ox2:Nat) (e1ox2:List aV) (B1ox3:Option Addr) (b1ox3:Nat) (e1ox3:List bB) (B1ox4:Option Addr) (b1ox4:Nat) (e1ox4:List af) (B1ox5:Option Addr) (b1ox5:Nat) (e1ox5:List af) (B1ox6:Option Addr) (b1ox6:Nat) (e1ox6:List af) (B1ox7:Option Addr) (b1ox7:Nat) (e1ox7:List af) (B1ox8:Option Addr) (b1ox8:Nat) (e1ox8:List af),v= .tuple #[]∧Own w D w' [blk g0 [vP X 0, .slice B0ox0 r0.bE.ls.length b0ox0] 98,row B0ox0 r0.bE.ls.length b0ox0 (q6 bA.cells e0ox0) 42 21,sepL (q6 bA.own e0ox0),blk X [vI r1.aa.ak,vU r1.aa.ax,vU r1.aa.bi,vU r1.aa.aI, .slice aH b.aa.ag.ls.length aI, .slice B1ox1 r1.aa.aj.ls.length b1ox1, .slice B1ox2 r1.aa.aF.ls.length b1ox2,vU r1.bH, .slice B1ox3 r1.aA.ls.length b1ox3, .bool r1.aQ.aR,vU r1.aQ.aH,vI r1.aQ.aZ, .slice B1ox4 r1.aQ.ae.ls.length b1ox4, .bool r1.aO.aR,vU r1.aO.aH,vI r1.aO.aZ, .slice B1ox5 r1.aO.ae.ls.length b1ox5, .bool r1.aL.aR,vU r1.aL.aH,vI r1.aL.aZ, .slice B1ox6 r1.aL.ae.ls.length b1ox6, .bool r1.aN.aR,vU r1.aN.aH,vI r1.aN.aZ, .slice B1ox7 r1.aN.ae.ls.length b1ox7, .bool r1.aK.aR,vU r1.aK.aH,vI r1.aK.aZ, .slice B1ox8 r1.aK.ae.ls.length b1ox8,vU r1.df,vU r1.cu,vU r1.cz,vU r1.cB,vU r1.cK, .pointer none] 86,row B1ox1 r1.aa.aj.ls.length b1ox1 (q6 ay.cells e1ox1) 60 5,sepL (q6 ay.own e1ox1),row B1ox2 r1.aa.aF.ls.length b1ox2 (q6 aV.cells e1ox2) 56 4,sepL (q6 aV.own e1ox2),row B1ox3 r1.aA.ls.length b1ox3 (q6 bB.cells e1ox3) 107 9,sepL (q6 bB.own e1ox3),row B1ox4 r1.aQ.ae.ls.length b1ox4 (q6 af.cells e1ox4) 149 3,sepL (q6 af.own e1ox4),row B1ox5 r1.aO.ae.ls.length b1ox5 (q6 af.cells e1ox5) 149 3,sepL (q6 af.own e1ox5),row B1ox6 r1.aL.ae.ls.length b1ox6 (q6 af.cells e1ox6) 149 3,sepL (q6 af.own e1ox6),row B1ox7 r1.aN.ae.ls.length b1ox7 (q6 af.cells e1ox7) 149 3,sepL (q6 af.own e1ox7),row B1ox8 r1.aK.ae.ls.length b1ox8 (q6 af.cells e1ox8) 149 3,sepL (q6 af.own e1ox8)]∧(s8 bA.abs e0ox0=r0.bE.ls)∧(s8 ay.abs e1ox1=r1.aa.aj.ls)∧(s8 aV.abs e1ox2=r1.aa.aF.ls)∧(s8 bB.abs e1ox3=r1.aA.ls)∧(s8 af.abs e1ox4=r1.aQ.ae.ls)∧(s8 af.abs e1ox5=r1.aO.ae.ls)∧(s8 af.abs e1ox6=r1.aL.ae.ls)∧(s8 af.abs e1ox7=r1.aN.ae.ls)∧(s8 af.abs e1ox8=r1.aK.ae.ls)):=by
 subst fP fV fZ
 have lZ:=az aL
 have l5:=az bX
 have gX:=az ai
 have gY:=az aj
 have gZ:=az U
 have ib:=az ak
 have ig:=az au
 have ik:=az ax
 have il:=az aA
 have iq:=az aC
 have ma:=H.rowC (i:=1) rfl
 have iw:=H.rowC (i:=4) rfl
 have iy:=H.rowC (i:=6) rfl
 have iB:=H.rowC (i:=8) rfl
 have iC:=H.rowC (i:=10) rfl
 have iD:=H.rowC (i:=12) rfl
 have iE:=H.rowC (i:=14) rfl
 have iG:=H.rowC (i:=16) rfl
 have iH:=H.rowC (i:=18) rfl
 refine cb Tryz.func57 ?_
 refine sr ?_
 refine dK (gM W cO bL bH bf cZ bP) 42 H ?_
 intro di qJ mf
 refine nt (EP ?_)
 refine wR [] (E9 Fp) mf ?_
 intro qK bF
 refine qv 0 rfl rfl (qp g0 0 1 rfl (qp g0 0 2 rfl (ql 3 rfl 1 Tryz.isAgg24 rfl rfl rfl (qp di 8 4 rfl (ql 5 rfl 0 Tryz.isAgg28 rfl rfl rfl ?_)))))
 refine GX.do 6 rfl e7 (Fe Tryz.call62 rfl ?_ (fun _ _ k=>k))
 refine cb Tryz.func62 ?_
 refine sr (Az rfl (Ar rfl (Mz rfl (Kz (vP X 0) (Kz (vP X 8) (Lz (.slice d b.aA.ls.length m) bF 4 Tryz.isAgg79 (Mz rfl ?_)))))))
 obtain⟨⟨h,bR⟩,aS⟩:∃ q:Int × Bool,dz b.aA.ls W.bf=q:=⟨_,rfl⟩
 obtain⟨qM,iI,o9,iK,aP⟩:=EU bF
 refine cl Tryz.call102 (iF _ _ d b.aA.ls.length m j b.aA.ls W.bf h bR iI U (aP _ 9 _ rfl aT) (fun x9 h9=>⟨aP _ 10 _ rfl (av (O7.2 ⟨x9,h9,b1⟩) aT),bz (φ:=fun _=>_) bF (i:=10) rfl (av (O7.2 ⟨x9,h9,b1⟩) bn),aP _ 10 _ rfl (av (O7.2 ⟨x9,h9, .tail _ b1⟩) aT),bz (φ:=fun _=>_) bF (i:=10) rfl (av (O7.2 ⟨x9,h9, .tail _ b1⟩) bn),(fun y1 k1=>⟨aP _ 10 _ rfl (av (O7.2 ⟨x9,h9, .tail _ b4⟩) (av (O7.2 ⟨y1,k1,b1⟩) aT)),bz (φ:=fun _=>_) bF (i:=10) rfl (av (O7.2 ⟨x9,h9, .tail _ b4⟩) (av (O7.2 ⟨y1,k1,b1⟩) bn)),aP _ 10 _ rfl (av (O7.2 ⟨x9,h9, .tail _ b4⟩) (av (O7.2 ⟨y1,k1, .tail _ b1⟩) aT)),bz (φ:=fun _=>_) bF (i:=10) rfl (av (O7.2 ⟨x9,h9, .tail _ b4⟩) (av (O7.2 ⟨y1,k1, .tail _ b1⟩) bn))⟩),aP _ 10 _ rfl (av (O7.2 ⟨x9,h9, .tail _ b2⟩) aT),bz (φ:=fun _=>_) bF (i:=10) rfl (av (O7.2 ⟨x9,h9, .tail _ b2⟩) bn),aP _ 10 _ rfl (av (O7.2 ⟨x9,h9, .tail _ b3⟩) aT),bz (φ:=fun _=>_) bF (i:=10) rfl (av (O7.2 ⟨x9,h9, .tail _ b3⟩) bn),(fun y1 k1=>⟨aP _ 10 _ rfl (av (O7.2 ⟨x9,h9, .tail _ b5⟩) (av (O7.2 ⟨y1,k1,b1⟩) aT)),bz (φ:=fun _=>_) bF (i:=10) rfl (av (O7.2 ⟨x9,h9, .tail _ b5⟩) (av (O7.2 ⟨y1,k1,b1⟩) bn)),(fun y2 k2=>⟨aP _ 10 _ rfl (av (O7.2 ⟨x9,h9, .tail _ b5⟩) (av (O7.2 ⟨y1,k1, .tail _ b1⟩) (av (O7.2 ⟨y2,k2,b1⟩) aT))),bz (φ:=fun _=>_) bF (i:=10) rfl (av (O7.2 ⟨x9,h9, .tail _ b5⟩) (av (O7.2 ⟨y1,k1, .tail _ b1⟩) (av (O7.2 ⟨y2,k2,b1⟩) bn)))⟩)⟩)⟩) rfl e6 aS) ?_
 rintro _ qN ⟨rfl,iL,fA,fB⟩
 have bg:=iK _ _ iL
 replace fA:0≤h∧h≤((b.aA.ls.length:Nat):Int):=fA
 replace fB:Bool.toNat bR=0∨h < ((b.aA.ls.length:Nat):Int):=fB
 refine Kz (vI h) (Kz (.bool bR) (Az rfl (An rfl (rt (Fin.res (lT rfl rfl rfl) ?_)))))
 refine⟨.inr ⟨_,bg⟩, ?_⟩
 refine qv 7 rfl rfl (qk (vI h) 8 rfl (qk (.bool bR) 9 rfl (qa 10 rfl rfl (qa 11 rfl rfl (qn (ER (EP (sr (Mz rfl (Kz (.bool (!bR)) (nt ?_)))))))))))
 rcases IW (bR) with aY | aY
 have h39t:Bool.toNat bR=1:=by rw [aY]; rfl
 refine jF (cn aY) (sk (sr (Mz rfl (Kz (vP g0 0) (Kz (vP g0 0) (Lz (vP X 0) bg 1 Tryz.isAgg24 (Kz (vP X 0) (Kz (vP X 8) (Lz (.slice d b.aA.ls.length m) bg 4 Tryz.isAgg79 (fw (vJ (D2 h)) (EQ (e:=h) (E5 rfl) e6) ?_))))))))))
 obtain⟨a,l⟩:=dG (ls:=j) (i:=D2 h) bB.len f3 (bg.rds (i:=9) rfl) e9
 have bi:=eP U l
 have pq:a.bS.ls.length≤a.bS.c∧a.bS.ls.length≤9223372036854775807:=bz bg (i:=10) rfl (φ:=fun _=>_) (av (O7.2 ⟨a,E0 l,b1⟩) bn)
 have pu:a.aC.ls.length≤a.aC.c∧a.aC.ls.length≤9223372036854775807:=bz bg (i:=10) rfl (φ:=fun _=>_) (av (O7.2 ⟨a,E0 l, .tail _ b1⟩) bn)
 have pz:a.bF.ls.length≤a.bF.c∧a.bF.ls.length≤9223372036854775807:=bz bg (i:=10) rfl (φ:=fun _=>_) (av (O7.2 ⟨a,E0 l, .tail _ b2⟩) bn)
 have pE:a.ae.ls.length≤a.ae.c∧a.ae.ls.length≤9223372036854775807:=bz bg (i:=10) rfl (φ:=fun _=>_) (av (O7.2 ⟨a,E0 l, .tail _ b3⟩) bn)
 have aM:Tok (bB.abs a):=xm f9 bi
 have pF:1≤a.aW∧a.aW≤4:=aM.zL
 have pG:a.bF.ls.length=a.aC.ls.length:=by have q9:=aM.yes; simp only [bB.abs,s6] at q9; exact q9
 have pI:a.ae.ls.length=a.aC.ls.length:=by have q9:=aM.res; simp only [bB.abs,s6] at q9; exact q9
 have pJ:a.aC.ls.length≤5:=by have q9:=aM.len; simp only [bB.abs,s6] at q9; exact q9
 have pM:a.bS.ls.length≤24:=aM.ops.1
 refine fw (.pointer (some ⟨ab d,ao d+(D2 h) *9,none⟩)) (ET (oQ) rfl rfl ((bg.rds (i:=9) rfl).addr (i:=D2 h) e6) e6) (Ar rfl ?_)
 have mg:=bg.pf [10]
 have dm:=GN (f:=bB.own) (i:=D2 h) (row a.bS.A a.bS.ls.length a.bS.c (q6 bC.cells a.bS.ls) 72 6) (row a.aC.A a.aC.ls.length a.aC.c (q6 bG.cells a.aC.ls) 172 3) (row a.bF.A a.bF.ls.length a.bF.c (q6 eL a.bF.ls) 4 1) (row a.ae.A a.ae.ls.length a.ae.c (q6 (FJ (β:=af)) a.ae.ls) 40 1) (sepL (q6 bG.own a.aC.ls)) (sepL (q6 bM.own a.ae.ls)) rfl l mg
 have pO:=dm.rowC (i:=0) rfl
 have pQ:=dm.rowC (i:=1) rfl
 have pR:a.aC.ls.length=s2 (s8 bG.abs a.aC.ls):=az (rfl:s8 bG.abs a.aC.ls=s8 bG.abs a.aC.ls)
 have pU:=dm.rowC (i:=2) rfl
 have pV:=dm.rowC (i:=3) rfl
 have pW:a.ae.ls.length=s2 (s8 bM.abs a.ae.ls):=az (rfl:s8 bM.abs a.ae.ls=s8 bM.abs a.ae.ls)
 refine Mz rfl (Kz (.pointer (some ⟨ab d,ao d+(D2 h) *9,none⟩)) (Kz (.pointer (some ⟨ab d,ao d+(D2 h) *9+5,none⟩)) (fw (.slice a.aC.A a.aC.ls.length a.aC.c) (EY rfl (bZ.one Tryz.isAgg103 (((dm.rds (i:=16) rfl).elem bB.len l f3).at_ (k:=5) rfl))) (Kz (.func (.func 92) #[] #[vP di 0]) ?_))))
 have gp:=dm.pf [7]
 have pX:a.aC.ls.length=s2 (s8 bG.abs a.aC.ls):=f0
 obtain⟨g,bq⟩:∃ q,ic (s8 bG.abs a.aC.ls) W=q:=⟨_,rfl⟩
 obtain⟨qO,iM,df,iO,dx⟩:=Fu gp
 refine cl Tryz.call91 (nE _ _ a.aC.A a.aC.ls.length a.aC.c a.aC.ls (s8 bG.abs a.aC.ls) di W cO bL bH bf bN cZ bP g iM (rfl:s8 bG.abs a.aC.ls=s8 bG.abs a.aC.ls) (dx _ 1 _ rfl aT) (fun x9 h9=>⟨dx _ 4 _ rfl (av (O7.2 ⟨x9,h9,b1⟩) aT),bz (φ:=fun _=>_) gp (i:=5) rfl (av (O7.2 ⟨x9,h9,b1⟩) bn),dx _ 4 _ rfl (av (O7.2 ⟨x9,h9, .tail _ b1⟩) aT),bz (φ:=fun _=>_) gp (i:=5) rfl (av (O7.2 ⟨x9,h9, .tail _ b1⟩) bn)⟩) f0 g4 (df _ fQ) (show W.aD.ls.length≤bL∧W.aD.ls.length≤9223372036854775807 from by omega) bX (df _ dw) (show W.ai.ls.length≤bf∧W.ai.ls.length≤9223372036854775807 from by omega) (fun x9 h9=>⟨df _ (bJ x9 h9).1,(bJ x9 h9).2⟩) (df _ gm) (show W.ag.ls.length≤bP∧W.ag.ls.length≤9223372036854775807 from by omega) bq) ?_
 rintro _ qP ⟨rfl,iP,fD⟩
 have bY:=iO _ _ iP
 replace fD: -1≤g∧g < ((s2 (s8 bG.abs a.aC.ls):Nat):Int):=fD
 refine An rfl (EP (sr (Mz rfl (Kz (.bool (decide (g < 0))) (Mz rfl ?_)))))
 by_cases aK:g < 0
 refine Sz (dT aK) (Sz (dT aK) (Sz (dT aK) (Sz (dT aK) (Sz (dT aK) (Sz (dT aK) (Sz (dT aK) (fw (.bool true) (Fa rfl (dT aK) rfl) (nt (jt (rt (tR (Fin.res (res0 rfl) ?_))))))))))))
 have mh:=bY.pf [1,2,3,4,5,6,7]
 have dB:=qB (f:=bB.own) l mh
 have pY:a.bS.ls.length≤a.bS.c∧a.bS.ls.length≤9223372036854775807:=bz dB (i:=0) rfl (φ:=fun _=>_) (av (O7.2 ⟨a,E0 l,b1⟩) bn)
 have p8:a.aC.ls.length≤a.aC.c∧a.aC.ls.length≤9223372036854775807:=bz dB (i:=0) rfl (φ:=fun _=>_) (av (O7.2 ⟨a,E0 l, .tail _ b1⟩) bn)
 have p9:a.bF.ls.length≤a.bF.c∧a.bF.ls.length≤9223372036854775807:=bz dB (i:=0) rfl (φ:=fun _=>_) (av (O7.2 ⟨a,E0 l, .tail _ b2⟩) bn)
 have qb:a.ae.ls.length≤a.ae.c∧a.ae.ls.length≤9223372036854775807:=bz dB (i:=0) rfl (φ:=fun _=>_) (av (O7.2 ⟨a,E0 l, .tail _ b3⟩) bn)
 have mi:=dB.px [2,3,4,5,6,7,8,9,10] [1] []
 obtain⟨rfl,rfl⟩:=fT (hr.symm.trans (show _=(p0,b) from et (ah aS) (et (ip aY) (et (ah (bI bi)) (et (ah bq) (ip aK))))))
 exact⟨ae,ag,aa,n,p,z,r,s,B,d,m,j,J,K,C,L,M,E,N,O,F,P,Q,G,R,S,I,rfl,mi,aL,ai,aj,U,ak,au,ax,aA,aC⟩
 refine gw (.pointer (some ⟨ab d,ao d+(D2 h) *9,none⟩)) (dF aK) (E5 rfl) (Gz (.pointer (some ⟨ab d,ao d+(D2 h) *9,none⟩)) (dF aK) (Gz (.pointer (some ⟨ab d,ao d+(D2 h) *9+6,none⟩)) (dF aK) (gw (.slice a.bF.A a.bF.ls.length a.bF.c) (dF aK) (EY rfl (bZ.one P0 (((bY.rds (i:=16) rfl).elem bB.len l f3).at_ (k:=6) rfl))) (gw (vJ (D2 g)) (dF aK) (EQ (e:=g) (E5 rfl) e6) ?_))))
 obtain⟨gq,aU⟩:=dG (ls:=a.bF.ls) (i:=D2 g) nV f3 (bY.rds (i:=3) rfl) e9
 refine gw (.pointer (some ⟨ab a.bF.A,ao a.bF.A+(D2 g) *1,none⟩)) (dF aK) (ET (wU) rfl rfl ((bY.rds (i:=3) rfl).addr (i:=D2 g) e6) e6) (gw (.bool gq) (dF aK) (EY rfl (bZ.one Tryz.isAgg4 (((bY.rds (i:=3) rfl).elem nV aU f3).at_ (k:=0) rfl))) (fw (.bool gq) (ES rfl (dF aK) rfl) (nt ?_)))
 rcases IW (gq) with bS | bS
 refine jT bS (rt (tR (Fin.res (res0 rfl) ?_)))
 have mo:=bY.pf [1,2,3,4,5,6,7]
 have dC:=qB (f:=bB.own) l mo
 have qc:a.bS.ls.length≤a.bS.c∧a.bS.ls.length≤9223372036854775807:=bz dC (i:=0) rfl (φ:=fun _=>_) (av (O7.2 ⟨a,E0 l,b1⟩) bn)
 have qf:a.aC.ls.length≤a.aC.c∧a.aC.ls.length≤9223372036854775807:=bz dC (i:=0) rfl (φ:=fun _=>_) (av (O7.2 ⟨a,E0 l, .tail _ b1⟩) bn)
 have qg:a.bF.ls.length≤a.bF.c∧a.bF.ls.length≤9223372036854775807:=bz dC (i:=0) rfl (φ:=fun _=>_) (av (O7.2 ⟨a,E0 l, .tail _ b2⟩) bn)
 have qh:a.ae.ls.length≤a.ae.c∧a.ae.ls.length≤9223372036854775807:=bz dC (i:=0) rfl (φ:=fun _=>_) (av (O7.2 ⟨a,E0 l, .tail _ b3⟩) bn)
 have mq:=dC.px [2,3,4,5,6,7,8,9,10] [1] []
 obtain⟨rfl,rfl⟩:=fT (hr.symm.trans (show _=(p0,b) from et (ah aS) (et (ip aY) (et (ah (bI bi)) (et (ah bq) (et (iN aK) (et (ah (bI aU)) (ip bS))))))))
 exact⟨ae,ag,aa,n,p,z,r,s,B,d,m,j,J,K,C,L,M,E,N,O,F,P,Q,G,R,S,I,rfl,mq,aL,ai,aj,U,ak,au,ax,aA,aC⟩
 refine jF bS (sk (EP (EP ?_)))
 refine oF 27 [] (E9 (E9 Fp)) bY ?_
 intro qQ gu
 refine qp di 4 0 rfl (ql 1 rfl 0 C6 rfl rfl rfl (qt (v:= .bool (decide (¬ (W.dJ=3)))) 2 rfl (fun _ _=>Fs (e:= !(decide (W.dJ=3))) yk decide_not.symm) (qv 3 rfl rfl ?_)))
 by_cases V:W.dJ=3
 refine EZ (v:=vP di 19) (rs:= []) 4 rfl rfl rfl (dF (IV V)) e7 (fun _ _=>yk) (EZ (v:= .slice bH W.ai.ls.length bf) (rs:= []) 5 rfl rfl rfl (dF (IV V)) e7 (fun _ ⟨_,H9⟩=>EY rfl (bZ.one Tryz.isAgg40 (FE (H9.cls (i:=0) rfl) rfl))) (EZ (v:=vJ W.ai.ls.length) (rs:= []) 6 rfl rfl rfl (dF (IV V)) e7 (fun _ _=>yk) (EZ (v:= .pointer (some ⟨ab d,ao d+(D2 h) *9,none⟩)) (rs:= []) 7 rfl rfl rfl (dF (IV V)) e7 (fun _ _=>E5 rfl) (EZ (v:= .pointer (some ⟨ab d,ao d+(D2 h) *9,none⟩)) (rs:= []) 8 rfl rfl rfl (dF (IV V)) e7 (fun _ _=>yk) (EZ (v:= .pointer (some ⟨ab d,ao d+(D2 h) *9+5,none⟩)) (rs:= []) 9 rfl rfl rfl (dF (IV V)) e7 (fun _ _=>yk) (EZ (v:= .slice a.aC.A a.aC.ls.length a.aC.c) (rs:= []) 10 rfl rfl rfl (dF (IV V)) e7 (fun _ ⟨_,H9⟩=>EY rfl (bZ.one Tryz.isAgg103 (((H9.rds (i:=16) rfl).elem bB.len l f3).at_ (k:=5) rfl))) (EZ (v:=vJ (D2 g)) (rs:= []) 11 rfl rfl rfl (dF (IV V)) e7 (fun _ _=>EQ (e:=g) (E5 rfl) e6) ?_)))))))
 obtain⟨bT,fE⟩:=ji (ls:=a.aC.ls) (i:=D2 g) e9
 have dE:=eP (rfl:s8 bG.abs a.aC.ls=s8 bG.abs a.aC.ls) fE
 refine EZ (v:= .pointer (some ⟨ab a.aC.A,ao a.aC.A+(D2 g) *3,none⟩)) (rs:= []) 12 rfl rfl rfl (dF (IV V)) e7 (fun _ ⟨_,H9⟩=>ET (sI) rfl rfl ((H9.rds (i:=2) rfl).addr (i:=D2 g) e6) e6) (EZ (v:= .pointer (some ⟨ab a.aC.A,ao a.aC.A+(D2 g) *3+1,none⟩)) (rs:= []) 13 rfl rfl rfl (dF (IV V)) e7 (fun _ _=>yk) (EZ (v:= .slice bT.aD.A bT.aD.ls.length bT.aD.c) (rs:= []) 14 rfl rfl rfl (dF (IV V)) e7 (fun _ ⟨_,H9⟩=>EY rfl (bZ.one Tryz.isAgg39 (((H9.rds (i:=2) rfl).elem bG.len fE f3).at_ (k:=1) rfl))) (EZ (v:=vJ bT.aD.ls.length) (rs:= []) 15 rfl rfl rfl (dF (IV V)) e7 (fun _ _=>yk) (EZ (v:= .bool (decide (¬ (((W.ai.ls.length:Nat):Int)=((bT.aD.ls.length:Nat):Int))))) (rs:= []) 16 rfl rfl rfl (dF (IV V)) e7 (fun _ _=>Fs (e:= !(decide (((W.ai.ls.length:Nat):Int)=((bT.aD.ls.length:Nat):Int)))) yk decide_not.symm) (qt (v:= .bool (decide (¬ (((W.ai.ls.length:Nat):Int)=((bT.aD.ls.length:Nat):Int))))) 17 rfl (fun _ _=>ES rfl (dF (IV V)) rfl) (qn (ER ?_)))))))
 by_cases dI:((W.ai.ls.length:Nat):Int)=((bT.aD.ls.length:Nat):Int)
 refine jF (dF (IV dI)) (sk (EP ?_))
 refine oF 27 [14,16] (E9 Fp) gu ?_
 intro qR iQ
 refine qv 0 rfl rfl (qk (.pointer (some ⟨ab d,ao d+(D2 h) *9,none⟩)) 1 rfl (qk (.pointer (some ⟨ab d,ao d+(D2 h) *9+6,none⟩)) 2 rfl (qt (v:= .slice a.bF.A a.bF.ls.length a.bF.c) 3 rfl (fun _ ⟨_,H9⟩=>EY rfl (bZ.one P0 (((H9.rds (i:=16) rfl).elem bB.len l f3).at_ (k:=6) rfl))) (qt (v:=vJ (D2 g)) 4 rfl (fun _ _=>EQ (e:=g) (E5 rfl) e6) (qv 5 rfl rfl (qk (.pointer (some ⟨ab d,ao d+(D2 h) *9,none⟩)) 6 rfl (qk (.pointer (some ⟨ab d,ao d+(D2 h) *9+7,none⟩)) 7 rfl (qt (v:= .slice a.ae.A a.ae.ls.length a.ae.c) 8 rfl (fun _ ⟨_,H9⟩=>EY rfl (bZ.one Tryz.isAgg105 (((H9.rds (i:=16) rfl).elem bB.len l f3).at_ (k:=7) rfl))) (Fz (v:=vJ (D2 g)) 9 rfl e7 (fun _=>EQ (e:=g) (E5 rfl) e6) (qp di 19 10 rfl (ql 11 rfl 0 Tryz.isAgg40 rfl rfl rfl ?_)))))))))))
 obtain⟨Y,bK⟩:∃ q,jb W.ai.ls=q:=⟨_,rfl⟩
 obtain⟨qi,gy,dJ,gB,mr⟩:=EU iQ
 refine qd 12 rfl (Fe Tryz.call48 rfl (lN _ _ bH W.ai.ls.length bf bN W.ai.ls Y gy bX (dJ _ dw) (fun x9 h9=>⟨dJ _ (bJ x9 h9).1,(bJ x9 h9).2⟩) rfl e6 (by first | assumption | exact dD f5 | (intro x hx; exact absurd hx List.not_mem_nil)) bK) ?_)
 rintro _ qj ⟨t,u,T,rfl,gD,aN⟩
 have fF:=gB _ _ gD
 have mE:=az aN
 have mF:=fF.rowC (i:=0) rfl
 have mG:mJ Y:=by rw [← bK]; show mJ W.ai.ls; assumption
 have fG:=fF.pb [0,1]
 refine⟨.inr ⟨_,fG⟩, ?_⟩
 refine qt (v:= .pointer (some ⟨ab a.bF.A,ao a.bF.A+(D2 g) *1,none⟩)) 13 rfl (fun _ ⟨_,H9⟩=>ET (wU) rfl rfl ((H9.rds (i:=3) rfl).addr (i:=D2 g) e6) e6) ?_
 have iR:=fG.pf [3]
 refine qe 14 rfl (Do.storeRow (vs:= [.bool true]) (o:=(D2 g) *1+0) (q:=ao a.bF.A+(D2 g) *1) iR rfl e6 rfl Tryz.sizeOf4 rfl rfl (IQ rfl) (iJ nV aU (IQ rfl)) (jw (y:=true) nV rfl (IQ rfl) aU) ?_)
 intro qm fH
 refine⟨.inl e7, ?_⟩
 obtain⟨bu,bE⟩:=ji (ls:=a.ae.ls) (i:=D2 g) e9
 have mH:=eP (rfl:s8 bM.abs a.ae.ls=s8 bM.abs a.ae.ls) bE
 refine Fz (v:= .pointer (some ⟨ab a.ae.A,ao a.ae.A+(D2 g) *1,none⟩)) 15 rfl e7 (fun _=>ET (vM) rfl rfl ((fH.rds (i:=4) rfl).addr (i:=D2 g) e6) e6) ?_
 have iT:=fH.pf [6]
 have iU:=GM (f:=bM.own) (i:=D2 g) (row bu.A bu.ls.length bu.c (q6 af.cells bu.ls) 149 3) (sepL (q6 af.own bu.ls)) rfl bE iT
 have iV:=iU.px [] [0,1] []
 have iW:=iV.pf [27,28]
 have iX:=FL (az aN).symm iW
 have iY:=FO (f:=bM.own) (y:=(H2 t u T)) bE iX
 have iZ:=iY.pf [5]
 refine qe 16 rfl (Do.storeRow (vs:= [.slice t Y.length u]) (o:=(D2 g) *1+0) (q:=ao a.ae.A+(D2 g) *1) iZ rfl e6 rfl Tryz.sizeOf40 rfl rfl (IQ rfl) (iJ qL bE (IQ rfl)) (jw (x:=bu) (f:=0) (vs:= [.slice t Y.length u]) (y:=(H2 t u T)) qL (show put ((FJ (β:=af)) bu) 0 ([.slice t Y.length u]:List Value)=(FJ (β:=af)) (H2 t u T) from congrArg (fun z9=>([.slice t z9 u]:List Value)) (az aN).symm) (IQ rfl) bE) ?_)
 intro qo ja
 have mK:s2 (u5 a.ae.ls (D2 g) (H2 t u T))=s2 (u5 (s8 bM.abs a.ae.ls) (D2 g) (E4 Y)):=az (iA (rfl:s8 bM.abs a.ae.ls=s8 bM.abs a.ae.ls) (congrArg E4 aN))
 have mM:s2 (u5 (s8 bM.abs a.ae.ls) (D2 g) (E4 Y))=s2 (s8 bM.abs a.ae.ls):=H3
 refine⟨.inl e7, ?_⟩
 refine qn (ER (EP ?_))
 have fI:=ja.px [] [3] []
 refine EO (Mz rfl (Kz (.pointer (some ⟨ab d,ao d+(D2 h) *9,none⟩)) (Kz (.pointer (some ⟨ab d,ao d+(D2 h) *9+6,none⟩)) (fw (.slice a.bF.A a.bF.ls.length a.bF.c) (EY rfl (bZ.one P0 (((fI.rds (i:=15) rfl).elem bB.len l f3).at_ (k:=6) rfl))) ?_))))
 have mO:a.bF.ls.length=s2 (u5 a.bF.ls (D2 g) true):=f0
 obtain⟨dL,cu⟩:∃ q,l6 (u5 a.bF.ls (D2 g) true) false=q:=⟨_,rfl⟩
 obtain⟨qw,gF,mP,gG,gI⟩:=EU fI
 refine cl Tryz.call93 (qG _ _ a.bF.A a.bF.ls.length a.bF.c (u5 a.bF.ls (D2 g) true) false dL gF (gI _ 2 _ rfl aT) f0 g4 cu) ?_
 rintro _ dh ⟨rfl,gJ⟩
 have fJ:=gG _ _ gJ
 refine Kz (.bool (!dL)) (nt ?_)
 rcases IW (dL) with bU | bU
 refine jF (cn bU) (Fq (Ff (res0 rfl) ?_))
 have jc:=fJ.pf [2]
 have jd:=Fx (y:=row a.bF.A (s2 (u5 a.bF.ls (D2 g) true)) a.bF.c (q6 eL (u5 a.bF.ls (D2 g) true)) 4 1) (congrArg (fun z9=>row a.bF.A z9 a.bF.c (q6 eL (u5 a.bF.ls (D2 g) true)) 4 1) (by simp only [H3]:a.bF.ls.length=s2 (u5 a.bF.ls (D2 g) true))) jc
 have je:=jd.pf [1]
 have jf:=Fx (y:=row a.ae.A (s2 (u5 a.ae.ls (D2 g) (H2 t u T))) a.ae.c (q6 (FJ (β:=af)) (u5 a.ae.ls (D2 g) (H2 t u T))) 40 1) (congrArg (fun z9=>row a.ae.A z9 a.ae.c (q6 (FJ (β:=af)) (u5 a.ae.ls (D2 g) (H2 t u T))) 40 1) (by simp only [H3]:a.ae.ls.length=s2 (u5 a.ae.ls (D2 g) (H2 t u T)))) je
 have jg:=jf.pf [3,4,1,0,5]
 have jh:=FO (f:=bB.own) (y:=(bB.mk a.bq a.aW a.aH a.dw a.bS a.aC (H2 a.bF.A a.bF.c (u5 a.bF.ls (D2 g) true)) (H2 a.ae.A a.ae.c (u5 a.ae.ls (D2 g) (H2 t u T))) a.dZ)) l jg
 have jk:Own w D dh [sepL (q6 bB.own (u5 j (D2 h) (bB.mk a.bq a.aW a.aH a.dw a.bS a.aC (H2 a.bF.A a.bF.c (u5 a.bF.ls (D2 g) true)) (H2 a.ae.A a.ae.c (u5 a.ae.ls (D2 g) (H2 t u T))) a.dZ))),blk g0 [vP X 0, .slice ae p0.bE.ls.length ag] 98,row ae p0.bE.ls.length ag (q6 bA.cells aa) 42 21,sepL (q6 bA.own aa),blk X [vI b.aa.ak,vU b.aa.ax,vU b.aa.bi,vU b.aa.aI, .slice aH b.aa.ag.ls.length aI, .slice n b.aa.aj.ls.length p, .slice r b.aa.aF.ls.length s,vU b.bH, .slice d b.aA.ls.length m, .bool b.aQ.aR,vU b.aQ.aH,vI b.aQ.aZ, .slice J b.aQ.ae.ls.length K, .bool b.aO.aR,vU b.aO.aH,vI b.aO.aZ, .slice L b.aO.ae.ls.length M, .bool b.aL.aR,vU b.aL.aH,vI b.aL.aZ, .slice N b.aL.ae.ls.length O, .bool b.aN.aR,vU b.aN.aH,vI b.aN.aZ, .slice P b.aN.ae.ls.length Q, .bool b.aK.aR,vU b.aK.aH,vI b.aK.aZ, .slice R b.aK.ae.ls.length S,vU b.df,vU b.cu,vU b.cz,vU b.cB,vU b.cK, .pointer none] 86,row n b.aa.aj.ls.length p (q6 ay.cells z) 60 5,sepL (q6 ay.own z),row r b.aa.aF.ls.length s (q6 aV.cells B) 56 4,sepL (q6 aV.own B),row d b.aA.ls.length m (q6 bB.cells (u5 j (D2 h) (bB.mk a.bq a.aW a.aH a.dw a.bS a.aC (H2 a.bF.A a.bF.c (u5 a.bF.ls (D2 g) true)) (H2 a.ae.A a.ae.c (u5 a.ae.ls (D2 g) (H2 t u T))) a.dZ))) 107 9,row J b.aQ.ae.ls.length K (q6 af.cells C) 149 3,sepL (q6 af.own C),row L b.aO.ae.ls.length M (q6 af.cells E) 149 3,sepL (q6 af.own E),row N b.aL.ae.ls.length O (q6 af.cells F) 149 3,sepL (q6 af.own F),row P b.aN.ae.ls.length Q (q6 af.cells G) 149 3,sepL (q6 af.own G),row R b.aK.ae.ls.length S (q6 af.cells I) 149 3,sepL (q6 af.own I)]:=by rw [xX (f:=bB.cells) (y:=(bB.mk a.bq a.aW a.aH a.dw a.bS a.aC (H2 a.bF.A a.bF.c (u5 a.bF.ls (D2 g) true)) (H2 a.ae.A a.ae.c (u5 a.ae.ls (D2 g) (H2 t u T))) a.dZ)) l (by simp only [bB.cells,H3])]; exact jh
 have mQ:s2 (u5 j (D2 h) (bB.mk a.bq a.aW a.aH a.dw a.bS a.aC (H2 a.bF.A a.bF.c (u5 a.bF.ls (D2 g) true)) (H2 a.ae.A a.ae.c (u5 a.ae.ls (D2 g) (H2 t u T))) a.dZ))=s2 (u5 b.aA.ls (D2 h) (dH.mk a.bq a.aW a.aH a.dw (E4 a.bS.ls) (E4 (s8 bG.abs a.aC.ls)) (E4 (u5 a.bF.ls (D2 g) true)) (E4 (u5 (s8 bM.abs a.ae.ls) (D2 g) (E4 Y))) a.dZ)):=az (iA U (congrArg (fun z0=>(dH.mk a.bq a.aW a.aH a.dw (E4 a.bS.ls) (E4 (s8 bG.abs a.aC.ls)) (E4 (u5 a.bF.ls (D2 g) true)) (E4 z0) a.dZ)) (iA (rfl:s8 bM.abs a.ae.ls=s8 bM.abs a.ae.ls) (congrArg E4 aN))))
 have mR:s2 (u5 b.aA.ls (D2 h) (dH.mk a.bq a.aW a.aH a.dw (E4 a.bS.ls) (E4 (s8 bG.abs a.aC.ls)) (E4 (u5 a.bF.ls (D2 g) true)) (E4 (u5 (s8 bM.abs a.ae.ls) (D2 g) (E4 Y))) a.dZ))=b.aA.ls.length:=H3
 have cz:b.aA.ls.length=s2 (u5 b.aA.ls (D2 h) (dH.mk a.bq a.aW a.aH a.dw (E4 a.bS.ls) (E4 (s8 bG.abs a.aC.ls)) (E4 (u5 a.bF.ls (D2 g) true)) (E4 (u5 (s8 bM.abs a.ae.ls) (D2 g) (E4 Y))) a.dZ)):=by first | omega | (simp only [H3]; done) | (simp only [H3,p5,s3,G1,p3,p4,H4]; omega)
 have jl:Own w D dh [sepL (q6 bB.own (u5 j (D2 h) (bB.mk a.bq a.aW a.aH a.dw a.bS a.aC (H2 a.bF.A a.bF.c (u5 a.bF.ls (D2 g) true)) (H2 a.ae.A a.ae.c (u5 a.ae.ls (D2 g) (H2 t u T))) a.dZ))),blk g0 [vP X 0, .slice ae p0.bE.ls.length ag] 98,row ae p0.bE.ls.length ag (q6 bA.cells aa) 42 21,sepL (q6 bA.own aa),blk X [vI b.aa.ak,vU b.aa.ax,vU b.aa.bi,vU b.aa.aI, .slice aH b.aa.ag.ls.length aI, .slice n b.aa.aj.ls.length p, .slice r b.aa.aF.ls.length s,vU b.bH, .slice d (s2 (u5 b.aA.ls (D2 h) (dH.mk a.bq a.aW a.aH a.dw (E4 a.bS.ls) (E4 (s8 bG.abs a.aC.ls)) (E4 (u5 a.bF.ls (D2 g) true)) (E4 (u5 (s8 bM.abs a.ae.ls) (D2 g) (E4 Y))) a.dZ))) m, .bool b.aQ.aR,vU b.aQ.aH,vI b.aQ.aZ, .slice J b.aQ.ae.ls.length K, .bool b.aO.aR,vU b.aO.aH,vI b.aO.aZ, .slice L b.aO.ae.ls.length M, .bool b.aL.aR,vU b.aL.aH,vI b.aL.aZ, .slice N b.aL.ae.ls.length O, .bool b.aN.aR,vU b.aN.aH,vI b.aN.aZ, .slice P b.aN.ae.ls.length Q, .bool b.aK.aR,vU b.aK.aH,vI b.aK.aZ, .slice R b.aK.ae.ls.length S,vU b.df,vU b.cu,vU b.cz,vU b.cB,vU b.cK, .pointer none] 86,row n b.aa.aj.ls.length p (q6 ay.cells z) 60 5,sepL (q6 ay.own z),row r b.aa.aF.ls.length s (q6 aV.cells B) 56 4,sepL (q6 aV.own B),row d (s2 (u5 b.aA.ls (D2 h) (dH.mk a.bq a.aW a.aH a.dw (E4 a.bS.ls) (E4 (s8 bG.abs a.aC.ls)) (E4 (u5 a.bF.ls (D2 g) true)) (E4 (u5 (s8 bM.abs a.ae.ls) (D2 g) (E4 Y))) a.dZ))) m (q6 bB.cells (u5 j (D2 h) (bB.mk a.bq a.aW a.aH a.dw a.bS a.aC (H2 a.bF.A a.bF.c (u5 a.bF.ls (D2 g) true)) (H2 a.ae.A a.ae.c (u5 a.ae.ls (D2 g) (H2 t u T))) a.dZ))) 107 9,row J b.aQ.ae.ls.length K (q6 af.cells C) 149 3,sepL (q6 af.own C),row L b.aO.ae.ls.length M (q6 af.cells E) 149 3,sepL (q6 af.own E),row N b.aL.ae.ls.length O (q6 af.cells F) 149 3,sepL (q6 af.own F),row P b.aN.ae.ls.length Q (q6 af.cells G) 149 3,sepL (q6 af.own G),row R b.aK.ae.ls.length S (q6 af.cells I) 149 3,sepL (q6 af.own I)]:=by rw [← cz]; exact jk
 have jm:=jl.pf [1,2,3,4,5,6,7,8,9]
 obtain⟨rfl,rfl⟩:=fT (hr.symm.trans (show _=(p0,aB.mk b.aa b.bH (E4 (u5 b.aA.ls (D2 h) (dH.mk a.bq a.aW a.aH a.dw (E4 a.bS.ls) (E4 (s8 bG.abs a.aC.ls)) (E4 (u5 a.bF.ls (D2 g) true)) (E4 (u5 (s8 bM.abs a.ae.ls) (D2 g) (E4 Y))) a.dZ))) b.aQ b.aO b.aL b.aN b.aK b.df b.cu b.cz b.cB b.cK) from et (ah aS) (et (ip aY) (et (ah (bI bi)) (et (ah bq) (et (iN aK) (et (ah (bI aU)) (et (fU bS) (et (ip V) (et (ah (bI dE)) (et (ip dI) (et (ah bK) (et (ah cu) (ip bU))))))))))))))
 exact⟨ae,ag,aa,n,p,z,r,s,B,d,m,(u5 j (D2 h) (bB.mk a.bq a.aW a.aH a.dw a.bS a.aC (H2 a.bF.A a.bF.c (u5 a.bF.ls (D2 g) true)) (H2 a.ae.A a.ae.c (u5 a.ae.ls (D2 g) (H2 t u T))) a.dZ)),J,K,C,L,M,E,N,O,F,P,Q,G,R,S,I,(by first | rfl | (rw [← cz]; done) | (rw [← cz]; rfl)),jm,aL,ai,aj,(iA U (congrArg (fun z0=>(dH.mk a.bq a.aW a.aH a.dw (E4 a.bS.ls) (E4 (s8 bG.abs a.aC.ls)) (E4 (u5 a.bF.ls (D2 g) true)) (E4 z0) a.dZ)) (iA (rfl:s8 bM.abs a.ae.ls=s8 bM.abs a.ae.ls) (congrArg E4 aN)))),ak,au,ax,aA,aC⟩
 refine jT (cn bU) (EO ?_)
 have jo:=fJ.pf [2]
 have jq:=Fx (y:=row a.bF.A (s2 (u5 a.bF.ls (D2 g) true)) a.bF.c (q6 eL (u5 a.bF.ls (D2 g) true)) 4 1) (congrArg (fun z9=>row a.bF.A z9 a.bF.c (q6 eL (u5 a.bF.ls (D2 g) true)) 4 1) (by simp only [H3]:a.bF.ls.length=s2 (u5 a.bF.ls (D2 g) true))) jo
 have jr:=jq.pf [1]
 have jv:=Fx (y:=row a.ae.A (s2 (u5 a.ae.ls (D2 g) (H2 t u T))) a.ae.c (q6 (FJ (β:=af)) (u5 a.ae.ls (D2 g) (H2 t u T))) 40 1) (congrArg (fun z9=>row a.ae.A z9 a.ae.c (q6 (FJ (β:=af)) (u5 a.ae.ls (D2 g) (H2 t u T))) 40 1) (by simp only [H3]:a.ae.ls.length=s2 (u5 a.ae.ls (D2 g) (H2 t u T)))) jr
 have jA:=jv.pf [3,4,1,0,5]
 have jB:=FO (f:=bB.own) (y:=(bB.mk a.bq a.aW a.aH a.dw a.bS a.aC (H2 a.bF.A a.bF.c (u5 a.bF.ls (D2 g) true)) (H2 a.ae.A a.ae.c (u5 a.ae.ls (D2 g) (H2 t u T))) a.dZ)) l jA
 have jC:Own w D dh [sepL (q6 bB.own (u5 j (D2 h) (bB.mk a.bq a.aW a.aH a.dw a.bS a.aC (H2 a.bF.A a.bF.c (u5 a.bF.ls (D2 g) true)) (H2 a.ae.A a.ae.c (u5 a.ae.ls (D2 g) (H2 t u T))) a.dZ))),blk g0 [vP X 0, .slice ae p0.bE.ls.length ag] 98,row ae p0.bE.ls.length ag (q6 bA.cells aa) 42 21,sepL (q6 bA.own aa),blk X [vI b.aa.ak,vU b.aa.ax,vU b.aa.bi,vU b.aa.aI, .slice aH b.aa.ag.ls.length aI, .slice n b.aa.aj.ls.length p, .slice r b.aa.aF.ls.length s,vU b.bH, .slice d b.aA.ls.length m, .bool b.aQ.aR,vU b.aQ.aH,vI b.aQ.aZ, .slice J b.aQ.ae.ls.length K, .bool b.aO.aR,vU b.aO.aH,vI b.aO.aZ, .slice L b.aO.ae.ls.length M, .bool b.aL.aR,vU b.aL.aH,vI b.aL.aZ, .slice N b.aL.ae.ls.length O, .bool b.aN.aR,vU b.aN.aH,vI b.aN.aZ, .slice P b.aN.ae.ls.length Q, .bool b.aK.aR,vU b.aK.aH,vI b.aK.aZ, .slice R b.aK.ae.ls.length S,vU b.df,vU b.cu,vU b.cz,vU b.cB,vU b.cK, .pointer none] 86,row n b.aa.aj.ls.length p (q6 ay.cells z) 60 5,sepL (q6 ay.own z),row r b.aa.aF.ls.length s (q6 aV.cells B) 56 4,sepL (q6 aV.own B),row d b.aA.ls.length m (q6 bB.cells (u5 j (D2 h) (bB.mk a.bq a.aW a.aH a.dw a.bS a.aC (H2 a.bF.A a.bF.c (u5 a.bF.ls (D2 g) true)) (H2 a.ae.A a.ae.c (u5 a.ae.ls (D2 g) (H2 t u T))) a.dZ))) 107 9,row J b.aQ.ae.ls.length K (q6 af.cells C) 149 3,sepL (q6 af.own C),row L b.aO.ae.ls.length M (q6 af.cells E) 149 3,sepL (q6 af.own E),row N b.aL.ae.ls.length O (q6 af.cells F) 149 3,sepL (q6 af.own F),row P b.aN.ae.ls.length Q (q6 af.cells G) 149 3,sepL (q6 af.own G),row R b.aK.ae.ls.length S (q6 af.cells I) 149 3,sepL (q6 af.own I)]:=by rw [xX (f:=bB.cells) (y:=(bB.mk a.bq a.aW a.aH a.dw a.bS a.aC (H2 a.bF.A a.bF.c (u5 a.bF.ls (D2 g) true)) (H2 a.ae.A a.ae.c (u5 a.ae.ls (D2 g) (H2 t u T))) a.dZ)) l (by simp only [bB.cells,H3])]; exact jB
 have mU:s2 (u5 j (D2 h) (bB.mk a.bq a.aW a.aH a.dw a.bS a.aC (H2 a.bF.A a.bF.c (u5 a.bF.ls (D2 g) true)) (H2 a.ae.A a.ae.c (u5 a.ae.ls (D2 g) (H2 t u T))) a.dZ))=s2 (u5 b.aA.ls (D2 h) (dH.mk a.bq a.aW a.aH a.dw (E4 a.bS.ls) (E4 (s8 bG.abs a.aC.ls)) (E4 (u5 a.bF.ls (D2 g) true)) (E4 (u5 (s8 bM.abs a.ae.ls) (D2 g) (E4 Y))) a.dZ)):=az (iA U (congrArg (fun z0=>(dH.mk a.bq a.aW a.aH a.dw (E4 a.bS.ls) (E4 (s8 bG.abs a.aC.ls)) (E4 (u5 a.bF.ls (D2 g) true)) (E4 z0) a.dZ)) (iA (rfl:s8 bM.abs a.ae.ls=s8 bM.abs a.ae.ls) (congrArg E4 aN))))
 have mV:s2 (u5 b.aA.ls (D2 h) (dH.mk a.bq a.aW a.aH a.dw (E4 a.bS.ls) (E4 (s8 bG.abs a.aC.ls)) (E4 (u5 a.bF.ls (D2 g) true)) (E4 (u5 (s8 bM.abs a.ae.ls) (D2 g) (E4 Y))) a.dZ))=b.aA.ls.length:=H3
 refine Mz rfl (Mz rfl ?_)
 have cB:b.aA.ls.length=s2 (u5 b.aA.ls (D2 h) (dH.mk a.bq a.aW a.aH a.dw (E4 a.bS.ls) (E4 (s8 bG.abs a.aC.ls)) (E4 (u5 a.bF.ls (D2 g) true)) (E4 (u5 (s8 bM.abs a.ae.ls) (D2 g) (E4 Y))) a.dZ)):=by first | omega | (simp only [H3]; done) | (simp only [H3,p5,s3,G1,p3,p4,H4]; omega)
 have jD:Own w D dh [sepL (q6 bB.own (u5 j (D2 h) (bB.mk a.bq a.aW a.aH a.dw a.bS a.aC (H2 a.bF.A a.bF.c (u5 a.bF.ls (D2 g) true)) (H2 a.ae.A a.ae.c (u5 a.ae.ls (D2 g) (H2 t u T))) a.dZ))),blk g0 [vP X 0, .slice ae p0.bE.ls.length ag] 98,row ae p0.bE.ls.length ag (q6 bA.cells aa) 42 21,sepL (q6 bA.own aa),blk X [vI b.aa.ak,vU b.aa.ax,vU b.aa.bi,vU b.aa.aI, .slice aH b.aa.ag.ls.length aI, .slice n b.aa.aj.ls.length p, .slice r b.aa.aF.ls.length s,vU b.bH, .slice d (s2 (u5 b.aA.ls (D2 h) (dH.mk a.bq a.aW a.aH a.dw (E4 a.bS.ls) (E4 (s8 bG.abs a.aC.ls)) (E4 (u5 a.bF.ls (D2 g) true)) (E4 (u5 (s8 bM.abs a.ae.ls) (D2 g) (E4 Y))) a.dZ))) m, .bool b.aQ.aR,vU b.aQ.aH,vI b.aQ.aZ, .slice J b.aQ.ae.ls.length K, .bool b.aO.aR,vU b.aO.aH,vI b.aO.aZ, .slice L b.aO.ae.ls.length M, .bool b.aL.aR,vU b.aL.aH,vI b.aL.aZ, .slice N b.aL.ae.ls.length O, .bool b.aN.aR,vU b.aN.aH,vI b.aN.aZ, .slice P b.aN.ae.ls.length Q, .bool b.aK.aR,vU b.aK.aH,vI b.aK.aZ, .slice R b.aK.ae.ls.length S,vU b.df,vU b.cu,vU b.cz,vU b.cB,vU b.cK, .pointer none] 86,row n b.aa.aj.ls.length p (q6 ay.cells z) 60 5,sepL (q6 ay.own z),row r b.aa.aF.ls.length s (q6 aV.cells B) 56 4,sepL (q6 aV.own B),row d (s2 (u5 b.aA.ls (D2 h) (dH.mk a.bq a.aW a.aH a.dw (E4 a.bS.ls) (E4 (s8 bG.abs a.aC.ls)) (E4 (u5 a.bF.ls (D2 g) true)) (E4 (u5 (s8 bM.abs a.ae.ls) (D2 g) (E4 Y))) a.dZ))) m (q6 bB.cells (u5 j (D2 h) (bB.mk a.bq a.aW a.aH a.dw a.bS a.aC (H2 a.bF.A a.bF.c (u5 a.bF.ls (D2 g) true)) (H2 a.ae.A a.ae.c (u5 a.ae.ls (D2 g) (H2 t u T))) a.dZ))) 107 9,row J b.aQ.ae.ls.length K (q6 af.cells C) 149 3,sepL (q6 af.own C),row L b.aO.ae.ls.length M (q6 af.cells E) 149 3,sepL (q6 af.own E),row N b.aL.ae.ls.length O (q6 af.cells F) 149 3,sepL (q6 af.own F),row P b.aN.ae.ls.length Q (q6 af.cells G) 149 3,sepL (q6 af.own G),row R b.aK.ae.ls.length S (q6 af.cells I) 149 3,sepL (q6 af.own I)]:=by rw [← cB]; exact jC
 have jE:=jD.pf [1,2,3,4,5,6,7,8,9]
 obtain⟨⟨fK,Z⟩,dM⟩:∃ q:bO × aB,lg p0 h (aB.mk b.aa b.bH (E4 (u5 b.aA.ls (D2 h) (dH.mk a.bq a.aW a.aH a.dw (E4 a.bS.ls) (E4 (s8 bG.abs a.aC.ls)) (E4 (u5 a.bF.ls (D2 g) true)) (E4 (u5 (s8 bM.abs a.ae.ls) (D2 g) (E4 Y))) a.dZ))) b.aQ b.aO b.aL b.aN b.aK b.df b.cu b.cz b.cB b.cK)=q:=⟨_,rfl⟩
 obtain⟨qx,gK,mW,gL,mX⟩:=Gx jE
 refine cl Tryz.call94 (ut _ _ g0 p0 ae ag aa h X (aB.mk b.aa b.bH (E4 (u5 b.aA.ls (D2 h) (dH.mk a.bq a.aW a.aH a.dw (E4 a.bS.ls) (E4 (s8 bG.abs a.aC.ls)) (E4 (u5 a.bF.ls (D2 g) true)) (E4 (u5 (s8 bM.abs a.ae.ls) (D2 g) (E4 Y))) a.dZ))) b.aQ b.aO b.aL b.aN b.aK b.df b.cu b.cz b.cB b.cK) aH aI n p z r s B d m (u5 j (D2 h) (bB.mk a.bq a.aW a.aH a.dw a.bS a.aC (H2 a.bF.A a.bF.c (u5 a.bF.ls (D2 g) true)) (H2 a.ae.A a.ae.c (u5 a.ae.ls (D2 g) (H2 t u T))) a.dZ)) J K C L M E N O F P Q G R S I fK Z gK aL ai aj (iA U (congrArg (fun z0=>(dH.mk a.bq a.aW a.aH a.dw (E4 a.bS.ls) (E4 (s8 bG.abs a.aC.ls)) (E4 (u5 a.bF.ls (D2 g) true)) (E4 z0) a.dZ)) (iA (rfl:s8 bM.abs a.ae.ls=s8 bM.abs a.ae.ls) (congrArg E4 aN)))) ak au ax aA aC e8 (by first | assumption | exact Mk.act f5 | exact mD f9 (nP (x:=bB.abs a) aM f5) | exact mD f9 (pK (x:=bB.abs a) aM _)) e8 dM) ?_
 rintro _ qy ⟨jG,jH,jI,jJ,jK,jL,jM,jN,jO,jP,jQ,jR,jS,jU,jV,jW,jX,jY,jZ,j3,j4,j5,j6,kg,ko,kr,ku,rfl,gN,dN,dO,dP,dQ,dR,dU,dV,dW,dX⟩
 have aO:=gL _ _ gN
 have mY:=az dN
 have mZ:=az dO
 have ng:=az dP
 have ni:=az dQ
 have nk:=az dR
 have nu:=az dU
 have ny:=az dV
 have nz:=az dW
 have nA:=az dX
 have nC:=aO.rowC (i:=1) rfl
 have nD:=aO.rowC (i:=4) rfl
 have nG:=aO.rowC (i:=6) rfl
 have nH:=aO.rowC (i:=8) rfl
 have nI:=aO.rowC (i:=10) rfl
 have nJ:=aO.rowC (i:=12) rfl
 have nK:=aO.rowC (i:=14) rfl
 have nL:=aO.rowC (i:=16) rfl
 have nM:=aO.rowC (i:=18) rfl
 refine WL.nil (Ff (res0 rfl) ?_)
 have kv:=aO.pf []
 obtain⟨rfl,rfl⟩:=fT (hr.symm.trans (show _=(fK,aB.mk (dA.mk Z.aa.ak Z.aa.ax Z.aa.bi Z.aa.aI (E4 b.aa.ag.ls) (E4 Z.aa.aj.ls) (E4 Z.aa.aF.ls)) Z.bH (E4 Z.aA.ls) Z.aQ Z.aO Z.aL Z.aN Z.aK Z.df Z.cu Z.cz Z.cB Z.cK) from et (ah aS) (et (ip aY) (et (ah (bI bi)) (et (ah bq) (et (iN aK) (et (ah (bI aU)) (et (fU bS) (et (ip V) (et (ah (bI dE)) (et (ip dI) (et (ah bK) (et (ah cu) (et (fU bU) (ah dM)))))))))))))))
 exact⟨jG,jH,jI,jJ,jK,jL,jM,jN,jO,jP,jQ,jR,jS,jU,jV,jW,jX,jY,jZ,j3,j4,j5,j6,kg,ko,kr,ku,(by first | rfl | (rw [← cB]; done) | (rw [← cB]; rfl)),kv,dN,dO,dP,dQ,dR,dU,dV,dW,dX⟩
 refine jT (dT dI) (sr ?_)
 have kw:=gu.pf [1,2,3,4,5,6,7]
 have bV:=qB (f:=bB.own) l kw
 have nN:a.bS.ls.length≤a.bS.c∧a.bS.ls.length≤9223372036854775807:=bz bV (i:=0) rfl (φ:=fun _=>_) (av (O7.2 ⟨a,E0 l,b1⟩) bn)
 have nO:a.aC.ls.length≤a.aC.c∧a.aC.ls.length≤9223372036854775807:=bz bV (i:=0) rfl (φ:=fun _=>_) (av (O7.2 ⟨a,E0 l, .tail _ b1⟩) bn)
 have nQ:a.bF.ls.length≤a.bF.c∧a.bF.ls.length≤9223372036854775807:=bz bV (i:=0) rfl (φ:=fun _=>_) (av (O7.2 ⟨a,E0 l, .tail _ b2⟩) bn)
 have nR:a.ae.ls.length≤a.ae.c∧a.ae.ls.length≤9223372036854775807:=bz bV (i:=0) rfl (φ:=fun _=>_) (av (O7.2 ⟨a,E0 l, .tail _ b3⟩) bn)
 refine Mz rfl (Mz rfl ?_)
 have ky:=bV.px [2,3,4,5,10] [] [1,6,7,8,9]
 obtain⟨⟨fM,aD⟩,dY⟩:∃ q:bO × aB,gz p0 h b=q:=⟨_,rfl⟩
 obtain⟨qz,gP,nS,gQ,nT⟩:=FY ky
 refine cl Tryz.call63 (mI _ _ g0 p0 ae ag aa h X b aH aI n p r s d m j J K C L M E N O F P Q G R S I fM aD gP aL U ak au ax aA aC e8 (by first | assumption | exact Mk.act f5 | exact mD f9 (nP (x:=bB.abs a) aM f5) | exact mD f9 (pK (x:=bB.abs a) aM _)) e8 dY) ?_
 rintro _ qA ⟨kz,kC,kD,kE,kF,kG,kH,kI,kJ,kK,kL,kM,kN,kP,kQ,kR,kS,kT,kU,kV,kW,rfl,gT,dZ,d9,ed,ek,eu,eB,eD⟩
 have aW:=gQ _ _ gT
 have nU:=az dZ
 have nW:=az d9
 have nX:=az ed
 have nY:=az ek
 have nZ:=az eu
 have og:=az eB
 have oh:=az eD
 have ol:=aW.rowC (i:=1) rfl
 have om:=aW.rowC (i:=4) rfl
 have oo:=aW.rowC (i:=6) rfl
 have oq:=aW.rowC (i:=8) rfl
 have ou:=aW.rowC (i:=10) rfl
 have ow:=aW.rowC (i:=12) rfl
 have oz:=aW.rowC (i:=14) rfl
 refine nt (rt (tR (Fin.res (res0 rfl) ?_)))
 have kX:=aW.px [0,1,2,3,17,18,19,20] [16] []
 obtain⟨rfl,rfl⟩:=fT (hr.symm.trans (show _=(fM,aB.mk (dA.mk aD.aa.ak aD.aa.ax aD.aa.bi aD.aa.aI (E4 b.aa.ag.ls) (E4 b.aa.aj.ls) (E4 b.aa.aF.ls)) aD.bH (E4 aD.aA.ls) aD.aQ aD.aO aD.aL aD.aN aD.aK aD.df aD.cu aD.cz aD.cB aD.cK) from et (ah aS) (et (ip aY) (et (ah (bI bi)) (et (ah bq) (et (iN aK) (et (ah (bI aU)) (et (fU bS) (et (ip V) (et (ah (bI dE)) (et (iN dI) (ah dY))))))))))))
 exact⟨kz,kC,kD,n,p,z,r,s,B,kE,kF,kG,kH,kI,kJ,kK,kL,kM,kN,kP,kQ,kR,kS,kT,kU,kV,kW,rfl,kX,dZ,ai,aj,d9,ed,ek,eu,eB,eD⟩
 refine EW (rs:= []) 4 rfl rfl rfl (dT V) e7 (EW (rs:= []) 5 rfl rfl rfl (dT V) e7 (EW (rs:= []) 6 rfl rfl rfl (dT V) e7 (EW (rs:= []) 7 rfl rfl rfl (dT V) e7 (EW (rs:= []) 8 rfl rfl rfl (dT V) e7 (EW (rs:= []) 9 rfl rfl rfl (dT V) e7 (EW (rs:= []) 10 rfl rfl rfl (dT V) e7 (EW (rs:= []) 11 rfl rfl rfl (dT V) e7 (EW (rs:= []) 12 rfl rfl rfl (dT V) e7 (EW (rs:= []) 13 rfl rfl rfl (dT V) e7 (EW (rs:= []) 14 rfl rfl rfl (dT V) e7 (EW (rs:= []) 15 rfl rfl rfl (dT V) e7 (EW (rs:= []) 16 rfl rfl rfl (dT V) e7 (qt (v:= .bool true) 17 rfl (fun _ _=>Fa rfl (dT V) rfl) (qn (ER (jt (sr ?_)))))))))))))))))
 have kZ:=gu.pf [1,2,3,4,5,6,7]
 have bW:=qB (f:=bB.own) l kZ
 have oC:a.bS.ls.length≤a.bS.c∧a.bS.ls.length≤9223372036854775807:=bz bW (i:=0) rfl (φ:=fun _=>_) (av (O7.2 ⟨a,E0 l,b1⟩) bn)
 have oD:a.aC.ls.length≤a.aC.c∧a.aC.ls.length≤9223372036854775807:=bz bW (i:=0) rfl (φ:=fun _=>_) (av (O7.2 ⟨a,E0 l, .tail _ b1⟩) bn)
 have oG:a.bF.ls.length≤a.bF.c∧a.bF.ls.length≤9223372036854775807:=bz bW (i:=0) rfl (φ:=fun _=>_) (av (O7.2 ⟨a,E0 l, .tail _ b2⟩) bn)
 have oH:a.ae.ls.length≤a.ae.c∧a.ae.ls.length≤9223372036854775807:=bz bW (i:=0) rfl (φ:=fun _=>_) (av (O7.2 ⟨a,E0 l, .tail _ b3⟩) bn)
 refine Mz rfl (Mz rfl ?_)
 have lc:=bW.px [2,3,4,5,10] [] [1,6,7,8,9]
 obtain⟨⟨fO,aF⟩,eF⟩:∃ q:bO × aB,gz p0 h b=q:=⟨_,rfl⟩
 obtain⟨qC,gU,oI,gV,oJ⟩:=FY lc
 refine cl Tryz.call63 (mI _ _ g0 p0 ae ag aa h X b aH aI n p r s d m j J K C L M E N O F P Q G R S I fO aF gU aL U ak au ax aA aC e8 (by first | assumption | exact Mk.act f5 | exact mD f9 (nP (x:=bB.abs a) aM f5) | exact mD f9 (pK (x:=bB.abs a) aM _)) e8 eF) ?_
 rintro _ qD ⟨lh,ll,lm,lq,lu,lv,lw,lC,lD,lF,lG,lH,lI,lJ,lK,lL,lM,lQ,lS,lU,lV,rfl,gW,eG,eH,eO,eQ,eT,eU,eX⟩
 have aX:=gV _ _ gW
 have oK:=az eG
 have oL:=az eH
 have oM:=az eO
 have oN:=az eQ
 have oO:=az eT
 have oP:=az eU
 have oU:=az eX
 have oV:=aX.rowC (i:=1) rfl
 have oW:=aX.rowC (i:=4) rfl
 have oZ:=aX.rowC (i:=6) rfl
 have o5:=aX.rowC (i:=8) rfl
 have o6:=aX.rowC (i:=10) rfl
 have o7:=aX.rowC (i:=12) rfl
 have o8:=aX.rowC (i:=14) rfl
 refine nt (rt (tR (Fin.res (res0 rfl) ?_)))
 have lW:=aX.px [0,1,2,3,17,18,19,20] [16] []
 obtain⟨rfl,rfl⟩:=fT (hr.symm.trans (show _=(fO,aB.mk (dA.mk aF.aa.ak aF.aa.ax aF.aa.bi aF.aa.aI (E4 b.aa.ag.ls) (E4 b.aa.aj.ls) (E4 b.aa.aF.ls)) aF.bH (E4 aF.aA.ls) aF.aQ aF.aO aF.aL aF.aN aF.aK aF.df aF.cu aF.cz aF.cB aF.cK) from et (ah aS) (et (ip aY) (et (ah (bI bi)) (et (ah bq) (et (iN aK) (et (ah (bI aU)) (et (fU bS) (et (iN V) (ah eF))))))))))
 exact⟨lh,ll,lm,n,p,z,r,s,B,lq,lu,lv,lw,lC,lD,lF,lG,lH,lI,lJ,lK,lL,lM,lQ,lS,lU,lV,rfl,lW,eG,ai,aj,eH,eO,eQ,eT,eU,eX⟩
 have h39t:Bool.toNat bR=0:=by rw [aY]; rfl
 refine jT (cn aY) (rt (tR (Fin.res (res0 rfl) ?_)))
 have lX:=bg.px [] [0] []
 obtain⟨rfl,rfl⟩:=fT (hr.symm.trans (show _=(p0,b) from et (ah aS) (fU aY)))
 exact⟨ae,ag,aa,n,p,z,r,s,B,d,m,j,J,K,C,L,M,E,N,O,F,P,Q,G,R,S,I,rfl,lX,aL,ai,aj,U,ak,au,ax,aA,aC⟩
end Go.Proofs.YtbkagebjhbphaaaGreat
