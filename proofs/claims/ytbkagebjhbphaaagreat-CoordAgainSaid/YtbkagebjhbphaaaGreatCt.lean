/-
 coord: the machine as one thing.
-/
import Derived.Test.YtbkagebjhbphaaaGreatCoS
namespace Go.Proofs.YtbkagebjhbphaaaGreat
open List renaming flatMap→q6,map→s8,mem_flatMap→P3
open Ll renaming mk→E4
open _root_.Go.Proofs.Tryz renaming prog→y4
set_option maxRecDepth 100000
open Go.RowKit
set_option linter.unusedVariables false
set_option linter.unusedSectionVars false
set_option linter.unusedSimpArgs false
def iE (g:Nat) (m:aB):HP:=Eg (fun x:(Option Addr) × Nat × (Option Addr) × Nat × (List aA) × (Option Addr) × Nat × (List aZ) × (Option Addr) × Nat × (List bA) × (Option Addr) × Nat × (List af) × (Option Addr) × Nat × (List af) × (Option Addr) × Nat × (List af) × (Option Addr) × Nat × (List af) × (Option Addr) × Nat × (List af)=>s8 aA.abs x.2.2.2.2.1=m.aa.aj.ls∧s8 aZ.abs x.2.2.2.2.2.2.2.1=m.aa.aI.ls∧s8 bA.abs x.2.2.2.2.2.2.2.2.2.2.1=m.ak.ls∧s8 af.abs x.2.2.2.2.2.2.2.2.2.2.2.2.2.1=m.aR.ae.ls∧s8 af.abs x.2.2.2.2.2.2.2.2.2.2.2.2.2.2.2.2.1=m.aN.ae.ls∧s8 af.abs x.2.2.2.2.2.2.2.2.2.2.2.2.2.2.2.2.2.2.2.1=m.aO.ae.ls∧s8 af.abs x.2.2.2.2.2.2.2.2.2.2.2.2.2.2.2.2.2.2.2.2.2.2.1=m.aP.ae.ls∧s8 af.abs x.2.2.2.2.2.2.2.2.2.2.2.2.2.2.2.2.2.2.2.2.2.2.2.2.2=m.aM.ae.ls) (fun x=> [blk g [.int .i64 m.aa.av, .int .u64 ((m.aa.ax:Nat):Int), .int .u64 ((m.aa.bf:Nat):Int), .int .u64 ((m.aa.aK:Nat):Int), .slice x.1 m.aa.ag.ls.length x.2.1, .slice x.2.2.1 m.aa.aj.ls.length x.2.2.2.1, .slice x.2.2.2.2.2.1 m.aa.aI.ls.length x.2.2.2.2.2.2.1, .int .u64 ((m.bI:Nat):Int), .slice x.2.2.2.2.2.2.2.2.1 m.ak.ls.length x.2.2.2.2.2.2.2.2.2.1, .bool m.aR.aT, .int .u64 ((m.aR.aF:Nat):Int), .int .i64 m.aR.bn, .slice x.2.2.2.2.2.2.2.2.2.2.2.1 m.aR.ae.ls.length x.2.2.2.2.2.2.2.2.2.2.2.2.1, .bool m.aN.aT, .int .u64 ((m.aN.aF:Nat):Int), .int .i64 m.aN.bn, .slice x.2.2.2.2.2.2.2.2.2.2.2.2.2.2.1 m.aN.ae.ls.length x.2.2.2.2.2.2.2.2.2.2.2.2.2.2.2.1, .bool m.aO.aT, .int .u64 ((m.aO.aF:Nat):Int), .int .i64 m.aO.bn, .slice x.2.2.2.2.2.2.2.2.2.2.2.2.2.2.2.2.2.1 m.aO.ae.ls.length x.2.2.2.2.2.2.2.2.2.2.2.2.2.2.2.2.2.2.1, .bool m.aP.aT, .int .u64 ((m.aP.aF:Nat):Int), .int .i64 m.aP.bn, .slice x.2.2.2.2.2.2.2.2.2.2.2.2.2.2.2.2.2.2.2.2.1 m.aP.ae.ls.length x.2.2.2.2.2.2.2.2.2.2.2.2.2.2.2.2.2.2.2.2.2.1, .bool m.aM.aT, .int .u64 ((m.aM.aF:Nat):Int), .int .i64 m.aM.bn, .slice x.2.2.2.2.2.2.2.2.2.2.2.2.2.2.2.2.2.2.2.2.2.2.2.1 m.aM.ae.ls.length x.2.2.2.2.2.2.2.2.2.2.2.2.2.2.2.2.2.2.2.2.2.2.2.2.1, .int .u64 ((m.di:Nat):Int), .int .u64 ((m.cz:Nat):Int), .int .u64 ((m.cK:Nat):Int), .int .u64 ((m.cB:Nat):Int), .int .u64 ((m.cu:Nat):Int), .pointer none] 86,row x.1 m.aa.ag.ls.length x.2.1 (q6 bv.cells m.aa.ag.ls) 89 2,row x.2.2.1 m.aa.aj.ls.length x.2.2.2.1 (q6 aA.cells x.2.2.2.2.1) 60 5,sepL (q6 aA.own x.2.2.2.2.1),row x.2.2.2.2.2.1 m.aa.aI.ls.length x.2.2.2.2.2.2.1 (q6 aZ.cells x.2.2.2.2.2.2.2.1) 56 4,sepL (q6 aZ.own x.2.2.2.2.2.2.2.1),row x.2.2.2.2.2.2.2.2.1 m.ak.ls.length x.2.2.2.2.2.2.2.2.2.1 (q6 bA.cells x.2.2.2.2.2.2.2.2.2.2.1) 107 9,sepL (q6 bA.own x.2.2.2.2.2.2.2.2.2.2.1),row x.2.2.2.2.2.2.2.2.2.2.2.1 m.aR.ae.ls.length x.2.2.2.2.2.2.2.2.2.2.2.2.1 (q6 af.cells x.2.2.2.2.2.2.2.2.2.2.2.2.2.1) 149 3,sepL (q6 af.own x.2.2.2.2.2.2.2.2.2.2.2.2.2.1),row x.2.2.2.2.2.2.2.2.2.2.2.2.2.2.1 m.aN.ae.ls.length x.2.2.2.2.2.2.2.2.2.2.2.2.2.2.2.1 (q6 af.cells x.2.2.2.2.2.2.2.2.2.2.2.2.2.2.2.2.1) 149 3,sepL (q6 af.own x.2.2.2.2.2.2.2.2.2.2.2.2.2.2.2.2.1),row x.2.2.2.2.2.2.2.2.2.2.2.2.2.2.2.2.2.1 m.aO.ae.ls.length x.2.2.2.2.2.2.2.2.2.2.2.2.2.2.2.2.2.2.1 (q6 af.cells x.2.2.2.2.2.2.2.2.2.2.2.2.2.2.2.2.2.2.2.1) 149 3,sepL (q6 af.own x.2.2.2.2.2.2.2.2.2.2.2.2.2.2.2.2.2.2.2.1),row x.2.2.2.2.2.2.2.2.2.2.2.2.2.2.2.2.2.2.2.2.1 m.aP.ae.ls.length x.2.2.2.2.2.2.2.2.2.2.2.2.2.2.2.2.2.2.2.2.2.1 (q6 af.cells x.2.2.2.2.2.2.2.2.2.2.2.2.2.2.2.2.2.2.2.2.2.2.1) 149 3,sepL (q6 af.own x.2.2.2.2.2.2.2.2.2.2.2.2.2.2.2.2.2.2.2.2.2.2.1),row x.2.2.2.2.2.2.2.2.2.2.2.2.2.2.2.2.2.2.2.2.2.2.2.1 m.aM.ae.ls.length x.2.2.2.2.2.2.2.2.2.2.2.2.2.2.2.2.2.2.2.2.2.2.2.2.1 (q6 af.cells x.2.2.2.2.2.2.2.2.2.2.2.2.2.2.2.2.2.2.2.2.2.2.2.2.2) 149 3,sepL (q6 af.own x.2.2.2.2.2.2.2.2.2.2.2.2.2.2.2.2.2.2.2.2.2.2.2.2.2)])
theorem ji {w0 w:World} {D:Nat→Prop} {L:List HP} {g:Nat} {m:aB} (H:Own w0 D w (iE g m::L)):∃ (u:Option Addr) (a:Nat) (v:Option Addr) (b:Nat) (c:List aA) (x:Option Addr) (d:Nat) (e:List aZ) (y:Option Addr) (f:Nat) (h:List bA) (z:Option Addr) (j:Nat) (k:List af) (A:Option Addr) (l:Nat) (n:List af) (B:Option Addr) (o:Nat) (p:List af) (C:Option Addr) (q:Nat) (r:List af) (E:Option Addr) (s:Nat) (t:List af),s8 aA.abs c=m.aa.aj.ls∧s8 aZ.abs e=m.aa.aI.ls∧s8 bA.abs h=m.ak.ls∧s8 af.abs k=m.aR.ae.ls∧s8 af.abs n=m.aN.ae.ls∧s8 af.abs p=m.aO.ae.ls∧s8 af.abs r=m.aP.ae.ls∧s8 af.abs t=m.aM.ae.ls∧(c.length=m.aa.aj.ls.length∧e.length=m.aa.aI.ls.length∧h.length=m.ak.ls.length∧k.length=m.aR.ae.ls.length∧n.length=m.aN.ae.ls.length∧p.length=m.aO.ae.ls.length∧r.length=m.aP.ae.ls.length∧t.length=m.aM.ae.ls.length∧(m.aa.ag.ls.length≤a∧a≤9223372036854775807)∧(m.aa.aj.ls.length≤b∧b≤9223372036854775807)∧(m.aa.aI.ls.length≤d∧d≤9223372036854775807)∧(m.ak.ls.length≤f∧f≤9223372036854775807)∧(m.aR.ae.ls.length≤j∧j≤9223372036854775807)∧(m.aN.ae.ls.length≤l∧l≤9223372036854775807)∧(m.aO.ae.ls.length≤o∧o≤9223372036854775807)∧(m.aP.ae.ls.length≤q∧q≤9223372036854775807)∧(m.aM.ae.ls.length≤s∧s≤9223372036854775807))∧Own w0 D w (blk g [.int .i64 m.aa.av, .int .u64 ((m.aa.ax:Nat):Int), .int .u64 ((m.aa.bf:Nat):Int), .int .u64 ((m.aa.aK:Nat):Int), .slice u m.aa.ag.ls.length a, .slice v m.aa.aj.ls.length b, .slice x m.aa.aI.ls.length d, .int .u64 ((m.bI:Nat):Int), .slice y m.ak.ls.length f, .bool m.aR.aT, .int .u64 ((m.aR.aF:Nat):Int), .int .i64 m.aR.bn, .slice z m.aR.ae.ls.length j, .bool m.aN.aT, .int .u64 ((m.aN.aF:Nat):Int), .int .i64 m.aN.bn, .slice A m.aN.ae.ls.length l, .bool m.aO.aT, .int .u64 ((m.aO.aF:Nat):Int), .int .i64 m.aO.bn, .slice B m.aO.ae.ls.length o, .bool m.aP.aT, .int .u64 ((m.aP.aF:Nat):Int), .int .i64 m.aP.bn, .slice C m.aP.ae.ls.length q, .bool m.aM.aT, .int .u64 ((m.aM.aF:Nat):Int), .int .i64 m.aM.bn, .slice E m.aM.ae.ls.length s, .int .u64 ((m.di:Nat):Int), .int .u64 ((m.cz:Nat):Int), .int .u64 ((m.cK:Nat):Int), .int .u64 ((m.cB:Nat):Int), .int .u64 ((m.cu:Nat):Int), .pointer none] 86::row u m.aa.ag.ls.length a (q6 bv.cells m.aa.ag.ls) 89 2::row v m.aa.aj.ls.length b (q6 aA.cells c) 60 5::sepL (q6 aA.own c)::row x m.aa.aI.ls.length d (q6 aZ.cells e) 56 4::sepL (q6 aZ.own e)::row y m.ak.ls.length f (q6 bA.cells h) 107 9::sepL (q6 bA.own h)::row z m.aR.ae.ls.length j (q6 af.cells k) 149 3::sepL (q6 af.own k)::row A m.aN.ae.ls.length l (q6 af.cells n) 149 3::sepL (q6 af.own n)::row B m.aO.ae.ls.length o (q6 af.cells p) 149 3::sepL (q6 af.own p)::row C m.aP.ae.ls.length q (q6 af.cells r) 149 3::sepL (q6 af.own r)::row E m.aM.ae.ls.length s (q6 af.cells t) 149 3::sepL (q6 af.own t)::L):=by
 obtain⟨⟨u,a,v,b,c,x,d,e,y,f,h,z,j,k,A,l,n,B,o,p,C,q,r,E,s,t⟩,⟨F,G,I,J,K,M,N,O⟩,H⟩:=IZ H
 have H:Own w0 D w (blk g [vI m.aa.av,vU m.aa.ax,vU m.aa.bf,vU m.aa.aK, .slice u m.aa.ag.ls.length a, .slice v m.aa.aj.ls.length b, .slice x m.aa.aI.ls.length d,vU m.bI, .slice y m.ak.ls.length f, .bool m.aR.aT,vU m.aR.aF,vI m.aR.bn, .slice z m.aR.ae.ls.length j, .bool m.aN.aT,vU m.aN.aF,vI m.aN.bn, .slice A m.aN.ae.ls.length l, .bool m.aO.aT,vU m.aO.aF,vI m.aO.bn, .slice B m.aO.ae.ls.length o, .bool m.aP.aT,vU m.aP.aF,vI m.aP.bn, .slice C m.aP.ae.ls.length q, .bool m.aM.aT,vU m.aM.aF,vI m.aM.bn, .slice E m.aM.ae.ls.length s,vU m.di,vU m.cz,vU m.cK,vU m.cB,vU m.cu, .pointer none] 86::row u m.aa.ag.ls.length a (q6 bv.cells m.aa.ag.ls) 89 2::row v m.aa.aj.ls.length b (q6 aA.cells c) 60 5::sepL (q6 aA.own c)::row x m.aa.aI.ls.length d (q6 aZ.cells e) 56 4::sepL (q6 aZ.own e)::row y m.ak.ls.length f (q6 bA.cells h) 107 9::sepL (q6 bA.own h)::row z m.aR.ae.ls.length j (q6 af.cells k) 149 3::sepL (q6 af.own k)::row A m.aN.ae.ls.length l (q6 af.cells n) 149 3::sepL (q6 af.own n)::row B m.aO.ae.ls.length o (q6 af.cells p) 149 3::sepL (q6 af.own p)::row C m.aP.ae.ls.length q (q6 af.cells r) 149 3::sepL (q6 af.own r)::row E m.aM.ae.ls.length s (q6 af.cells t) 149 3::sepL (q6 af.own t)::L):=H
 refine⟨u,a,v,b,c,x,d,e,y,f,h,z,j,k,A,l,n,B,o,p,C,q,r,E,s,t,F,G,I,J,K,M,N,O,⟨az F,az G,az I,az J,az K,az M,az N,az O,H.rowC (i:=1) rfl,H.rowC (i:=2) rfl,H.rowC (i:=4) rfl,H.rowC (i:=6) rfl,H.rowC (i:=8) rfl,H.rowC (i:=10) rfl,H.rowC (i:=12) rfl,H.rowC (i:=14) rfl,H.rowC (i:=16) rfl⟩,H⟩
theorem fA {w0 w:World} {D:Nat→Prop} {L:List HP} {g:Nat} {y0:Int} {y1:Nat} {y2:Nat} {y3:Nat} {f:List bv} {B:List bM} {C:List fE} {y7:Nat} {E:List dE} {y9:Bool} {h:Nat} {i:Int} {a:List aY} {j:Bool} {k:Nat} {l:Int} {b:List aY} {m:Bool} {n:Nat} {o:Int} {c:List aY} {p:Bool} {q:Nat} {r:Int} {d:List aY} {s:Bool} {t:Nat} {u:Int} {e:List aY} {v:Nat} {x:Nat} {y:Nat} {z:Nat} {A:Nat} {P:Option Addr} {Q:Nat} {R:Option Addr} {S:Nat} {F:List aA} {T:Option Addr} {U:Nat} {G:List aZ} {V:Option Addr} {W:Nat} {I:List bA} {X:Option Addr} {Y:Nat} {J:List af} {Z:Option Addr} {c5:Nat} {K:List af} {A6:Option Addr} {c6:Nat} {M:List af} {A7:Option Addr} {c7:Nat} {N:List af} {A8:Option Addr} {c8:Nat} {O:List af} (aD:s8 aA.abs F=B) (aF:s8 aZ.abs G=C) (aG:s8 bA.abs I=E) (aH:s8 af.abs J=a) (aI:s8 af.abs K=b) (aJ:s8 af.abs M=c) (aK:s8 af.abs N=d) (aL:s8 af.abs O=e) (H:Own w0 D w (blk g [.int .i64 y0, .int .u64 ((y1:Nat):Int), .int .u64 ((y2:Nat):Int), .int .u64 ((y3:Nat):Int), .slice P f.length Q, .slice R B.length S, .slice T C.length U, .int .u64 ((y7:Nat):Int), .slice V E.length W, .bool y9, .int .u64 ((h:Nat):Int), .int .i64 i, .slice X a.length Y, .bool j, .int .u64 ((k:Nat):Int), .int .i64 l, .slice Z b.length c5, .bool m, .int .u64 ((n:Nat):Int), .int .i64 o, .slice A6 c.length c6, .bool p, .int .u64 ((q:Nat):Int), .int .i64 r, .slice A7 d.length c7, .bool s, .int .u64 ((t:Nat):Int), .int .i64 u, .slice A8 e.length c8, .int .u64 ((v:Nat):Int), .int .u64 ((x:Nat):Int), .int .u64 ((y:Nat):Int), .int .u64 ((z:Nat):Int), .int .u64 ((A:Nat):Int), .pointer none] 86::row P f.length Q (q6 bv.cells f) 89 2::row R B.length S (q6 aA.cells F) 60 5::sepL (q6 aA.own F)::row T C.length U (q6 aZ.cells G) 56 4::sepL (q6 aZ.own G)::row V E.length W (q6 bA.cells I) 107 9::sepL (q6 bA.own I)::row X a.length Y (q6 af.cells J) 149 3::sepL (q6 af.own J)::row Z b.length c5 (q6 af.cells K) 149 3::sepL (q6 af.own K)::row A6 c.length c6 (q6 af.cells M) 149 3::sepL (q6 af.own M)::row A7 d.length c7 (q6 af.cells N) 149 3::sepL (q6 af.own N)::row A8 e.length c8 (q6 af.cells O) 149 3::sepL (q6 af.own O)::L)):Own w0 D w (iE g (aB.mk (dC.mk y0 y1 y2 y3 (E4 f) (E4 B) (E4 C)) y7 (E4 E) (dX.mk y9 h i (E4 a)) (dX.mk j k l (E4 b)) (dX.mk m n o (E4 c)) (dX.mk p q r (E4 d)) (dX.mk s t u (E4 e)) v x y z A)::L):=
 I1 (P,Q,R,S,F,T,U,G,V,W,I,X,Y,J,Z,c5,K,A6,c6,M,A7,c7,N,A8,c8,O) ⟨aD,aF,aG,aH,aI,aJ,aK,aL⟩ (show Own w0 D w ([blk g [vI y0,vU y1,vU y2,vU y3, .slice P f.length Q, .slice R B.length S, .slice T C.length U,vU y7, .slice V E.length W, .bool y9,vU h,vI i, .slice X a.length Y, .bool j,vU k,vI l, .slice Z b.length c5, .bool m,vU n,vI o, .slice A6 c.length c6, .bool p,vU q,vI r, .slice A7 d.length c7, .bool s,vU t,vI u, .slice A8 e.length c8,vU v,vU x,vU y,vU z,vU A, .pointer none] 86,row P f.length Q (q6 bv.cells f) 89 2,row R B.length S (q6 aA.cells F) 60 5,sepL (q6 aA.own F),row T C.length U (q6 aZ.cells G) 56 4,sepL (q6 aZ.own G),row V E.length W (q6 bA.cells I) 107 9,sepL (q6 bA.own I),row X a.length Y (q6 af.cells J) 149 3,sepL (q6 af.own J),row Z b.length c5 (q6 af.cells K) 149 3,sepL (q6 af.own K),row A6 c.length c6 (q6 af.cells M) 149 3,sepL (q6 af.own M),row A7 d.length c7 (q6 af.cells N) 149 3,sepL (q6 af.own N),row A8 e.length c8 (q6 af.cells O) 149 3,sepL (q6 af.own O)]++L) from H)
theorem yD {w0 w:World} {D:Nat→Prop} {L:List HP} {g:Nat} {m r:aB} (e:m=r) (H:Own w0 D w (iE g m::L)):Own w0 D w (iE g r::L):=e ▸ H
theorem Af {r:aB} {o:List bv} {d:List bM} {l:List fE} {a:List dE} {b c e f g:List aY} (h:r.aa.ag.ls=o) (i:r.aa.aj.ls=d) (j:r.aa.aI.ls=l) (k:r.ak.ls=a) (m:r.aR.ae.ls=b) (n:r.aN.ae.ls=c) (k2:r.aO.ae.ls=e) (p:r.aP.ae.ls=f) (q:r.aM.ae.ls=g):
    aB.mk (dC.mk r.aa.av r.aa.ax r.aa.bf r.aa.aK (E4 o) (E4 d) (E4 l)) r.bI (E4 a) (dX.mk r.aR.aT r.aR.aF r.aR.bn (E4 b)) (dX.mk r.aN.aT r.aN.aF r.aN.bn (E4 c)) (dX.mk r.aO.aT r.aO.aF r.aO.bn (E4 e)) (dX.mk r.aP.aT r.aP.aF r.aP.bn (E4 f)) (dX.mk r.aM.aT r.aM.aF r.aM.bn (E4 g)) r.di r.cz r.cK r.cB r.cu=r:=by
 subst h i j k m n k2 p q; rfl
set_option maxHeartbeats 4000000 in
theorem ut (w:World) (D:Nat→Prop) (g0:Nat) (S:bH) (m:Option Addr) (n:Nat) (f:List bF) (a:bQ) (o:Option Addr) (B g:Nat) (p:Option Addr) (C h:Nat) (j:List af) (q:Option Addr) (E k:Nat) (e:Nat) (b:aB) (T:bH) (r1:aB) (H:Own w D w [blk g0 [.pointer (some ⟨e,0,none⟩), .slice m S.bB.ls.length n] 98,row m S.bB.ls.length n (q6 bF.cells f) 42 21,sepL (q6 bF.own f),iE e b]) (r:s8 bF.abs f=S.bB.ls) (M:B=a.aG.ls.length) (N:Ro w D fun w'=>bD w' 6 o a.aG.ls.length (q6 bC.cells a.aG.ls)) (aC:a.aG.ls.length≤g∧a.aG.ls.length≤9223372036854775807) (s:s8 af.abs j=a.ah.ls) (O:C=a.ah.ls.length) (P:Ro w D fun w'=>bD w' 3 p a.ah.ls.length (q6 af.cells j)) (aD:a.ah.ls.length≤h∧a.ah.ls.length≤9223372036854775807) (t:∀ x ∈ j,Ro w D (fun w'=>bD w' 2 x.au.A x.au.ls.length (q6 aL.cells x.au.ls))∧(x.au.ls.length≤x.au.c∧x.au.ls.length≤9223372036854775807)) (Q:E=a.ag.ls.length) (R:Ro w D fun w'=>bD w' 2 q a.ag.ls.length (q6 bv.cells a.ag.ls)) (aF:a.ag.ls.length≤k∧a.ag.ls.length≤9223372036854775807) (dw:b.aa.ag.ls.length≤1000∧b.aa.aj.ls.length≤1000∧b.aa.aI.ls.length≤1000∧b.ak.ls.length≤1000∧S.bB.ls.length≤100000) (dx:Mk b) (dz:b.aR.ae.ls.length≤1000∧b.aN.ae.ls.length≤1000∧b.aO.ae.ls.length≤1000∧b.aP.ae.ls.length≤1000∧b.aM.ae.ls.length≤1000) (dA:11≤a.aJ∧a.aJ≤14) (dB:a.aG.ls.length≤24∧a.ag.ls.length≤1000∧a.ah.ls.length≤1000∧jZ a.aU) (hr:iP S a b=(T,r1)):
    Calls y4 56 #[vP g0 0, .agg (gD a.aH a.aJ a.eO a.aS a.dz a.eu a.aU a.ax a.bi a.dW a.bf a.aK a.dI a.cZ a.xN a.d9 a.bV.bK a.bV.bW o B g p C h q E k).toArray] w (dR fun v w'=> ∃ (B0ox0:Option Addr) (b0ox0:Nat) (e0ox0:List bF),v= .tuple #[]∧Own w D w' [blk g0 [vP e 0, .slice B0ox0 T.bB.ls.length b0ox0] 98,row B0ox0 T.bB.ls.length b0ox0 (q6 bF.cells e0ox0) 42 21,sepL (q6 bF.own e0ox0),iE e r1]∧(s8 bF.abs e0ox0=T.bB.ls)):=by
 subst M O Q
 have ax:=az r
 have ay:=az s
 have aG:=H.rowC (i:=1) rfl
 have aH:=H.pf [3]
 obtain⟨aI,aJ,aK,aM,aN,aO,aP,aQ,aR,aS,aT,aU,aV,aW,aX,aY,aZ,bf,bg,bi,bn,bq,bu,bz,bA,bB,U,V,W,X,Y,Z,aa,ae,cZ,bE⟩:=ji aH
 have bG:=bE.pf [18,19,20]
 obtain⟨dC,ag,l,ah,df⟩:=GI bG
 refine(uo _ _ g0 S m n f a o a.aG.ls.length g p a.ah.ls.length h j q a.ag.ls.length k e b aI aJ aK aM aN aO aP aQ aR aS aT aU aV aW aX aY aZ bf bg bi bn bq bu bz bA bB T r1 ag r rfl (l _ N) (show a.aG.ls.length≤g∧a.aG.ls.length≤9223372036854775807 from by omega) s rfl (l _ P) (show a.ah.ls.length≤h∧a.ah.ls.length≤9223372036854775807 from by omega) (fun x9 h9=>⟨l _ (t x9 h9).1,(t x9 h9).2⟩) rfl (l _ R) (show a.ag.ls.length≤k∧a.ag.ls.length≤9223372036854775807 from by omega) U V W X Y Z aa ae e8 f4 j9 e8 e8 hr).mono ?_
 rintro _ dD ⟨_,rfl,bI,bJ,bK,dE,dF,dG,dH,dI,dJ,dK,dL,dM,dN,dO,dP,dQ,dS,dU,dV,dW,dX,dY,dZ,d9,ed,dm,ek,eu,dn,rfl,ai,F,G,I,J,K,L,u,y,z⟩
 have d:=ah _ _ ai
 have bL:=az F
 have bM:=az G
 have bN:=az I
 have bO:=az J
 have bP:=az K
 have bR:=az L
 have bS:=az u
 have bT:=az y
 have bU:=az z
 have bV:=d.rowC (i:=1) rfl
 have bW:=d.rowC (i:=4) rfl
 have bX:=d.rowC (i:=5) rfl
 have bY:=d.rowC (i:=7) rfl
 have bZ:=d.rowC (i:=9) rfl
 have cu:=d.rowC (i:=11) rfl
 have cz:=d.rowC (i:=13) rfl
 have cB:=d.rowC (i:=15) rfl
 have cK:=d.rowC (i:=17) rfl
 have cO:=d.rowC (i:=19) rfl
 have aj:=d.pb [0,1,2]
 have ak:=fA G I J K L u y z aj
 have au:=ak.pb [0]
 exact⟨_,rfl,bI,bJ,bK,rfl,au,F⟩
set_option maxHeartbeats 4000000 in
theorem vR (w:World) (D:Nat→Prop) (g0:Nat) (S:bH) (m:Option Addr) (n:Nat) (f:List bF) (a:bQ) (o:Option Addr) (B g:Nat) (p:Option Addr) (C h:Nat) (j:List af) (q:Option Addr) (E k:Nat) (e:Nat) (b:aB) (T:bH) (r1:aB) (H:Own w D w [blk g0 [.pointer (some ⟨e,0,none⟩), .slice m S.bB.ls.length n] 98,row m S.bB.ls.length n (q6 bF.cells f) 42 21,sepL (q6 bF.own f),iE e b]) (r:s8 bF.abs f=S.bB.ls) (M:B=a.aG.ls.length) (N:Ro w D fun w'=>bD w' 6 o a.aG.ls.length (q6 bC.cells a.aG.ls)) (aD:a.aG.ls.length≤g∧a.aG.ls.length≤9223372036854775807) (s:s8 af.abs j=a.ah.ls) (O:C=a.ah.ls.length) (P:Ro w D fun w'=>bD w' 3 p a.ah.ls.length (q6 af.cells j)) (aF:a.ah.ls.length≤h∧a.ah.ls.length≤9223372036854775807) (t:∀ x ∈ j,Ro w D (fun w'=>bD w' 2 x.au.A x.au.ls.length (q6 aL.cells x.au.ls))∧(x.au.ls.length≤x.au.c∧x.au.ls.length≤9223372036854775807)) (Q:E=a.ag.ls.length) (R:Ro w D fun w'=>bD w' 2 q a.ag.ls.length (q6 bv.cells a.ag.ls)) (aG:a.ag.ls.length≤k∧a.ag.ls.length≤9223372036854775807) (dw:b.aa.ag.ls.length≤1000∧b.aa.aj.ls.length≤1000∧b.aa.aI.ls.length≤1000∧b.ak.ls.length≤1000∧S.bB.ls.length≤100000) (dx:Ak b.ak.ls) (dz:a.aG.ls.length≤24∧a.ag.ls.length≤1000∧a.ah.ls.length≤1000∧jZ a.aU) (dA:mR a.ah.ls) (hr:jN S a b=(T,r1)):
    Calls y4 57 #[vP g0 0, .agg (gD a.aH a.aJ a.eO a.aS a.dz a.eu a.aU a.ax a.bi a.dW a.bf a.aK a.dI a.cZ a.xN a.d9 a.bV.bK a.bV.bW o B g p C h q E k).toArray] w (dR fun v w'=> ∃ (B0ox0:Option Addr) (b0ox0:Nat) (e0ox0:List bF),v= .tuple #[]∧Own w D w' [blk g0 [vP e 0, .slice B0ox0 T.bB.ls.length b0ox0] 98,row B0ox0 T.bB.ls.length b0ox0 (q6 bF.cells e0ox0) 42 21,sepL (q6 bF.own e0ox0),iE e r1]∧(s8 bF.abs e0ox0=T.bB.ls)):=by
 subst M O Q
 have ay:=az r
 have aA:=az s
 have aH:=H.rowC (i:=1) rfl
 have aI:=H.pf [3]
 obtain⟨aJ,aK,aM,aN,aO,aP,aQ,aR,aS,aT,aU,aV,aW,aX,aY,aZ,bf,bg,bi,bn,bq,bu,bz,bA,bB,bE,U,V,W,X,Y,Z,aa,ae,cZ,bG⟩:=ji aI
 have bI:=bG.px [18,19,20] [] [1]
 obtain⟨dB,ag,l,ah,df⟩:=Ig bI
 refine(vO _ _ g0 S m n f a o a.aG.ls.length g p a.ah.ls.length h j q a.ag.ls.length k e b aJ aK aM aN aO aP aQ aR aS aT aU aV aW aX aY aZ bf bg bi bn bq bu bz bA bB bE T r1 ag r rfl (l _ N) (show a.aG.ls.length≤g∧a.aG.ls.length≤9223372036854775807 from by omega) s rfl (l _ P) (show a.ah.ls.length≤h∧a.ah.ls.length≤9223372036854775807 from by omega) (fun x9 h9=>⟨l _ (t x9 h9).1,(t x9 h9).2⟩) rfl (l _ R) (show a.ag.ls.length≤k∧a.ag.ls.length≤9223372036854775807 from by omega) U V W X Y Z aa ae e8 f8 e8 f4 hr).mono ?_
 rintro _ dC ⟨_,rfl,bJ,bK,bL,dD,dE,dF,dG,dH,dI,dJ,dK,dL,dM,dN,dO,dP,dQ,dS,dU,dV,dW,dX,dY,dm,dZ,d9,dn,rfl,ai,F,G,I,J,K,L,u,y,z⟩
 have d:=ah _ _ ai
 have bM:=az F
 have bN:=az G
 have bO:=az I
 have bP:=az J
 have bR:=az K
 have bS:=az L
 have bT:=az u
 have bU:=az y
 have bV:=az z
 have bW:=d.rowC (i:=1) rfl
 have bX:=d.rowC (i:=4) rfl
 have bY:=d.rowC (i:=6) rfl
 have bZ:=d.rowC (i:=8) rfl
 have cu:=d.rowC (i:=10) rfl
 have cz:=d.rowC (i:=12) rfl
 have cB:=d.rowC (i:=14) rfl
 have cK:=d.rowC (i:=16) rfl
 have cO:=d.rowC (i:=18) rfl
 have aj:=d.px [3,20] [] [0,1,2]
 have ak:=fA G I J K L u y z aj
 have au:=yD (Af (yQ hr).1.own rfl rfl rfl rfl rfl rfl rfl rfl) ak
 have av:=au.pb [0]
 exact⟨_,rfl,bJ,bK,bL,rfl,av,F⟩
set_option maxHeartbeats 4000000 in
theorem wF (w:World) (D:Nat→Prop) (Y:Nat) (L:bH) (l:Option Addr) (m:Nat) (e:List bF) (a:bQ) (n:Option Addr) (t f:Nat) (o:Option Addr) (u g:Nat) (h:List af) (p:Option Addr) (y j:Nat) (d:Nat) (b:aB) (M:bH) (r1:aB) (H:Own w D w [blk Y [.pointer (some ⟨d,0,none⟩), .slice l L.bB.ls.length m] 98,row l L.bB.ls.length m (q6 bF.cells e) 42 21,sepL (q6 bF.own e),iE d b]) (q:s8 bF.abs e=L.bB.ls) (C:t=a.aG.ls.length) (E:Ro w D fun w'=>bD w' 6 n a.aG.ls.length (q6 bC.cells a.aG.ls)) (ag:a.aG.ls.length≤f∧a.aG.ls.length≤9223372036854775807) (r:s8 af.abs h=a.ah.ls) (F:u=a.ah.ls.length) (G:Ro w D fun w'=>bD w' 3 o a.ah.ls.length (q6 af.cells h)) (ah:a.ah.ls.length≤g∧a.ah.ls.length≤9223372036854775807) (s:∀ x ∈ h,Ro w D (fun w'=>bD w' 2 x.au.A x.au.ls.length (q6 aL.cells x.au.ls))∧(x.au.ls.length≤x.au.c∧x.au.ls.length≤9223372036854775807)) (I:y=a.ag.ls.length) (J:Ro w D fun w'=>bD w' 2 p a.ag.ls.length (q6 bv.cells a.ag.ls)) (ai:a.ag.ls.length≤j∧a.ag.ls.length≤9223372036854775807) (bE:b.aa.ag.ls.length≤1000∧b.aa.aj.ls.length≤1000∧b.aa.aI.ls.length≤1000∧b.ak.ls.length≤1000∧L.bB.ls.length≤100000) (bG:Dk b.aa.aj.ls) (hr:jY L a b=(M,r1)):
    Calls y4 58 #[vP Y 0, .agg (gD a.aH a.aJ a.eO a.aS a.dz a.eu a.aU a.ax a.bi a.dW a.bf a.aK a.dI a.cZ a.xN a.d9 a.bV.bK a.bV.bW n t f o u g p y j).toArray] w (dR fun v w'=> ∃ (B0ox0:Option Addr) (b0ox0:Nat) (e0ox0:List bF),v= .tuple #[]∧Own w D w' [blk Y [vP d 0, .slice B0ox0 M.bB.ls.length b0ox0] 98,row B0ox0 M.bB.ls.length b0ox0 (q6 bF.cells e0ox0) 42 21,sepL (q6 bF.own e0ox0),iE d r1]∧(s8 bF.abs e0ox0=M.bB.ls)):=by
 subst C F I
 have Z:=az q
 have aa:=az r
 have aj:=H.rowC (i:=1) rfl
 have ak:=H.pf [3]
 obtain⟨au,av,ax,ay,aA,aC,aD,bI,aF,aG,bJ,aH,aI,bK,aJ,aK,bL,aM,aN,bM,aO,aP,bN,aQ,aR,bO,N,O,P,Q,R,S,T,U,bg,aS⟩:=ji ak
 have aT:=aS.pf [18,19,20,0,2,3]
 obtain⟨bP,V,k,W,bi⟩:=I6 aT
 refine(wE _ _ Y L l m e a n a.aG.ls.length f o a.ah.ls.length g h p a.ag.ls.length j d b au av ax ay aA aC aD aF aG aH aI aJ aK aM aN aO aP aQ aR M r1 V q rfl (k _ E) (show a.aG.ls.length≤f∧a.aG.ls.length≤9223372036854775807 from by omega) r rfl (k _ G) (show a.ah.ls.length≤g∧a.ah.ls.length≤9223372036854775807 from by omega) (fun x9 h9=>⟨k _ (s x9 h9).1,(s x9 h9).2⟩) rfl (k _ J) (show a.ag.ls.length≤j∧a.ag.ls.length≤9223372036854775807 from by omega) N e8 j8 hr).mono ?_
 rintro _ bR ⟨_,rfl,aU,aV,aW,bS,bT,bU,rfl,X,z,B⟩
 have K:=W _ _ X
 have bu:=az z
 have bz:=az B
 have bA:=K.rowC (i:=1) rfl
 have bB:=K.rowC (i:=4) rfl
 have aX:=K.px [3,6] [] [0,1,2]
 have aY:=fA B O P Q R S T U aX
 have aZ:=yD (Af (by obtain⟨⟨_,rfl⟩,_⟩:=om hr; rfl) rfl (by obtain⟨⟨_,rfl⟩,_⟩:=om hr; rfl) (by obtain⟨⟨_,rfl⟩,_⟩:=om hr; rfl) (by obtain⟨⟨_,rfl⟩,_⟩:=om hr; rfl) (by obtain⟨⟨_,rfl⟩,_⟩:=om hr; rfl) (by obtain⟨⟨_,rfl⟩,_⟩:=om hr; rfl) (by obtain⟨⟨_,rfl⟩,_⟩:=om hr; rfl) (by obtain⟨⟨_,rfl⟩,_⟩:=om hr; rfl)) aY
 have bf:=aZ.pb [0]
 exact⟨_,rfl,aU,aV,aW,rfl,bf,z⟩
set_option maxHeartbeats 4000000 in
theorem wG (w:World) (D:Nat→Prop) (g0:Nat) (R:bH) (p:Option Addr) (q:Nat) (j:List bF) (a:bQ) (r:Option Addr) (E k:Nat) (s:Option Addr) (F l:Nat) (m:List af) (t:Option Addr) (G n:Nat) (h:Nat) (b:aB) (S:bH) (H:Own w D w [blk g0 [.pointer (some ⟨h,0,none⟩), .slice p R.bB.ls.length q] 98,row p R.bB.ls.length q (q6 bF.cells j) 42 21,sepL (q6 bF.own j),iE h b]) (u:s8 bF.abs j=R.bB.ls) (L:E=a.aG.ls.length) (M:Ro w D fun w'=>bD w' 6 r a.aG.ls.length (q6 bC.cells a.aG.ls)) (av:a.aG.ls.length≤k∧a.aG.ls.length≤9223372036854775807) (y:s8 af.abs m=a.ah.ls) (N:F=a.ah.ls.length) (O:Ro w D fun w'=>bD w' 3 s a.ah.ls.length (q6 af.cells m)) (ax:a.ah.ls.length≤l∧a.ah.ls.length≤9223372036854775807) (z:∀ x ∈ m,Ro w D (fun w'=>bD w' 2 x.au.A x.au.ls.length (q6 aL.cells x.au.ls))∧(x.au.ls.length≤x.au.c∧x.au.ls.length≤9223372036854775807)) (P:G=a.ag.ls.length) (Q:Ro w D fun w'=>bD w' 2 t a.ag.ls.length (q6 bv.cells a.ag.ls)) (aA:a.ag.ls.length≤n∧a.ag.ls.length≤9223372036854775807) (bL:b.aa.ag.ls.length≤1000∧b.aa.aj.ls.length≤1000∧b.aa.aI.ls.length≤1000∧b.ak.ls.length≤1000∧R.bB.ls.length≤100000) (hr:kW R a b=S):
    Calls y4 59 #[vP g0 0, .agg (gD a.aH a.aJ a.eO a.aS a.dz a.eu a.aU a.ax a.bi a.dW a.bf a.aK a.dI a.cZ a.xN a.d9 a.bV.bK a.bV.bW r E k s F l t G n).toArray] w (dR fun v w'=> ∃ (B0ox0:Option Addr) (b0ox0:Nat) (e0ox0:List bF),v= .tuple #[]∧Own w D w' [blk g0 [vP h 0, .slice B0ox0 S.bB.ls.length b0ox0] 98,row B0ox0 S.bB.ls.length b0ox0 (q6 bF.cells e0ox0) 42 21,sepL (q6 bF.own e0ox0),iE h b]∧(s8 bF.abs e0ox0=S.bB.ls)):=by
 subst L N P
 have ak:=az u
 have au:=az y
 have aC:=H.rowC (i:=1) rfl
 have aD:=H.pf [3]
 obtain⟨aF,aG,aH,T,aI,aJ,aK,bM,aM,U,aN,aO,aP,bN,aQ,aR,bO,aS,aT,bP,aU,aW,bR,aX,aY,bS,I,V,J,W,X,Y,Z,aa,bB,aZ⟩:=ji aD
 have e:=aZ.pf [18,19,20]
 have bE:=e.rowC (i:=5) rfl
 have bG:=e.rowC (i:=9) rfl
 obtain⟨bT,ae,o,ag,d⟩:=GH e
 refine(wD _ _ g0 R p q j a r a.aG.ls.length k s a.ah.ls.length l m t a.ag.ls.length n h b aF aG aH T aI aJ aK aM U aN aO aP aQ aR aS aT aU aW aX aY S ae u rfl (o _ M) (show a.aG.ls.length≤k∧a.aG.ls.length≤9223372036854775807 from by omega) y rfl (o _ O) (show a.ah.ls.length≤l∧a.ah.ls.length≤9223372036854775807 from by omega) (fun f g=>⟨o _ (z f g).1,(z f g).2⟩) rfl (o _ Q) (show a.ag.ls.length≤n∧a.ag.ls.length≤9223372036854775807 from by omega) I (d _ 1 _ rfl aV) (show b.aa.aj.ls.length≤T∧b.aa.aj.ls.length≤9223372036854775807 from by omega) (fun f g=>⟨d _ 2 _ rfl (ay (P3.2 ⟨f,g,b1⟩) aV),bz (φ:=fun _=>_) e (i:=6) rfl (ay (P3.2 ⟨f,g,b1⟩) bq)⟩) J (d _ 5 _ rfl aV) (show b.ak.ls.length≤U∧b.ak.ls.length≤9223372036854775807 from by omega) (fun f g=>⟨d _ 6 _ rfl (ay (P3.2 ⟨f,g,b1⟩) aV),bz (φ:=fun _=>_) e (i:=10) rfl (ay (P3.2 ⟨f,g,b1⟩) bq),d _ 6 _ rfl (ay (P3.2 ⟨f,g, .tail _ b1⟩) aV),bz (φ:=fun _=>_) e (i:=10) rfl (ay (P3.2 ⟨f,g, .tail _ b1⟩) bq),(fun B C=>⟨d _ 6 _ rfl (ay (P3.2 ⟨f,g, .tail _ b4⟩) (ay (P3.2 ⟨B,C,b1⟩) aV)),bz (φ:=fun _=>_) e (i:=10) rfl (ay (P3.2 ⟨f,g, .tail _ b4⟩) (ay (P3.2 ⟨B,C,b1⟩) bq)),d _ 6 _ rfl (ay (P3.2 ⟨f,g, .tail _ b4⟩) (ay (P3.2 ⟨B,C, .tail _ b1⟩) aV)),bz (φ:=fun _=>_) e (i:=10) rfl (ay (P3.2 ⟨f,g, .tail _ b4⟩) (ay (P3.2 ⟨B,C, .tail _ b1⟩) bq))⟩),d _ 6 _ rfl (ay (P3.2 ⟨f,g, .tail _ b2⟩) aV),bz (φ:=fun _=>_) e (i:=10) rfl (ay (P3.2 ⟨f,g, .tail _ b2⟩) bq),d _ 6 _ rfl (ay (P3.2 ⟨f,g, .tail _ b3⟩) aV),bz (φ:=fun _=>_) e (i:=10) rfl (ay (P3.2 ⟨f,g, .tail _ b3⟩) bq),(fun B C=>⟨d _ 6 _ rfl (ay (P3.2 ⟨f,g, .tail _ b5⟩) (ay (P3.2 ⟨B,C,b1⟩) aV)),bz (φ:=fun _=>_) e (i:=10) rfl (ay (P3.2 ⟨f,g, .tail _ b5⟩) (ay (P3.2 ⟨B,C,b1⟩) bq)),(fun y2 k2=>⟨d _ 6 _ rfl (ay (P3.2 ⟨f,g, .tail _ b5⟩) (ay (P3.2 ⟨B,C, .tail _ b1⟩) (ay (P3.2 ⟨y2,k2,b1⟩) aV))),bz (φ:=fun _=>_) e (i:=10) rfl (ay (P3.2 ⟨f,g, .tail _ b5⟩) (ay (P3.2 ⟨B,C, .tail _ b1⟩) (ay (P3.2 ⟨y2,k2,b1⟩) bq)))⟩)⟩)⟩) e8 hr).mono ?_
 rintro _ bU ⟨_,rfl,bf,bg,bi,rfl,ah,K⟩
 have ai:=ag _ _ ah
 have bJ:=az K
 have bK:=ai.rowC (i:=1) rfl
 have bn:=ai.pb [0,1,2]
 have bu:=fA I V J W X Y Z aa bn
 have bA:=bu.pb [0]
 exact⟨_,rfl,bf,bg,bi,rfl,bA,K⟩
set_option maxHeartbeats 4000000 in
theorem vS (w:World) (D:Nat→Prop) (N:Nat) (s:bH) (e:Option Addr) (f:Nat) (d:List bF) (P:Nat) (b:Nat) (a:aB) (t:bH) (Q:aB) (H:Own w D w [blk N [.pointer (some ⟨b,0,none⟩), .slice e s.bB.ls.length f] 98,row e s.bB.ls.length f (q6 bF.cells d) 42 21,sepL (q6 bF.own d),iE b a]) (g:s8 bF.abs d=s.bB.ls) (bB:a.aa.ag.ls.length≤1000∧a.aa.aj.ls.length≤1000∧a.aa.aI.ls.length≤1000∧a.ak.ls.length≤1000∧s.bB.ls.length≤100000) (bC:Ak a.ak.ls) (hr:iT s P a=(t,Q)):
    Calls y4 26 #[vP N 0,vU P] w (dR fun v w'=> ∃ (B0ox0:Option Addr) (b0ox0:Nat) (e0ox0:List bF),v= .tuple #[]∧Own w D w' [blk N [vP b 0, .slice B0ox0 t.bB.ls.length b0ox0] 98,row B0ox0 t.bB.ls.length b0ox0 (q6 bF.cells e0ox0) 42 21,sepL (q6 bF.own e0ox0),iE b Q]∧(s8 bF.abs e0ox0=t.bB.ls)):=by
 have O:=az g
 have R:=H.rowC (i:=1) rfl
 have S:=H.pf [3]
 obtain⟨T,U,V,u,W,X,Y,bD,Z,aa,ae,af,ag,ah,ai,aj,ak,au,av,ax,aA,aC,aD,aF,aG,aH,j,x,y,z,A,B,C,E,bg,aI⟩:=ji S
 have r:=aI.px [18,19,20] [] [1,2,3,4,5]
 have bi:=r.rowC (i:=17) rfl
 obtain⟨bE,F,bn,G,k⟩:=GZ r
 refine(vQ _ _ N s e f d P b a T U V u W X Y Z aa ae af ag ah ai aj ak au av ax aA aC aD aF aG aH t Q F g j (k _ 1 _ rfl aV) (show a.aa.aj.ls.length≤u∧a.aa.aj.ls.length≤9223372036854775807 from by omega) (fun x9 h9=>⟨k _ 2 _ rfl (ay (P3.2 ⟨x9,h9,b1⟩) aV),bz (φ:=fun _=>_) r (i:=18) rfl (ay (P3.2 ⟨x9,h9,b1⟩) bq)⟩) y z A B C E e8 f8 hr).mono ?_
 rintro _ bG ⟨_,rfl,aJ,aK,aL,bI,bJ,bK,bL,bM,bN,bO,bP,bQ,bR,bS,bT,bU,bV,bW,bX,bY,bA,rfl,I,l,m,n,o,p,q,h⟩
 have c:=G _ _ I
 have aM:=az l
 have aN:=az m
 have aO:=az n
 have aP:=az o
 have aQ:=az p
 have aR:=az q
 have aS:=az h
 have aT:=c.rowC (i:=1) rfl
 have aU:=c.rowC (i:=4) rfl
 have aW:=c.rowC (i:=6) rfl
 have aX:=c.rowC (i:=8) rfl
 have aY:=c.rowC (i:=10) rfl
 have aZ:=c.rowC (i:=12) rfl
 have bf:=c.rowC (i:=14) rfl
 have J:=c.px [3,16,17,18,19,20] [] [0,1,2]
 have K:=fA j x m n o p q h J
 have L:=yD (Af (by rw [(rH hr).1]) (by rw [(rH hr).1]) (by rw [(rH hr).1]) rfl rfl rfl rfl rfl rfl) K
 have M:=L.pb [0]
 exact⟨_,rfl,aJ,aK,aL,rfl,M,l⟩
end Go.Proofs.YtbkagebjhbphaaaGreat
