/-
 coord: the machine as one thing.
-/
import Derived.Test.YtbkagebjhbphaaaGreatCoS
namespace Go.Proofs.YtbkagebjhbphaaaGreat
open List renaming flatMap→q6,map→s8,mem_flatMap→O7
open Ll renaming mk→E4
open _root_.Go.Proofs.Tryz renaming prog→y4
set_option maxRecDepth 100000
open Go.RowKit
set_option linter.unusedVariables false
set_option linter.unusedSectionVars false
set_option linter.unusedSimpArgs false
def iE (g:Nat) (m:aB):HP:=Dp (fun x:(Option Addr) × Nat × (Option Addr) × Nat × (List ay) × (Option Addr) × Nat × (List aV) × (Option Addr) × Nat × (List bB) × (Option Addr) × Nat × (List af) × (Option Addr) × Nat × (List af) × (Option Addr) × Nat × (List af) × (Option Addr) × Nat × (List af) × (Option Addr) × Nat × (List af)=>s8 ay.abs x.2.2.2.2.1=m.aa.aj.ls∧s8 aV.abs x.2.2.2.2.2.2.2.1=m.aa.aF.ls∧s8 bB.abs x.2.2.2.2.2.2.2.2.2.2.1=m.aA.ls∧s8 af.abs x.2.2.2.2.2.2.2.2.2.2.2.2.2.1=m.aQ.ae.ls∧s8 af.abs x.2.2.2.2.2.2.2.2.2.2.2.2.2.2.2.2.1=m.aO.ae.ls∧s8 af.abs x.2.2.2.2.2.2.2.2.2.2.2.2.2.2.2.2.2.2.2.1=m.aL.ae.ls∧s8 af.abs x.2.2.2.2.2.2.2.2.2.2.2.2.2.2.2.2.2.2.2.2.2.2.1=m.aN.ae.ls∧s8 af.abs x.2.2.2.2.2.2.2.2.2.2.2.2.2.2.2.2.2.2.2.2.2.2.2.2.2=m.aK.ae.ls) (fun x=> [blk g [.int .i64 m.aa.ak, .int .u64 ((m.aa.ax:Nat):Int), .int .u64 ((m.aa.bi:Nat):Int), .int .u64 ((m.aa.aI:Nat):Int), .slice x.1 m.aa.ag.ls.length x.2.1, .slice x.2.2.1 m.aa.aj.ls.length x.2.2.2.1, .slice x.2.2.2.2.2.1 m.aa.aF.ls.length x.2.2.2.2.2.2.1, .int .u64 ((m.bH:Nat):Int), .slice x.2.2.2.2.2.2.2.2.1 m.aA.ls.length x.2.2.2.2.2.2.2.2.2.1, .bool m.aQ.aR, .int .u64 ((m.aQ.aH:Nat):Int), .int .i64 m.aQ.aZ, .slice x.2.2.2.2.2.2.2.2.2.2.2.1 m.aQ.ae.ls.length x.2.2.2.2.2.2.2.2.2.2.2.2.1, .bool m.aO.aR, .int .u64 ((m.aO.aH:Nat):Int), .int .i64 m.aO.aZ, .slice x.2.2.2.2.2.2.2.2.2.2.2.2.2.2.1 m.aO.ae.ls.length x.2.2.2.2.2.2.2.2.2.2.2.2.2.2.2.1, .bool m.aL.aR, .int .u64 ((m.aL.aH:Nat):Int), .int .i64 m.aL.aZ, .slice x.2.2.2.2.2.2.2.2.2.2.2.2.2.2.2.2.2.1 m.aL.ae.ls.length x.2.2.2.2.2.2.2.2.2.2.2.2.2.2.2.2.2.2.1, .bool m.aN.aR, .int .u64 ((m.aN.aH:Nat):Int), .int .i64 m.aN.aZ, .slice x.2.2.2.2.2.2.2.2.2.2.2.2.2.2.2.2.2.2.2.2.1 m.aN.ae.ls.length x.2.2.2.2.2.2.2.2.2.2.2.2.2.2.2.2.2.2.2.2.2.1, .bool m.aK.aR, .int .u64 ((m.aK.aH:Nat):Int), .int .i64 m.aK.aZ, .slice x.2.2.2.2.2.2.2.2.2.2.2.2.2.2.2.2.2.2.2.2.2.2.2.1 m.aK.ae.ls.length x.2.2.2.2.2.2.2.2.2.2.2.2.2.2.2.2.2.2.2.2.2.2.2.2.1, .int .u64 ((m.df:Nat):Int), .int .u64 ((m.cu:Nat):Int), .int .u64 ((m.cz:Nat):Int), .int .u64 ((m.cB:Nat):Int), .int .u64 ((m.cK:Nat):Int), .pointer none] 86,row x.1 m.aa.ag.ls.length x.2.1 (q6 bv.cells m.aa.ag.ls) 89 2,row x.2.2.1 m.aa.aj.ls.length x.2.2.2.1 (q6 ay.cells x.2.2.2.2.1) 60 5,sepL (q6 ay.own x.2.2.2.2.1),row x.2.2.2.2.2.1 m.aa.aF.ls.length x.2.2.2.2.2.2.1 (q6 aV.cells x.2.2.2.2.2.2.2.1) 56 4,sepL (q6 aV.own x.2.2.2.2.2.2.2.1),row x.2.2.2.2.2.2.2.2.1 m.aA.ls.length x.2.2.2.2.2.2.2.2.2.1 (q6 bB.cells x.2.2.2.2.2.2.2.2.2.2.1) 107 9,sepL (q6 bB.own x.2.2.2.2.2.2.2.2.2.2.1),row x.2.2.2.2.2.2.2.2.2.2.2.1 m.aQ.ae.ls.length x.2.2.2.2.2.2.2.2.2.2.2.2.1 (q6 af.cells x.2.2.2.2.2.2.2.2.2.2.2.2.2.1) 149 3,sepL (q6 af.own x.2.2.2.2.2.2.2.2.2.2.2.2.2.1),row x.2.2.2.2.2.2.2.2.2.2.2.2.2.2.1 m.aO.ae.ls.length x.2.2.2.2.2.2.2.2.2.2.2.2.2.2.2.1 (q6 af.cells x.2.2.2.2.2.2.2.2.2.2.2.2.2.2.2.2.1) 149 3,sepL (q6 af.own x.2.2.2.2.2.2.2.2.2.2.2.2.2.2.2.2.1),row x.2.2.2.2.2.2.2.2.2.2.2.2.2.2.2.2.2.1 m.aL.ae.ls.length x.2.2.2.2.2.2.2.2.2.2.2.2.2.2.2.2.2.2.1 (q6 af.cells x.2.2.2.2.2.2.2.2.2.2.2.2.2.2.2.2.2.2.2.1) 149 3,sepL (q6 af.own x.2.2.2.2.2.2.2.2.2.2.2.2.2.2.2.2.2.2.2.1),row x.2.2.2.2.2.2.2.2.2.2.2.2.2.2.2.2.2.2.2.2.1 m.aN.ae.ls.length x.2.2.2.2.2.2.2.2.2.2.2.2.2.2.2.2.2.2.2.2.2.1 (q6 af.cells x.2.2.2.2.2.2.2.2.2.2.2.2.2.2.2.2.2.2.2.2.2.2.1) 149 3,sepL (q6 af.own x.2.2.2.2.2.2.2.2.2.2.2.2.2.2.2.2.2.2.2.2.2.2.1),row x.2.2.2.2.2.2.2.2.2.2.2.2.2.2.2.2.2.2.2.2.2.2.2.1 m.aK.ae.ls.length x.2.2.2.2.2.2.2.2.2.2.2.2.2.2.2.2.2.2.2.2.2.2.2.2.1 (q6 af.cells x.2.2.2.2.2.2.2.2.2.2.2.2.2.2.2.2.2.2.2.2.2.2.2.2.2) 149 3,sepL (q6 af.own x.2.2.2.2.2.2.2.2.2.2.2.2.2.2.2.2.2.2.2.2.2.2.2.2.2)])
theorem jJ {w0 w:World} {D:Nat→Prop} {L:List HP} {g:Nat} {m:aB} (H:Own w0 D w (iE g m::L)):∃ (u:Option Addr) (a:Nat) (v:Option Addr) (b:Nat) (c:List ay) (x:Option Addr) (d:Nat) (e:List aV) (y:Option Addr) (f:Nat) (h:List bB) (z:Option Addr) (j:Nat) (k:List af) (A:Option Addr) (l:Nat) (n:List af) (B:Option Addr) (o:Nat) (p:List af) (C:Option Addr) (q:Nat) (r:List af) (E:Option Addr) (s:Nat) (t:List af),s8 ay.abs c=m.aa.aj.ls∧s8 aV.abs e=m.aa.aF.ls∧s8 bB.abs h=m.aA.ls∧s8 af.abs k=m.aQ.ae.ls∧s8 af.abs n=m.aO.ae.ls∧s8 af.abs p=m.aL.ae.ls∧s8 af.abs r=m.aN.ae.ls∧s8 af.abs t=m.aK.ae.ls∧(c.length=m.aa.aj.ls.length∧e.length=m.aa.aF.ls.length∧h.length=m.aA.ls.length∧k.length=m.aQ.ae.ls.length∧n.length=m.aO.ae.ls.length∧p.length=m.aL.ae.ls.length∧r.length=m.aN.ae.ls.length∧t.length=m.aK.ae.ls.length∧(m.aa.ag.ls.length≤a∧a≤9223372036854775807)∧(m.aa.aj.ls.length≤b∧b≤9223372036854775807)∧(m.aa.aF.ls.length≤d∧d≤9223372036854775807)∧(m.aA.ls.length≤f∧f≤9223372036854775807)∧(m.aQ.ae.ls.length≤j∧j≤9223372036854775807)∧(m.aO.ae.ls.length≤l∧l≤9223372036854775807)∧(m.aL.ae.ls.length≤o∧o≤9223372036854775807)∧(m.aN.ae.ls.length≤q∧q≤9223372036854775807)∧(m.aK.ae.ls.length≤s∧s≤9223372036854775807))∧Own w0 D w (blk g [.int .i64 m.aa.ak, .int .u64 ((m.aa.ax:Nat):Int), .int .u64 ((m.aa.bi:Nat):Int), .int .u64 ((m.aa.aI:Nat):Int), .slice u m.aa.ag.ls.length a, .slice v m.aa.aj.ls.length b, .slice x m.aa.aF.ls.length d, .int .u64 ((m.bH:Nat):Int), .slice y m.aA.ls.length f, .bool m.aQ.aR, .int .u64 ((m.aQ.aH:Nat):Int), .int .i64 m.aQ.aZ, .slice z m.aQ.ae.ls.length j, .bool m.aO.aR, .int .u64 ((m.aO.aH:Nat):Int), .int .i64 m.aO.aZ, .slice A m.aO.ae.ls.length l, .bool m.aL.aR, .int .u64 ((m.aL.aH:Nat):Int), .int .i64 m.aL.aZ, .slice B m.aL.ae.ls.length o, .bool m.aN.aR, .int .u64 ((m.aN.aH:Nat):Int), .int .i64 m.aN.aZ, .slice C m.aN.ae.ls.length q, .bool m.aK.aR, .int .u64 ((m.aK.aH:Nat):Int), .int .i64 m.aK.aZ, .slice E m.aK.ae.ls.length s, .int .u64 ((m.df:Nat):Int), .int .u64 ((m.cu:Nat):Int), .int .u64 ((m.cz:Nat):Int), .int .u64 ((m.cB:Nat):Int), .int .u64 ((m.cK:Nat):Int), .pointer none] 86::row u m.aa.ag.ls.length a (q6 bv.cells m.aa.ag.ls) 89 2::row v m.aa.aj.ls.length b (q6 ay.cells c) 60 5::sepL (q6 ay.own c)::row x m.aa.aF.ls.length d (q6 aV.cells e) 56 4::sepL (q6 aV.own e)::row y m.aA.ls.length f (q6 bB.cells h) 107 9::sepL (q6 bB.own h)::row z m.aQ.ae.ls.length j (q6 af.cells k) 149 3::sepL (q6 af.own k)::row A m.aO.ae.ls.length l (q6 af.cells n) 149 3::sepL (q6 af.own n)::row B m.aL.ae.ls.length o (q6 af.cells p) 149 3::sepL (q6 af.own p)::row C m.aN.ae.ls.length q (q6 af.cells r) 149 3::sepL (q6 af.own r)::row E m.aK.ae.ls.length s (q6 af.cells t) 149 3::sepL (q6 af.own t)::L):=by
 obtain⟨⟨u,a,v,b,c,x,d,e,y,f,h,z,j,k,A,l,n,B,o,p,C,q,r,E,s,t⟩,⟨F,G,I,J,K,M,N,O⟩,H⟩:=Ht H
 have H:Own w0 D w (blk g [vI m.aa.ak,vU m.aa.ax,vU m.aa.bi,vU m.aa.aI, .slice u m.aa.ag.ls.length a, .slice v m.aa.aj.ls.length b, .slice x m.aa.aF.ls.length d,vU m.bH, .slice y m.aA.ls.length f, .bool m.aQ.aR,vU m.aQ.aH,vI m.aQ.aZ, .slice z m.aQ.ae.ls.length j, .bool m.aO.aR,vU m.aO.aH,vI m.aO.aZ, .slice A m.aO.ae.ls.length l, .bool m.aL.aR,vU m.aL.aH,vI m.aL.aZ, .slice B m.aL.ae.ls.length o, .bool m.aN.aR,vU m.aN.aH,vI m.aN.aZ, .slice C m.aN.ae.ls.length q, .bool m.aK.aR,vU m.aK.aH,vI m.aK.aZ, .slice E m.aK.ae.ls.length s,vU m.df,vU m.cu,vU m.cz,vU m.cB,vU m.cK, .pointer none] 86::row u m.aa.ag.ls.length a (q6 bv.cells m.aa.ag.ls) 89 2::row v m.aa.aj.ls.length b (q6 ay.cells c) 60 5::sepL (q6 ay.own c)::row x m.aa.aF.ls.length d (q6 aV.cells e) 56 4::sepL (q6 aV.own e)::row y m.aA.ls.length f (q6 bB.cells h) 107 9::sepL (q6 bB.own h)::row z m.aQ.ae.ls.length j (q6 af.cells k) 149 3::sepL (q6 af.own k)::row A m.aO.ae.ls.length l (q6 af.cells n) 149 3::sepL (q6 af.own n)::row B m.aL.ae.ls.length o (q6 af.cells p) 149 3::sepL (q6 af.own p)::row C m.aN.ae.ls.length q (q6 af.cells r) 149 3::sepL (q6 af.own r)::row E m.aK.ae.ls.length s (q6 af.cells t) 149 3::sepL (q6 af.own t)::L):=H
 refine⟨u,a,v,b,c,x,d,e,y,f,h,z,j,k,A,l,n,B,o,p,C,q,r,E,s,t,F,G,I,J,K,M,N,O,⟨az F,az G,az I,az J,az K,az M,az N,az O,H.rowC (i:=1) rfl,H.rowC (i:=2) rfl,H.rowC (i:=4) rfl,H.rowC (i:=6) rfl,H.rowC (i:=8) rfl,H.rowC (i:=10) rfl,H.rowC (i:=12) rfl,H.rowC (i:=14) rfl,H.rowC (i:=16) rfl⟩,H⟩
theorem fo {w0 w:World} {D:Nat→Prop} {L:List HP} {g:Nat} {y0:Int} {y1:Nat} {y2:Nat} {y3:Nat} {f:List bv} {B:List bL} {C:List fF} {y7:Nat} {E:List dH} {y9:Bool} {h:Nat} {i:Int} {a:List aX} {j:Bool} {k:Nat} {l:Int} {b:List aX} {m:Bool} {n:Nat} {o:Int} {c:List aX} {p:Bool} {q:Nat} {r:Int} {d:List aX} {s:Bool} {t:Nat} {u:Int} {e:List aX} {v:Nat} {x:Nat} {y:Nat} {z:Nat} {A:Nat} {P:Option Addr} {Q:Nat} {R:Option Addr} {S:Nat} {F:List ay} {T:Option Addr} {U:Nat} {G:List aV} {V:Option Addr} {W:Nat} {I:List bB} {X:Option Addr} {Y:Nat} {J:List af} {Z:Option Addr} {c5:Nat} {K:List af} {A6:Option Addr} {c6:Nat} {M:List af} {A7:Option Addr} {c7:Nat} {N:List af} {A8:Option Addr} {c8:Nat} {O:List af} (aD:s8 ay.abs F=B) (aF:s8 aV.abs G=C) (aG:s8 bB.abs I=E) (aH:s8 af.abs J=a) (aI:s8 af.abs K=b) (aJ:s8 af.abs M=c) (aK:s8 af.abs N=d) (aL:s8 af.abs O=e) (H:Own w0 D w (blk g [.int .i64 y0, .int .u64 ((y1:Nat):Int), .int .u64 ((y2:Nat):Int), .int .u64 ((y3:Nat):Int), .slice P f.length Q, .slice R B.length S, .slice T C.length U, .int .u64 ((y7:Nat):Int), .slice V E.length W, .bool y9, .int .u64 ((h:Nat):Int), .int .i64 i, .slice X a.length Y, .bool j, .int .u64 ((k:Nat):Int), .int .i64 l, .slice Z b.length c5, .bool m, .int .u64 ((n:Nat):Int), .int .i64 o, .slice A6 c.length c6, .bool p, .int .u64 ((q:Nat):Int), .int .i64 r, .slice A7 d.length c7, .bool s, .int .u64 ((t:Nat):Int), .int .i64 u, .slice A8 e.length c8, .int .u64 ((v:Nat):Int), .int .u64 ((x:Nat):Int), .int .u64 ((y:Nat):Int), .int .u64 ((z:Nat):Int), .int .u64 ((A:Nat):Int), .pointer none] 86::row P f.length Q (q6 bv.cells f) 89 2::row R B.length S (q6 ay.cells F) 60 5::sepL (q6 ay.own F)::row T C.length U (q6 aV.cells G) 56 4::sepL (q6 aV.own G)::row V E.length W (q6 bB.cells I) 107 9::sepL (q6 bB.own I)::row X a.length Y (q6 af.cells J) 149 3::sepL (q6 af.own J)::row Z b.length c5 (q6 af.cells K) 149 3::sepL (q6 af.own K)::row A6 c.length c6 (q6 af.cells M) 149 3::sepL (q6 af.own M)::row A7 d.length c7 (q6 af.cells N) 149 3::sepL (q6 af.own N)::row A8 e.length c8 (q6 af.cells O) 149 3::sepL (q6 af.own O)::L)):Own w0 D w (iE g (aB.mk (dA.mk y0 y1 y2 y3 (E4 f) (E4 B) (E4 C)) y7 (E4 E) (dV.mk y9 h i (E4 a)) (dV.mk j k l (E4 b)) (dV.mk m n o (E4 c)) (dV.mk p q r (E4 d)) (dV.mk s t u (E4 e)) v x y z A)::L):=
 Hu (P,Q,R,S,F,T,U,G,V,W,I,X,Y,J,Z,c5,K,A6,c6,M,A7,c7,N,A8,c8,O) ⟨aD,aF,aG,aH,aI,aJ,aK,aL⟩ (show Own w0 D w ([blk g [vI y0,vU y1,vU y2,vU y3, .slice P f.length Q, .slice R B.length S, .slice T C.length U,vU y7, .slice V E.length W, .bool y9,vU h,vI i, .slice X a.length Y, .bool j,vU k,vI l, .slice Z b.length c5, .bool m,vU n,vI o, .slice A6 c.length c6, .bool p,vU q,vI r, .slice A7 d.length c7, .bool s,vU t,vI u, .slice A8 e.length c8,vU v,vU x,vU y,vU z,vU A, .pointer none] 86,row P f.length Q (q6 bv.cells f) 89 2,row R B.length S (q6 ay.cells F) 60 5,sepL (q6 ay.own F),row T C.length U (q6 aV.cells G) 56 4,sepL (q6 aV.own G),row V E.length W (q6 bB.cells I) 107 9,sepL (q6 bB.own I),row X a.length Y (q6 af.cells J) 149 3,sepL (q6 af.own J),row Z b.length c5 (q6 af.cells K) 149 3,sepL (q6 af.own K),row A6 c.length c6 (q6 af.cells M) 149 3,sepL (q6 af.own M),row A7 d.length c7 (q6 af.cells N) 149 3,sepL (q6 af.own N),row A8 e.length c8 (q6 af.cells O) 149 3,sepL (q6 af.own O)]++L) from H)
theorem xS {w0 w:World} {D:Nat→Prop} {L:List HP} {g:Nat} {m r:aB} (e:m=r) (H:Own w0 D w (iE g m::L)):Own w0 D w (iE g r::L):=e ▸ H
theorem zC {r:aB} {o:List bv} {d:List bL} {l:List fF} {a:List dH} {b c e f g:List aX} (h:r.aa.ag.ls=o) (i:r.aa.aj.ls=d) (j:r.aa.aF.ls=l) (k:r.aA.ls=a) (m:r.aQ.ae.ls=b) (n:r.aO.ae.ls=c) (k2:r.aL.ae.ls=e) (p:r.aN.ae.ls=f) (q:r.aK.ae.ls=g):
    aB.mk (dA.mk r.aa.ak r.aa.ax r.aa.bi r.aa.aI (E4 o) (E4 d) (E4 l)) r.bH (E4 a) (dV.mk r.aQ.aR r.aQ.aH r.aQ.aZ (E4 b)) (dV.mk r.aO.aR r.aO.aH r.aO.aZ (E4 c)) (dV.mk r.aL.aR r.aL.aH r.aL.aZ (E4 e)) (dV.mk r.aN.aR r.aN.aH r.aN.aZ (E4 f)) (dV.mk r.aK.aR r.aK.aH r.aK.aZ (E4 g)) r.df r.cu r.cz r.cB r.cK=r:=by
 subst h i j k m n k2 p q; rfl
set_option maxHeartbeats 4000000 in
theorem tV (w:World) (D:Nat→Prop) (g0:Nat) (S:bO) (m:Option Addr) (n:Nat) (f:List bA) (a:bQ) (o:Option Addr) (B g:Nat) (p:Option Addr) (C h:Nat) (j:List af) (q:Option Addr) (E k:Nat) (e:Nat) (b:aB) (T:bO) (r1:aB) (H:Own w D w [blk g0 [.pointer (some ⟨e,0,none⟩), .slice m S.bE.ls.length n] 98,row m S.bE.ls.length n (q6 bA.cells f) 42 21,sepL (q6 bA.own f),iE e b]) (r:s8 bA.abs f=S.bE.ls) (M:B=a.aD.ls.length) (N:Ro w D fun w'=>bD w' 6 o a.aD.ls.length (q6 bC.cells a.aD.ls)) (aC:a.aD.ls.length≤g∧a.aD.ls.length≤9223372036854775807) (s:s8 af.abs j=a.ai.ls) (O:C=a.ai.ls.length) (P:Ro w D fun w'=>bD w' 3 p a.ai.ls.length (q6 af.cells j)) (aD:a.ai.ls.length≤h∧a.ai.ls.length≤9223372036854775807) (t:∀ x ∈ j,Ro w D (fun w'=>bD w' 2 x.au.A x.au.ls.length (q6 aJ.cells x.au.ls))∧(x.au.ls.length≤x.au.c∧x.au.ls.length≤9223372036854775807)) (Q:E=a.ag.ls.length) (R:Ro w D fun w'=>bD w' 2 q a.ag.ls.length (q6 bv.cells a.ag.ls)) (aF:a.ag.ls.length≤k∧a.ag.ls.length≤9223372036854775807) (dw:b.aa.ag.ls.length≤1000∧b.aa.aj.ls.length≤1000∧b.aa.aF.ls.length≤1000∧b.aA.ls.length≤1000∧S.bE.ls.length≤100000) (dx:Mk b) (dz:b.aQ.ae.ls.length≤1000∧b.aO.ae.ls.length≤1000∧b.aL.ae.ls.length≤1000∧b.aN.ae.ls.length≤1000∧b.aK.ae.ls.length≤1000) (dA:11≤a.aP∧a.aP≤14) (dB:a.aD.ls.length≤24∧a.ag.ls.length≤1000∧a.ai.ls.length≤1000∧jy a.aY) (hr:kr S a b=(T,r1)):
    Calls y4 56 #[vP g0 0, .agg (gH a.aM a.aP a.fO a.aS a.dJ a.d9 a.aY a.ax a.bf a.di a.bi a.aI a.dM a.cZ a.xN a.dY a.bW.bJ a.bW.bX o B g p C h q E k).toArray] w (dS fun v w'=> ∃ (B0ox0:Option Addr) (b0ox0:Nat) (e0ox0:List bA),v= .tuple #[]∧Own w D w' [blk g0 [vP e 0, .slice B0ox0 T.bE.ls.length b0ox0] 98,row B0ox0 T.bE.ls.length b0ox0 (q6 bA.cells e0ox0) 42 21,sepL (q6 bA.own e0ox0),iE e r1]∧(s8 bA.abs e0ox0=T.bE.ls)):=by
 subst M O Q
 have ax:=az r
 have ay:=az s
 have aG:=H.rowC (i:=1) rfl
 have aH:=H.pf [3]
 obtain⟨aI,aK,aL,aM,aN,aO,aP,aQ,aR,aS,aT,aU,aV,aW,aX,aY,aZ,bf,bg,bi,bn,bq,bu,bz,bB,bE,U,V,W,X,Y,Z,aa,ae,cZ,bF⟩:=jJ aH
 have bG:=bF.pf [18,19,20]
 obtain⟨dC,ag,l,ah,df⟩:=FN bG
 refine(tT _ _ g0 S m n f a o a.aD.ls.length g p a.ai.ls.length h j q a.ag.ls.length k e b aI aK aL aM aN aO aP aQ aR aS aT aU aV aW aX aY aZ bf bg bi bn bq bu bz bB bE T r1 ag r rfl (l _ N) (show a.aD.ls.length≤g∧a.aD.ls.length≤9223372036854775807 from by omega) s rfl (l _ P) (show a.ai.ls.length≤h∧a.ai.ls.length≤9223372036854775807 from by omega) (fun x9 h9=>⟨l _ (t x9 h9).1,(t x9 h9).2⟩) rfl (l _ R) (show a.ag.ls.length≤k∧a.ag.ls.length≤9223372036854775807 from by omega) U V W X Y Z aa ae e8 f5 j9 e8 e8 hr).mono ?_
 rintro _ dD ⟨_,rfl,bH,bI,bJ,dE,dF,dG,dH,dI,dJ,dK,dL,dM,dN,dO,dP,dQ,dR,dU,dV,dW,dX,dY,dZ,d9,ed,dm,ek,eu,dn,rfl,ai,F,G,I,J,K,L,u,y,z⟩
 have d:=ah _ _ ai
 have bK:=az F
 have bL:=az G
 have bM:=az I
 have bN:=az J
 have bP:=az K
 have bR:=az L
 have bS:=az u
 have bT:=az y
 have bU:=az z
 have bV:=d.rowC (i:=1) rfl
 have bW:=d.rowC (i:=4) rfl
 have bX:=d.rowC (i:=5) rfl
 have bY:=d.rowC (i:=7) rfl
 have bZ:=d.rowC (i:=9) rfl
 have cu:=d.rowC (i:=11) rfl
 have cz:=d.rowC (i:=13) rfl
 have cB:=d.rowC (i:=15) rfl
 have cK:=d.rowC (i:=17) rfl
 have cO:=d.rowC (i:=19) rfl
 have aj:=d.pb [0,1,2]
 have ak:=fo G I J K L u y z aj
 have au:=ak.pb [0]
 exact⟨_,rfl,bH,bI,bJ,rfl,au,F⟩
set_option maxHeartbeats 4000000 in
theorem vB (w:World) (D:Nat→Prop) (g0:Nat) (S:bO) (m:Option Addr) (n:Nat) (f:List bA) (a:bQ) (o:Option Addr) (B g:Nat) (p:Option Addr) (C h:Nat) (j:List af) (q:Option Addr) (E k:Nat) (e:Nat) (b:aB) (T:bO) (r1:aB) (H:Own w D w [blk g0 [.pointer (some ⟨e,0,none⟩), .slice m S.bE.ls.length n] 98,row m S.bE.ls.length n (q6 bA.cells f) 42 21,sepL (q6 bA.own f),iE e b]) (r:s8 bA.abs f=S.bE.ls) (M:B=a.aD.ls.length) (N:Ro w D fun w'=>bD w' 6 o a.aD.ls.length (q6 bC.cells a.aD.ls)) (aD:a.aD.ls.length≤g∧a.aD.ls.length≤9223372036854775807) (s:s8 af.abs j=a.ai.ls) (O:C=a.ai.ls.length) (P:Ro w D fun w'=>bD w' 3 p a.ai.ls.length (q6 af.cells j)) (aF:a.ai.ls.length≤h∧a.ai.ls.length≤9223372036854775807) (t:∀ x ∈ j,Ro w D (fun w'=>bD w' 2 x.au.A x.au.ls.length (q6 aJ.cells x.au.ls))∧(x.au.ls.length≤x.au.c∧x.au.ls.length≤9223372036854775807)) (Q:E=a.ag.ls.length) (R:Ro w D fun w'=>bD w' 2 q a.ag.ls.length (q6 bv.cells a.ag.ls)) (aG:a.ag.ls.length≤k∧a.ag.ls.length≤9223372036854775807) (dw:b.aa.ag.ls.length≤1000∧b.aa.aj.ls.length≤1000∧b.aa.aF.ls.length≤1000∧b.aA.ls.length≤1000∧S.bE.ls.length≤100000) (dx:Ak b.aA.ls) (dz:a.aD.ls.length≤24∧a.ag.ls.length≤1000∧a.ai.ls.length≤1000∧jy a.aY) (dA:mJ a.ai.ls) (hr:kY S a b=(T,r1)):
    Calls y4 57 #[vP g0 0, .agg (gH a.aM a.aP a.fO a.aS a.dJ a.d9 a.aY a.ax a.bf a.di a.bi a.aI a.dM a.cZ a.xN a.dY a.bW.bJ a.bW.bX o B g p C h q E k).toArray] w (dS fun v w'=> ∃ (B0ox0:Option Addr) (b0ox0:Nat) (e0ox0:List bA),v= .tuple #[]∧Own w D w' [blk g0 [vP e 0, .slice B0ox0 T.bE.ls.length b0ox0] 98,row B0ox0 T.bE.ls.length b0ox0 (q6 bA.cells e0ox0) 42 21,sepL (q6 bA.own e0ox0),iE e r1]∧(s8 bA.abs e0ox0=T.bE.ls)):=by
 subst M O Q
 have ay:=az r
 have aA:=az s
 have aH:=H.rowC (i:=1) rfl
 have aI:=H.pf [3]
 obtain⟨aK,aL,aM,aN,aO,aP,aQ,aR,aS,aT,aU,aV,aW,aX,aY,aZ,bf,bg,bi,bn,bq,bu,bz,bB,bE,bF,U,V,W,X,Y,Z,aa,ae,cZ,bG⟩:=jJ aI
 have bH:=bG.px [18,19,20] [] [1]
 obtain⟨dB,ag,l,ah,df⟩:=Gx bH
 refine(vo _ _ g0 S m n f a o a.aD.ls.length g p a.ai.ls.length h j q a.ag.ls.length k e b aK aL aM aN aO aP aQ aR aS aT aU aV aW aX aY aZ bf bg bi bn bq bu bz bB bE bF T r1 ag r rfl (l _ N) (show a.aD.ls.length≤g∧a.aD.ls.length≤9223372036854775807 from by omega) s rfl (l _ P) (show a.ai.ls.length≤h∧a.ai.ls.length≤9223372036854775807 from by omega) (fun x9 h9=>⟨l _ (t x9 h9).1,(t x9 h9).2⟩) rfl (l _ R) (show a.ag.ls.length≤k∧a.ag.ls.length≤9223372036854775807 from by omega) U V W X Y Z aa ae e8 f9 e8 f5 hr).mono ?_
 rintro _ dC ⟨_,rfl,bI,bJ,bK,dD,dE,dF,dG,dH,dI,dJ,dK,dL,dM,dN,dO,dP,dQ,dR,dU,dV,dW,dX,dY,dm,dZ,d9,dn,rfl,ai,F,G,I,J,K,L,u,y,z⟩
 have d:=ah _ _ ai
 have bL:=az F
 have bM:=az G
 have bN:=az I
 have bP:=az J
 have bR:=az K
 have bS:=az L
 have bT:=az u
 have bU:=az y
 have bV:=az z
 have bW:=d.rowC (i:=1) rfl
 have bX:=d.rowC (i:=4) rfl
 have bY:=d.rowC (i:=6) rfl
 have bZ:=d.rowC (i:=8) rfl
 have cu:=d.rowC (i:=10) rfl
 have cz:=d.rowC (i:=12) rfl
 have cB:=d.rowC (i:=14) rfl
 have cK:=d.rowC (i:=16) rfl
 have cO:=d.rowC (i:=18) rfl
 have aj:=d.px [3,20] [] [0,1,2]
 have ak:=fo G I J K L u y z aj
 have au:=xS (zC (yl hr).1.own rfl rfl rfl rfl rfl rfl rfl rfl) ak
 have av:=au.pb [0]
 exact⟨_,rfl,bI,bJ,bK,rfl,av,F⟩
set_option maxHeartbeats 4000000 in
theorem vX (w:World) (D:Nat→Prop) (Y:Nat) (L:bO) (l:Option Addr) (m:Nat) (e:List bA) (a:bQ) (n:Option Addr) (t f:Nat) (o:Option Addr) (u g:Nat) (h:List af) (p:Option Addr) (y j:Nat) (d:Nat) (b:aB) (M:bO) (r1:aB) (H:Own w D w [blk Y [.pointer (some ⟨d,0,none⟩), .slice l L.bE.ls.length m] 98,row l L.bE.ls.length m (q6 bA.cells e) 42 21,sepL (q6 bA.own e),iE d b]) (q:s8 bA.abs e=L.bE.ls) (C:t=a.aD.ls.length) (E:Ro w D fun w'=>bD w' 6 n a.aD.ls.length (q6 bC.cells a.aD.ls)) (ag:a.aD.ls.length≤f∧a.aD.ls.length≤9223372036854775807) (r:s8 af.abs h=a.ai.ls) (F:u=a.ai.ls.length) (G:Ro w D fun w'=>bD w' 3 o a.ai.ls.length (q6 af.cells h)) (ah:a.ai.ls.length≤g∧a.ai.ls.length≤9223372036854775807) (s:∀ x ∈ h,Ro w D (fun w'=>bD w' 2 x.au.A x.au.ls.length (q6 aJ.cells x.au.ls))∧(x.au.ls.length≤x.au.c∧x.au.ls.length≤9223372036854775807)) (I:y=a.ag.ls.length) (J:Ro w D fun w'=>bD w' 2 p a.ag.ls.length (q6 bv.cells a.ag.ls)) (ai:a.ag.ls.length≤j∧a.ag.ls.length≤9223372036854775807) (bF:b.aa.ag.ls.length≤1000∧b.aa.aj.ls.length≤1000∧b.aa.aF.ls.length≤1000∧b.aA.ls.length≤1000∧L.bE.ls.length≤100000) (bG:Dk b.aa.aj.ls) (hr:lG L a b=(M,r1)):
    Calls y4 58 #[vP Y 0, .agg (gH a.aM a.aP a.fO a.aS a.dJ a.d9 a.aY a.ax a.bf a.di a.bi a.aI a.dM a.cZ a.xN a.dY a.bW.bJ a.bW.bX n t f o u g p y j).toArray] w (dS fun v w'=> ∃ (B0ox0:Option Addr) (b0ox0:Nat) (e0ox0:List bA),v= .tuple #[]∧Own w D w' [blk Y [vP d 0, .slice B0ox0 M.bE.ls.length b0ox0] 98,row B0ox0 M.bE.ls.length b0ox0 (q6 bA.cells e0ox0) 42 21,sepL (q6 bA.own e0ox0),iE d r1]∧(s8 bA.abs e0ox0=M.bE.ls)):=by
 subst C F I
 have Z:=az q
 have aa:=az r
 have aj:=H.rowC (i:=1) rfl
 have ak:=H.pf [3]
 obtain⟨au,av,ax,ay,aA,aC,aD,bH,aF,aG,bI,aH,aI,bJ,aK,aL,bK,aM,aN,bL,aO,aP,bM,aQ,aR,bN,N,O,P,Q,R,S,T,U,bg,aS⟩:=jJ ak
 have aT:=aS.pf [18,19,20,0,2,3]
 obtain⟨bP,V,k,W,bi⟩:=Hy aT
 refine(vW _ _ Y L l m e a n a.aD.ls.length f o a.ai.ls.length g h p a.ag.ls.length j d b au av ax ay aA aC aD aF aG aH aI aK aL aM aN aO aP aQ aR M r1 V q rfl (k _ E) (show a.aD.ls.length≤f∧a.aD.ls.length≤9223372036854775807 from by omega) r rfl (k _ G) (show a.ai.ls.length≤g∧a.ai.ls.length≤9223372036854775807 from by omega) (fun x9 h9=>⟨k _ (s x9 h9).1,(s x9 h9).2⟩) rfl (k _ J) (show a.ag.ls.length≤j∧a.ag.ls.length≤9223372036854775807 from by omega) N e8 j8 hr).mono ?_
 rintro _ bR ⟨_,rfl,aU,aV,aW,bS,bT,bU,rfl,X,z,B⟩
 have K:=W _ _ X
 have bu:=az z
 have bz:=az B
 have bB:=K.rowC (i:=1) rfl
 have bE:=K.rowC (i:=4) rfl
 have aX:=K.px [3,6] [] [0,1,2]
 have aY:=fo B O P Q R S T U aX
 have aZ:=xS (zC (by obtain⟨⟨_,rfl⟩,_⟩:=nS hr; rfl) rfl (by obtain⟨⟨_,rfl⟩,_⟩:=nS hr; rfl) (by obtain⟨⟨_,rfl⟩,_⟩:=nS hr; rfl) (by obtain⟨⟨_,rfl⟩,_⟩:=nS hr; rfl) (by obtain⟨⟨_,rfl⟩,_⟩:=nS hr; rfl) (by obtain⟨⟨_,rfl⟩,_⟩:=nS hr; rfl) (by obtain⟨⟨_,rfl⟩,_⟩:=nS hr; rfl) (by obtain⟨⟨_,rfl⟩,_⟩:=nS hr; rfl)) aY
 have bf:=aZ.pb [0]
 exact⟨_,rfl,aU,aV,aW,rfl,bf,z⟩
set_option maxHeartbeats 4000000 in
theorem vY (w:World) (D:Nat→Prop) (g0:Nat) (R:bO) (p:Option Addr) (q:Nat) (j:List bA) (a:bQ) (r:Option Addr) (E k:Nat) (s:Option Addr) (F l:Nat) (m:List af) (t:Option Addr) (G n:Nat) (h:Nat) (b:aB) (S:bO) (H:Own w D w [blk g0 [.pointer (some ⟨h,0,none⟩), .slice p R.bE.ls.length q] 98,row p R.bE.ls.length q (q6 bA.cells j) 42 21,sepL (q6 bA.own j),iE h b]) (u:s8 bA.abs j=R.bE.ls) (L:E=a.aD.ls.length) (M:Ro w D fun w'=>bD w' 6 r a.aD.ls.length (q6 bC.cells a.aD.ls)) (ax:a.aD.ls.length≤k∧a.aD.ls.length≤9223372036854775807) (y:s8 af.abs m=a.ai.ls) (N:F=a.ai.ls.length) (O:Ro w D fun w'=>bD w' 3 s a.ai.ls.length (q6 af.cells m)) (ay:a.ai.ls.length≤l∧a.ai.ls.length≤9223372036854775807) (z:∀ x ∈ m,Ro w D (fun w'=>bD w' 2 x.au.A x.au.ls.length (q6 aJ.cells x.au.ls))∧(x.au.ls.length≤x.au.c∧x.au.ls.length≤9223372036854775807)) (P:G=a.ag.ls.length) (Q:Ro w D fun w'=>bD w' 2 t a.ag.ls.length (q6 bv.cells a.ag.ls)) (aA:a.ag.ls.length≤n∧a.ag.ls.length≤9223372036854775807) (bK:b.aa.ag.ls.length≤1000∧b.aa.aj.ls.length≤1000∧b.aa.aF.ls.length≤1000∧b.aA.ls.length≤1000∧R.bE.ls.length≤100000) (hr:mi R a b=S):
    Calls y4 59 #[vP g0 0, .agg (gH a.aM a.aP a.fO a.aS a.dJ a.d9 a.aY a.ax a.bf a.di a.bi a.aI a.dM a.cZ a.xN a.dY a.bW.bJ a.bW.bX r E k s F l t G n).toArray] w (dS fun v w'=> ∃ (B0ox0:Option Addr) (b0ox0:Nat) (e0ox0:List bA),v= .tuple #[]∧Own w D w' [blk g0 [vP h 0, .slice B0ox0 S.bE.ls.length b0ox0] 98,row B0ox0 S.bE.ls.length b0ox0 (q6 bA.cells e0ox0) 42 21,sepL (q6 bA.own e0ox0),iE h b]∧(s8 bA.abs e0ox0=S.bE.ls)):=by
 subst L N P
 have ak:=az u
 have au:=az y
 have aC:=H.rowC (i:=1) rfl
 have aD:=H.pf [3]
 obtain⟨aF,aG,aH,T,aI,aK,aL,bL,aM,U,aN,aO,aP,bM,aQ,aR,bN,aS,aU,bP,aV,aW,bR,aX,aY,bS,I,V,J,W,X,Y,Z,aa,bE,aZ⟩:=jJ aD
 have e:=aZ.pf [18,19,20]
 have bF:=e.rowC (i:=5) rfl
 have bG:=e.rowC (i:=9) rfl
 obtain⟨bT,ae,o,ag,d⟩:=FM e
 refine(vV _ _ g0 R p q j a r a.aD.ls.length k s a.ai.ls.length l m t a.ag.ls.length n h b aF aG aH T aI aK aL aM U aN aO aP aQ aR aS aU aV aW aX aY S ae u rfl (o _ M) (show a.aD.ls.length≤k∧a.aD.ls.length≤9223372036854775807 from by omega) y rfl (o _ O) (show a.ai.ls.length≤l∧a.ai.ls.length≤9223372036854775807 from by omega) (fun f g=>⟨o _ (z f g).1,(z f g).2⟩) rfl (o _ Q) (show a.ag.ls.length≤n∧a.ag.ls.length≤9223372036854775807 from by omega) I (d _ 1 _ rfl aT) (show b.aa.aj.ls.length≤T∧b.aa.aj.ls.length≤9223372036854775807 from by omega) (fun f g=>⟨d _ 2 _ rfl (av (O7.2 ⟨f,g,b1⟩) aT),bz (φ:=fun _=>_) e (i:=6) rfl (av (O7.2 ⟨f,g,b1⟩) bn)⟩) J (d _ 5 _ rfl aT) (show b.aA.ls.length≤U∧b.aA.ls.length≤9223372036854775807 from by omega) (fun f g=>⟨d _ 6 _ rfl (av (O7.2 ⟨f,g,b1⟩) aT),bz (φ:=fun _=>_) e (i:=10) rfl (av (O7.2 ⟨f,g,b1⟩) bn),d _ 6 _ rfl (av (O7.2 ⟨f,g, .tail _ b1⟩) aT),bz (φ:=fun _=>_) e (i:=10) rfl (av (O7.2 ⟨f,g, .tail _ b1⟩) bn),(fun B C=>⟨d _ 6 _ rfl (av (O7.2 ⟨f,g, .tail _ b4⟩) (av (O7.2 ⟨B,C,b1⟩) aT)),bz (φ:=fun _=>_) e (i:=10) rfl (av (O7.2 ⟨f,g, .tail _ b4⟩) (av (O7.2 ⟨B,C,b1⟩) bn)),d _ 6 _ rfl (av (O7.2 ⟨f,g, .tail _ b4⟩) (av (O7.2 ⟨B,C, .tail _ b1⟩) aT)),bz (φ:=fun _=>_) e (i:=10) rfl (av (O7.2 ⟨f,g, .tail _ b4⟩) (av (O7.2 ⟨B,C, .tail _ b1⟩) bn))⟩),d _ 6 _ rfl (av (O7.2 ⟨f,g, .tail _ b2⟩) aT),bz (φ:=fun _=>_) e (i:=10) rfl (av (O7.2 ⟨f,g, .tail _ b2⟩) bn),d _ 6 _ rfl (av (O7.2 ⟨f,g, .tail _ b3⟩) aT),bz (φ:=fun _=>_) e (i:=10) rfl (av (O7.2 ⟨f,g, .tail _ b3⟩) bn),(fun B C=>⟨d _ 6 _ rfl (av (O7.2 ⟨f,g, .tail _ b5⟩) (av (O7.2 ⟨B,C,b1⟩) aT)),bz (φ:=fun _=>_) e (i:=10) rfl (av (O7.2 ⟨f,g, .tail _ b5⟩) (av (O7.2 ⟨B,C,b1⟩) bn)),(fun y2 k2=>⟨d _ 6 _ rfl (av (O7.2 ⟨f,g, .tail _ b5⟩) (av (O7.2 ⟨B,C, .tail _ b1⟩) (av (O7.2 ⟨y2,k2,b1⟩) aT))),bz (φ:=fun _=>_) e (i:=10) rfl (av (O7.2 ⟨f,g, .tail _ b5⟩) (av (O7.2 ⟨B,C, .tail _ b1⟩) (av (O7.2 ⟨y2,k2,b1⟩) bn)))⟩)⟩)⟩) e8 hr).mono ?_
 rintro _ bU ⟨_,rfl,bf,bg,bi,rfl,ah,K⟩
 have ai:=ag _ _ ah
 have bI:=az K
 have bJ:=ai.rowC (i:=1) rfl
 have bq:=ai.pb [0,1,2]
 have bu:=fo I V J W X Y Z aa bq
 have bB:=bu.pb [0]
 exact⟨_,rfl,bf,bg,bi,rfl,bB,K⟩
set_option maxHeartbeats 4000000 in
theorem vC (w:World) (D:Nat→Prop) (N:Nat) (s:bO) (e:Option Addr) (f:Nat) (d:List bA) (P:Nat) (b:Nat) (a:aB) (t:bO) (Q:aB) (H:Own w D w [blk N [.pointer (some ⟨b,0,none⟩), .slice e s.bE.ls.length f] 98,row e s.bE.ls.length f (q6 bA.cells d) 42 21,sepL (q6 bA.own d),iE b a]) (g:s8 bA.abs d=s.bE.ls) (bC:a.aa.ag.ls.length≤1000∧a.aa.aj.ls.length≤1000∧a.aa.aF.ls.length≤1000∧a.aA.ls.length≤1000∧s.bE.ls.length≤100000) (bD:Ak a.aA.ls) (hr:kF s P a=(t,Q)):
    Calls y4 26 #[vP N 0,vU P] w (dS fun v w'=> ∃ (B0ox0:Option Addr) (b0ox0:Nat) (e0ox0:List bA),v= .tuple #[]∧Own w D w' [blk N [vP b 0, .slice B0ox0 t.bE.ls.length b0ox0] 98,row B0ox0 t.bE.ls.length b0ox0 (q6 bA.cells e0ox0) 42 21,sepL (q6 bA.own e0ox0),iE b Q]∧(s8 bA.abs e0ox0=t.bE.ls)):=by
 have O:=az g
 have R:=H.rowC (i:=1) rfl
 have S:=H.pf [3]
 obtain⟨T,U,V,u,W,X,Y,bE,Z,aa,ae,af,ag,ah,ai,aj,ak,au,ax,ay,aA,aC,aD,aF,aG,aH,j,x,y,z,A,B,C,E,bg,aI⟩:=jJ S
 have r:=aI.px [18,19,20] [] [1,2,3,4,5]
 have bi:=r.rowC (i:=17) rfl
 obtain⟨bF,F,bq,G,k⟩:=FY r
 refine(vw _ _ N s e f d P b a T U V u W X Y Z aa ae af ag ah ai aj ak au ax ay aA aC aD aF aG aH t Q F g j (k _ 1 _ rfl aT) (show a.aa.aj.ls.length≤u∧a.aa.aj.ls.length≤9223372036854775807 from by omega) (fun x9 h9=>⟨k _ 2 _ rfl (av (O7.2 ⟨x9,h9,b1⟩) aT),bz (φ:=fun _=>_) r (i:=18) rfl (av (O7.2 ⟨x9,h9,b1⟩) bn)⟩) y z A B C E e8 f9 hr).mono ?_
 rintro _ bG ⟨_,rfl,aJ,aK,aL,bH,bI,bJ,bK,bL,bM,bN,bP,bQ,bR,bS,bT,bU,bV,bW,bX,bY,bB,rfl,I,l,m,n,o,p,q,h⟩
 have c:=G _ _ I
 have aM:=az l
 have aN:=az m
 have aO:=az n
 have aP:=az o
 have aQ:=az p
 have aR:=az q
 have aS:=az h
 have aU:=c.rowC (i:=1) rfl
 have aV:=c.rowC (i:=4) rfl
 have aW:=c.rowC (i:=6) rfl
 have aX:=c.rowC (i:=8) rfl
 have aY:=c.rowC (i:=10) rfl
 have aZ:=c.rowC (i:=12) rfl
 have bf:=c.rowC (i:=14) rfl
 have J:=c.px [3,16,17,18,19,20] [] [0,1,2]
 have K:=fo j x m n o p q h J
 have L:=xS (zC (by rw [(qZ hr).1]) (by rw [(qZ hr).1]) (by rw [(qZ hr).1]) rfl rfl rfl rfl rfl rfl) K
 have M:=L.pb [0]
 exact⟨_,rfl,aJ,aK,aL,rfl,M,l⟩
end Go.Proofs.YtbkagebjhbphaaaGreat
