/-
 coord: the machine as one thing.
-/
import Derived.Test.YtbkagebjhbphaaaGreatCoS
namespace Go.Proofs.YtbkagebjhbphaaaGreat
set_option maxRecDepth 100000
open Go.RowKit
set_option linter.unusedVariables false
set_option linter.unusedSectionVars false
set_option linter.unusedSimpArgs false
def iF (g:Nat) (m:aC):HP:=Dp (fun x:(Option Addr) × Nat × (Option Addr) × Nat × (List az) × (Option Addr) × Nat × (List aX) × (Option Addr) × Nat × (List bB) × (Option Addr) × Nat × (List af) × (Option Addr) × Nat × (List af) × (Option Addr) × Nat × (List af) × (Option Addr) × Nat × (List af) × (Option Addr) × Nat × (List af)=>List.map az.abs x.2.2.2.2.1=m.aa.aj.ls∧List.map aX.abs x.2.2.2.2.2.2.2.1=m.aa.aG.ls∧List.map bB.abs x.2.2.2.2.2.2.2.2.2.2.1=m.aB.ls∧List.map af.abs x.2.2.2.2.2.2.2.2.2.2.2.2.2.1=m.aR.ae.ls∧List.map af.abs x.2.2.2.2.2.2.2.2.2.2.2.2.2.2.2.2.1=m.aN.ae.ls∧List.map af.abs x.2.2.2.2.2.2.2.2.2.2.2.2.2.2.2.2.2.2.2.1=m.aM.ae.ls∧List.map af.abs x.2.2.2.2.2.2.2.2.2.2.2.2.2.2.2.2.2.2.2.2.2.2.1=m.aO.ae.ls∧List.map af.abs x.2.2.2.2.2.2.2.2.2.2.2.2.2.2.2.2.2.2.2.2.2.2.2.2.2=m.aP.ae.ls) (fun x=> [blk g [.int .i64 m.aa.au, .int .u64 ((m.aa.ay:Nat):Int), .int .u64 ((m.aa.aY:Nat):Int), .int .u64 ((m.aa.aH:Nat):Int), .slice x.1 m.aa.ag.ls.length x.2.1, .slice x.2.2.1 m.aa.aj.ls.length x.2.2.2.1, .slice x.2.2.2.2.2.1 m.aa.aG.ls.length x.2.2.2.2.2.2.1, .int .u64 ((m.bH:Nat):Int), .slice x.2.2.2.2.2.2.2.2.1 m.aB.ls.length x.2.2.2.2.2.2.2.2.2.1, .bool m.aR.aS, .int .u64 ((m.aR.aK:Nat):Int), .int .i64 m.aR.bi, .slice x.2.2.2.2.2.2.2.2.2.2.2.1 m.aR.ae.ls.length x.2.2.2.2.2.2.2.2.2.2.2.2.1, .bool m.aN.aS, .int .u64 ((m.aN.aK:Nat):Int), .int .i64 m.aN.bi, .slice x.2.2.2.2.2.2.2.2.2.2.2.2.2.2.1 m.aN.ae.ls.length x.2.2.2.2.2.2.2.2.2.2.2.2.2.2.2.1, .bool m.aM.aS, .int .u64 ((m.aM.aK:Nat):Int), .int .i64 m.aM.bi, .slice x.2.2.2.2.2.2.2.2.2.2.2.2.2.2.2.2.2.1 m.aM.ae.ls.length x.2.2.2.2.2.2.2.2.2.2.2.2.2.2.2.2.2.2.1, .bool m.aO.aS, .int .u64 ((m.aO.aK:Nat):Int), .int .i64 m.aO.bi, .slice x.2.2.2.2.2.2.2.2.2.2.2.2.2.2.2.2.2.2.2.2.1 m.aO.ae.ls.length x.2.2.2.2.2.2.2.2.2.2.2.2.2.2.2.2.2.2.2.2.2.1, .bool m.aP.aS, .int .u64 ((m.aP.aK:Nat):Int), .int .i64 m.aP.bi, .slice x.2.2.2.2.2.2.2.2.2.2.2.2.2.2.2.2.2.2.2.2.2.2.2.1 m.aP.ae.ls.length x.2.2.2.2.2.2.2.2.2.2.2.2.2.2.2.2.2.2.2.2.2.2.2.2.1, .int .u64 ((m.di:Nat):Int), .int .u64 ((m.cB:Nat):Int), .int .u64 ((m.cZ:Nat):Int), .int .u64 ((m.cK:Nat):Int), .int .u64 ((m.cO:Nat):Int), .pointer none] 86,row x.1 m.aa.ag.ls.length x.2.1 (List.flatMap bv.cells m.aa.ag.ls) 89 2,row x.2.2.1 m.aa.aj.ls.length x.2.2.2.1 (List.flatMap az.cells x.2.2.2.2.1) 60 5,sepL (List.flatMap az.own x.2.2.2.2.1),row x.2.2.2.2.2.1 m.aa.aG.ls.length x.2.2.2.2.2.2.1 (List.flatMap aX.cells x.2.2.2.2.2.2.2.1) 56 4,sepL (List.flatMap aX.own x.2.2.2.2.2.2.2.1),row x.2.2.2.2.2.2.2.2.1 m.aB.ls.length x.2.2.2.2.2.2.2.2.2.1 (List.flatMap bB.cells x.2.2.2.2.2.2.2.2.2.2.1) 107 9,sepL (List.flatMap bB.own x.2.2.2.2.2.2.2.2.2.2.1),row x.2.2.2.2.2.2.2.2.2.2.2.1 m.aR.ae.ls.length x.2.2.2.2.2.2.2.2.2.2.2.2.1 (List.flatMap af.cells x.2.2.2.2.2.2.2.2.2.2.2.2.2.1) 149 3,sepL (List.flatMap af.own x.2.2.2.2.2.2.2.2.2.2.2.2.2.1),row x.2.2.2.2.2.2.2.2.2.2.2.2.2.2.1 m.aN.ae.ls.length x.2.2.2.2.2.2.2.2.2.2.2.2.2.2.2.1 (List.flatMap af.cells x.2.2.2.2.2.2.2.2.2.2.2.2.2.2.2.2.1) 149 3,sepL (List.flatMap af.own x.2.2.2.2.2.2.2.2.2.2.2.2.2.2.2.2.1),row x.2.2.2.2.2.2.2.2.2.2.2.2.2.2.2.2.2.1 m.aM.ae.ls.length x.2.2.2.2.2.2.2.2.2.2.2.2.2.2.2.2.2.2.1 (List.flatMap af.cells x.2.2.2.2.2.2.2.2.2.2.2.2.2.2.2.2.2.2.2.1) 149 3,sepL (List.flatMap af.own x.2.2.2.2.2.2.2.2.2.2.2.2.2.2.2.2.2.2.2.1),row x.2.2.2.2.2.2.2.2.2.2.2.2.2.2.2.2.2.2.2.2.1 m.aO.ae.ls.length x.2.2.2.2.2.2.2.2.2.2.2.2.2.2.2.2.2.2.2.2.2.1 (List.flatMap af.cells x.2.2.2.2.2.2.2.2.2.2.2.2.2.2.2.2.2.2.2.2.2.2.1) 149 3,sepL (List.flatMap af.own x.2.2.2.2.2.2.2.2.2.2.2.2.2.2.2.2.2.2.2.2.2.2.1),row x.2.2.2.2.2.2.2.2.2.2.2.2.2.2.2.2.2.2.2.2.2.2.2.1 m.aP.ae.ls.length x.2.2.2.2.2.2.2.2.2.2.2.2.2.2.2.2.2.2.2.2.2.2.2.2.1 (List.flatMap af.cells x.2.2.2.2.2.2.2.2.2.2.2.2.2.2.2.2.2.2.2.2.2.2.2.2.2) 149 3,sepL (List.flatMap af.own x.2.2.2.2.2.2.2.2.2.2.2.2.2.2.2.2.2.2.2.2.2.2.2.2.2)])
theorem jK {w0 w:World} {D:Nat→Prop} {L:List HP} {g:Nat} {m:aC} (H:Own w0 D w (iF g m::L)):∃ (u:Option Addr) (a:Nat) (v:Option Addr) (b:Nat) (c:List az) (x:Option Addr) (d:Nat) (e:List aX) (y:Option Addr) (f:Nat) (h:List bB) (z:Option Addr) (j:Nat) (k:List af) (A:Option Addr) (l:Nat) (n:List af) (B:Option Addr) (o:Nat) (p:List af) (C:Option Addr) (q:Nat) (r:List af) (E:Option Addr) (s:Nat) (t:List af),List.map az.abs c=m.aa.aj.ls∧List.map aX.abs e=m.aa.aG.ls∧List.map bB.abs h=m.aB.ls∧List.map af.abs k=m.aR.ae.ls∧List.map af.abs n=m.aN.ae.ls∧List.map af.abs p=m.aM.ae.ls∧List.map af.abs r=m.aO.ae.ls∧List.map af.abs t=m.aP.ae.ls∧(c.length=m.aa.aj.ls.length∧e.length=m.aa.aG.ls.length∧h.length=m.aB.ls.length∧k.length=m.aR.ae.ls.length∧n.length=m.aN.ae.ls.length∧p.length=m.aM.ae.ls.length∧r.length=m.aO.ae.ls.length∧t.length=m.aP.ae.ls.length∧(m.aa.ag.ls.length≤a∧a≤9223372036854775807)∧(m.aa.aj.ls.length≤b∧b≤9223372036854775807)∧(m.aa.aG.ls.length≤d∧d≤9223372036854775807)∧(m.aB.ls.length≤f∧f≤9223372036854775807)∧(m.aR.ae.ls.length≤j∧j≤9223372036854775807)∧(m.aN.ae.ls.length≤l∧l≤9223372036854775807)∧(m.aM.ae.ls.length≤o∧o≤9223372036854775807)∧(m.aO.ae.ls.length≤q∧q≤9223372036854775807)∧(m.aP.ae.ls.length≤s∧s≤9223372036854775807))∧Own w0 D w (blk g [.int .i64 m.aa.au, .int .u64 ((m.aa.ay:Nat):Int), .int .u64 ((m.aa.aY:Nat):Int), .int .u64 ((m.aa.aH:Nat):Int), .slice u m.aa.ag.ls.length a, .slice v m.aa.aj.ls.length b, .slice x m.aa.aG.ls.length d, .int .u64 ((m.bH:Nat):Int), .slice y m.aB.ls.length f, .bool m.aR.aS, .int .u64 ((m.aR.aK:Nat):Int), .int .i64 m.aR.bi, .slice z m.aR.ae.ls.length j, .bool m.aN.aS, .int .u64 ((m.aN.aK:Nat):Int), .int .i64 m.aN.bi, .slice A m.aN.ae.ls.length l, .bool m.aM.aS, .int .u64 ((m.aM.aK:Nat):Int), .int .i64 m.aM.bi, .slice B m.aM.ae.ls.length o, .bool m.aO.aS, .int .u64 ((m.aO.aK:Nat):Int), .int .i64 m.aO.bi, .slice C m.aO.ae.ls.length q, .bool m.aP.aS, .int .u64 ((m.aP.aK:Nat):Int), .int .i64 m.aP.bi, .slice E m.aP.ae.ls.length s, .int .u64 ((m.di:Nat):Int), .int .u64 ((m.cB:Nat):Int), .int .u64 ((m.cZ:Nat):Int), .int .u64 ((m.cK:Nat):Int), .int .u64 ((m.cO:Nat):Int), .pointer none] 86::row u m.aa.ag.ls.length a (List.flatMap bv.cells m.aa.ag.ls) 89 2::row v m.aa.aj.ls.length b (List.flatMap az.cells c) 60 5::sepL (List.flatMap az.own c)::row x m.aa.aG.ls.length d (List.flatMap aX.cells e) 56 4::sepL (List.flatMap aX.own e)::row y m.aB.ls.length f (List.flatMap bB.cells h) 107 9::sepL (List.flatMap bB.own h)::row z m.aR.ae.ls.length j (List.flatMap af.cells k) 149 3::sepL (List.flatMap af.own k)::row A m.aN.ae.ls.length l (List.flatMap af.cells n) 149 3::sepL (List.flatMap af.own n)::row B m.aM.ae.ls.length o (List.flatMap af.cells p) 149 3::sepL (List.flatMap af.own p)::row C m.aO.ae.ls.length q (List.flatMap af.cells r) 149 3::sepL (List.flatMap af.own r)::row E m.aP.ae.ls.length s (List.flatMap af.cells t) 149 3::sepL (List.flatMap af.own t)::L):=by
 obtain⟨⟨u,a,v,b,c,x,d,e,y,f,h,z,j,k,A,l,n,B,o,p,C,q,r,E,s,t⟩,⟨F,G,I,J,K,M,N,O⟩,H⟩:=Ht H
 have H:Own w0 D w (blk g [vI m.aa.au,vU m.aa.ay,vU m.aa.aY,vU m.aa.aH, .slice u m.aa.ag.ls.length a, .slice v m.aa.aj.ls.length b, .slice x m.aa.aG.ls.length d,vU m.bH, .slice y m.aB.ls.length f, .bool m.aR.aS,vU m.aR.aK,vI m.aR.bi, .slice z m.aR.ae.ls.length j, .bool m.aN.aS,vU m.aN.aK,vI m.aN.bi, .slice A m.aN.ae.ls.length l, .bool m.aM.aS,vU m.aM.aK,vI m.aM.bi, .slice B m.aM.ae.ls.length o, .bool m.aO.aS,vU m.aO.aK,vI m.aO.bi, .slice C m.aO.ae.ls.length q, .bool m.aP.aS,vU m.aP.aK,vI m.aP.bi, .slice E m.aP.ae.ls.length s,vU m.di,vU m.cB,vU m.cZ,vU m.cK,vU m.cO, .pointer none] 86::row u m.aa.ag.ls.length a (List.flatMap bv.cells m.aa.ag.ls) 89 2::row v m.aa.aj.ls.length b (List.flatMap az.cells c) 60 5::sepL (List.flatMap az.own c)::row x m.aa.aG.ls.length d (List.flatMap aX.cells e) 56 4::sepL (List.flatMap aX.own e)::row y m.aB.ls.length f (List.flatMap bB.cells h) 107 9::sepL (List.flatMap bB.own h)::row z m.aR.ae.ls.length j (List.flatMap af.cells k) 149 3::sepL (List.flatMap af.own k)::row A m.aN.ae.ls.length l (List.flatMap af.cells n) 149 3::sepL (List.flatMap af.own n)::row B m.aM.ae.ls.length o (List.flatMap af.cells p) 149 3::sepL (List.flatMap af.own p)::row C m.aO.ae.ls.length q (List.flatMap af.cells r) 149 3::sepL (List.flatMap af.own r)::row E m.aP.ae.ls.length s (List.flatMap af.cells t) 149 3::sepL (List.flatMap af.own t)::L):=H
 refine⟨u,a,v,b,c,x,d,e,y,f,h,z,j,k,A,l,n,B,o,p,C,q,r,E,s,t,F,G,I,J,K,M,N,O,⟨aA F,aA G,aA I,aA J,aA K,aA M,aA N,aA O,H.rowC (i:=1) rfl,H.rowC (i:=2) rfl,H.rowC (i:=4) rfl,H.rowC (i:=6) rfl,H.rowC (i:=8) rfl,H.rowC (i:=10) rfl,H.rowC (i:=12) rfl,H.rowC (i:=14) rfl,H.rowC (i:=16) rfl⟩,H⟩
theorem eO {w0 w:World} {D:Nat→Prop} {L:List HP} {g:Nat} {y0:Int} {y1:Nat} {y2:Nat} {y3:Nat} {f:List bv} {B:List bL} {C:List fG} {y7:Nat} {E:List dM} {y9:Bool} {h:Nat} {i:Int} {a:List aZ} {j:Bool} {k:Nat} {l:Int} {b:List aZ} {m:Bool} {n:Nat} {o:Int} {c:List aZ} {p:Bool} {q:Nat} {r:Int} {d:List aZ} {s:Bool} {t:Nat} {u:Int} {e:List aZ} {v:Nat} {x:Nat} {y:Nat} {z:Nat} {A:Nat} {P:Option Addr} {Q:Nat} {R:Option Addr} {S:Nat} {F:List az} {T:Option Addr} {U:Nat} {G:List aX} {V:Option Addr} {W:Nat} {I:List bB} {X:Option Addr} {Y:Nat} {J:List af} {Z:Option Addr} {c5:Nat} {K:List af} {A6:Option Addr} {c6:Nat} {M:List af} {A7:Option Addr} {c7:Nat} {N:List af} {A8:Option Addr} {c8:Nat} {O:List af} (aD:List.map az.abs F=B) (aF:List.map aX.abs G=C) (aG:List.map bB.abs I=E) (aH:List.map af.abs J=a) (aI:List.map af.abs K=b) (aJ:List.map af.abs M=c) (aK:List.map af.abs N=d) (aL:List.map af.abs O=e) (H:Own w0 D w (blk g [.int .i64 y0, .int .u64 ((y1:Nat):Int), .int .u64 ((y2:Nat):Int), .int .u64 ((y3:Nat):Int), .slice P f.length Q, .slice R B.length S, .slice T C.length U, .int .u64 ((y7:Nat):Int), .slice V E.length W, .bool y9, .int .u64 ((h:Nat):Int), .int .i64 i, .slice X a.length Y, .bool j, .int .u64 ((k:Nat):Int), .int .i64 l, .slice Z b.length c5, .bool m, .int .u64 ((n:Nat):Int), .int .i64 o, .slice A6 c.length c6, .bool p, .int .u64 ((q:Nat):Int), .int .i64 r, .slice A7 d.length c7, .bool s, .int .u64 ((t:Nat):Int), .int .i64 u, .slice A8 e.length c8, .int .u64 ((v:Nat):Int), .int .u64 ((x:Nat):Int), .int .u64 ((y:Nat):Int), .int .u64 ((z:Nat):Int), .int .u64 ((A:Nat):Int), .pointer none] 86::row P f.length Q (List.flatMap bv.cells f) 89 2::row R B.length S (List.flatMap az.cells F) 60 5::sepL (List.flatMap az.own F)::row T C.length U (List.flatMap aX.cells G) 56 4::sepL (List.flatMap aX.own G)::row V E.length W (List.flatMap bB.cells I) 107 9::sepL (List.flatMap bB.own I)::row X a.length Y (List.flatMap af.cells J) 149 3::sepL (List.flatMap af.own J)::row Z b.length c5 (List.flatMap af.cells K) 149 3::sepL (List.flatMap af.own K)::row A6 c.length c6 (List.flatMap af.cells M) 149 3::sepL (List.flatMap af.own M)::row A7 d.length c7 (List.flatMap af.cells N) 149 3::sepL (List.flatMap af.own N)::row A8 e.length c8 (List.flatMap af.cells O) 149 3::sepL (List.flatMap af.own O)::L)):Own w0 D w (iF g (aC.mk (dC.mk y0 y1 y2 y3 (Ll.mk f) (Ll.mk B) (Ll.mk C)) y7 (Ll.mk E) (dY.mk y9 h i (Ll.mk a)) (dY.mk j k l (Ll.mk b)) (dY.mk m n o (Ll.mk c)) (dY.mk p q r (Ll.mk d)) (dY.mk s t u (Ll.mk e)) v x y z A)::L):=
 Hu (P,Q,R,S,F,T,U,G,V,W,I,X,Y,J,Z,c5,K,A6,c6,M,A7,c7,N,A8,c8,O) ⟨aD,aF,aG,aH,aI,aJ,aK,aL⟩ (show Own w0 D w ([blk g [vI y0,vU y1,vU y2,vU y3, .slice P f.length Q, .slice R B.length S, .slice T C.length U,vU y7, .slice V E.length W, .bool y9,vU h,vI i, .slice X a.length Y, .bool j,vU k,vI l, .slice Z b.length c5, .bool m,vU n,vI o, .slice A6 c.length c6, .bool p,vU q,vI r, .slice A7 d.length c7, .bool s,vU t,vI u, .slice A8 e.length c8,vU v,vU x,vU y,vU z,vU A, .pointer none] 86,row P f.length Q (List.flatMap bv.cells f) 89 2,row R B.length S (List.flatMap az.cells F) 60 5,sepL (List.flatMap az.own F),row T C.length U (List.flatMap aX.cells G) 56 4,sepL (List.flatMap aX.own G),row V E.length W (List.flatMap bB.cells I) 107 9,sepL (List.flatMap bB.own I),row X a.length Y (List.flatMap af.cells J) 149 3,sepL (List.flatMap af.own J),row Z b.length c5 (List.flatMap af.cells K) 149 3,sepL (List.flatMap af.own K),row A6 c.length c6 (List.flatMap af.cells M) 149 3,sepL (List.flatMap af.own M),row A7 d.length c7 (List.flatMap af.cells N) 149 3,sepL (List.flatMap af.own N),row A8 e.length c8 (List.flatMap af.cells O) 149 3,sepL (List.flatMap af.own O)]++L) from H)
theorem xU {w0 w:World} {D:Nat→Prop} {L:List HP} {g:Nat} {m r:aC} (e:m=r) (H:Own w0 D w (iF g m::L)):Own w0 D w (iF g r::L):=e ▸ H
theorem zD {r:aC} {o:List bv} {d:List bL} {l:List fG} {a:List dM} {b c e f g:List aZ} (h:r.aa.ag.ls=o) (i:r.aa.aj.ls=d) (j:r.aa.aG.ls=l) (k:r.aB.ls=a) (m:r.aR.ae.ls=b) (n:r.aN.ae.ls=c) (k2:r.aM.ae.ls=e) (p:r.aO.ae.ls=f) (q:r.aP.ae.ls=g):
    aC.mk (dC.mk r.aa.au r.aa.ay r.aa.aY r.aa.aH (Ll.mk o) (Ll.mk d) (Ll.mk l)) r.bH (Ll.mk a) (dY.mk r.aR.aS r.aR.aK r.aR.bi (Ll.mk b)) (dY.mk r.aN.aS r.aN.aK r.aN.bi (Ll.mk c)) (dY.mk r.aM.aS r.aM.aK r.aM.bi (Ll.mk e)) (dY.mk r.aO.aS r.aO.aK r.aO.bi (Ll.mk f)) (dY.mk r.aP.aS r.aP.aK r.aP.bi (Ll.mk g)) r.di r.cB r.cZ r.cK r.cO=r:=by
 subst h i j k m n k2 p q; rfl
set_option maxHeartbeats 4000000 in
theorem tV (w:World) (D:Nat→Prop) (g0:Nat) (S:bQ) (m:Option Addr) (n:Nat) (f:List bA) (a:bP) (o:Option Addr) (B g:Nat) (p:Option Addr) (C h:Nat) (j:List af) (q:Option Addr) (E k:Nat) (e:Nat) (b:aC) (T:bQ) (r1:aC) (H:Own w D w [blk g0 [.pointer (some ⟨e,0,none⟩), .slice m S.bE.ls.length n] 98,row m S.bE.ls.length n (List.flatMap bA.cells f) 42 21,sepL (List.flatMap bA.own f),iF e b]) (r:List.map bA.abs f=S.bE.ls) (M:B=a.aD.ls.length) (N:Ro w D fun w'=>bD w' 6 o a.aD.ls.length (List.flatMap bC.cells a.aD.ls)) (aB:a.aD.ls.length≤g∧a.aD.ls.length≤9223372036854775807) (s:List.map af.abs j=a.ah.ls) (O:C=a.ah.ls.length) (P:Ro w D fun w'=>bD w' 3 p a.ah.ls.length (List.flatMap af.cells j)) (aD:a.ah.ls.length≤h∧a.ah.ls.length≤9223372036854775807) (t:∀ x ∈ j,Ro w D (fun w'=>bD w' 2 x.av.A x.av.ls.length (List.flatMap aL.cells x.av.ls))∧(x.av.ls.length≤x.av.c∧x.av.ls.length≤9223372036854775807)) (Q:E=a.ag.ls.length) (R:Ro w D fun w'=>bD w' 2 q a.ag.ls.length (List.flatMap bv.cells a.ag.ls)) (aF:a.ag.ls.length≤k∧a.ag.ls.length≤9223372036854775807) (dw:b.aa.ag.ls.length≤1000∧b.aa.aj.ls.length≤1000∧b.aa.aG.ls.length≤1000∧b.aB.ls.length≤1000∧S.bE.ls.length≤100000) (dx:Mk b) (dz:b.aR.ae.ls.length≤1000∧b.aN.ae.ls.length≤1000∧b.aM.ae.ls.length≤1000∧b.aO.ae.ls.length≤1000∧b.aP.ae.ls.length≤1000) (dA:11≤a.aJ∧a.aJ≤14) (dB:a.aD.ls.length≤24∧a.ag.ls.length≤1000∧a.ah.ls.length≤1000∧jh a.aU) (hr:kr S a b=(T,r1)):
    Calls Tryz.prog 56 #[vP g0 0, .agg (gN a.aI a.aJ a.eU a.aQ a.dz a.dL a.aU a.ay a.bf a.cz a.aY a.aH a.dG a.bT a.xN a.dI a.bO.bJ a.bO.bW o B g p C h q E k).toArray] w (dW fun v w'=> ∃ (B0ox0:Option Addr) (b0ox0:Nat) (e0ox0:List bA),v= .tuple #[]∧Own w D w' [blk g0 [vP e 0, .slice B0ox0 T.bE.ls.length b0ox0] 98,row B0ox0 T.bE.ls.length b0ox0 (List.flatMap bA.cells e0ox0) 42 21,sepL (List.flatMap bA.own e0ox0),iF e r1]∧(List.map bA.abs e0ox0=T.bE.ls)):=by
 subst M O Q
 have ax:=aA r
 have ay:=aA s
 have aG:=H.rowC (i:=1) rfl
 have aH:=H.pf [3]
 obtain⟨aI,aJ,aK,aM,aN,aO,aP,aQ,aR,aS,aT,aU,aV,aW,aX,aY,aZ,bf,bg,bi,bn,bq,bu,bz,bB,bE,U,V,W,X,Y,Z,aa,ae,cZ,bF⟩:=jK aH
 have bG:=bF.pf [18,19,20]
 obtain⟨dC,ag,l,ah,df⟩:=FM bG
 refine(tT _ _ g0 S m n f a o a.aD.ls.length g p a.ah.ls.length h j q a.ag.ls.length k e b aI aJ aK aM aN aO aP aQ aR aS aT aU aV aW aX aY aZ bf bg bi bn bq bu bz bB bE T r1 ag r rfl (l _ N) (show a.aD.ls.length≤g∧a.aD.ls.length≤9223372036854775807 from by omega) s rfl (l _ P) (show a.ah.ls.length≤h∧a.ah.ls.length≤9223372036854775807 from by omega) (fun x9 h9=>⟨l _ (t x9 h9).1,(t x9 h9).2⟩) rfl (l _ R) (show a.ag.ls.length≤k∧a.ag.ls.length≤9223372036854775807 from by omega) U V W X Y Z aa ae (by first | omega | (dsimp only; omega) | (simp only [List.length_nil]; omega) | decide) (by assumption) (by first | assumption | exact Am (by assumption)) (by first | omega | (dsimp only; omega) | (simp only [List.length_nil]; omega) | decide) (by first | omega | (dsimp only; omega) | (simp only [List.length_nil]; omega) | decide) hr).mono ?_
 rintro _ dD ⟨_,rfl,bH,bI,bJ,dE,dF,dG,dH,dI,dJ,dK,dL,dM,dN,dO,dP,dQ,dR,dS,dU,dV,dX,dY,dZ,d9,ed,dm,ek,eu,dn,rfl,ai,F,G,I,J,K,L,u,y,z⟩
 have d:=ah _ _ ai
 have bK:=aA F
 have bL:=aA G
 have bM:=aA I
 have bN:=aA J
 have bO:=aA K
 have bR:=aA L
 have bS:=aA u
 have bT:=aA y
 have bU:=aA z
 have bV:=d.rowC (i:=1) rfl
 have bW:=d.rowC (i:=4) rfl
 have bX:=d.rowC (i:=5) rfl
 have bY:=d.rowC (i:=7) rfl
 have bZ:=d.rowC (i:=9) rfl
 have cu:=d.rowC (i:=11) rfl
 have cz:=d.rowC (i:=13) rfl
 have cB:=d.rowC (i:=15) rfl
 have cK:=d.rowC (i:=17) rfl
 have cO:=d.rowC (i:=19) rfl
 have aj:=d.pb [0,1,2]
 have ak:=eO G I J K L u y z aj
 have au:=ak.pb [0]
 exact⟨_,rfl,bH,bI,bJ,rfl,au,F⟩
set_option maxHeartbeats 4000000 in
theorem vD (w:World) (D:Nat→Prop) (g0:Nat) (S:bQ) (m:Option Addr) (n:Nat) (f:List bA) (a:bP) (o:Option Addr) (B g:Nat) (p:Option Addr) (C h:Nat) (j:List af) (q:Option Addr) (E k:Nat) (e:Nat) (b:aC) (T:bQ) (r1:aC) (H:Own w D w [blk g0 [.pointer (some ⟨e,0,none⟩), .slice m S.bE.ls.length n] 98,row m S.bE.ls.length n (List.flatMap bA.cells f) 42 21,sepL (List.flatMap bA.own f),iF e b]) (r:List.map bA.abs f=S.bE.ls) (M:B=a.aD.ls.length) (N:Ro w D fun w'=>bD w' 6 o a.aD.ls.length (List.flatMap bC.cells a.aD.ls)) (aD:a.aD.ls.length≤g∧a.aD.ls.length≤9223372036854775807) (s:List.map af.abs j=a.ah.ls) (O:C=a.ah.ls.length) (P:Ro w D fun w'=>bD w' 3 p a.ah.ls.length (List.flatMap af.cells j)) (aF:a.ah.ls.length≤h∧a.ah.ls.length≤9223372036854775807) (t:∀ x ∈ j,Ro w D (fun w'=>bD w' 2 x.av.A x.av.ls.length (List.flatMap aL.cells x.av.ls))∧(x.av.ls.length≤x.av.c∧x.av.ls.length≤9223372036854775807)) (Q:E=a.ag.ls.length) (R:Ro w D fun w'=>bD w' 2 q a.ag.ls.length (List.flatMap bv.cells a.ag.ls)) (aG:a.ag.ls.length≤k∧a.ag.ls.length≤9223372036854775807) (dw:b.aa.ag.ls.length≤1000∧b.aa.aj.ls.length≤1000∧b.aa.aG.ls.length≤1000∧b.aB.ls.length≤1000∧S.bE.ls.length≤100000) (dx:Ak b.aB.ls) (dz:a.aD.ls.length≤24∧a.ag.ls.length≤1000∧a.ah.ls.length≤1000∧jh a.aU) (dA:mK a.ah.ls) (hr:kY S a b=(T,r1)):
    Calls Tryz.prog 57 #[vP g0 0, .agg (gN a.aI a.aJ a.eU a.aQ a.dz a.dL a.aU a.ay a.bf a.cz a.aY a.aH a.dG a.bT a.xN a.dI a.bO.bJ a.bO.bW o B g p C h q E k).toArray] w (dW fun v w'=> ∃ (B0ox0:Option Addr) (b0ox0:Nat) (e0ox0:List bA),v= .tuple #[]∧Own w D w' [blk g0 [vP e 0, .slice B0ox0 T.bE.ls.length b0ox0] 98,row B0ox0 T.bE.ls.length b0ox0 (List.flatMap bA.cells e0ox0) 42 21,sepL (List.flatMap bA.own e0ox0),iF e r1]∧(List.map bA.abs e0ox0=T.bE.ls)):=by
 subst M O Q
 have ay:=aA r
 have az:=aA s
 have aH:=H.rowC (i:=1) rfl
 have aI:=H.pf [3]
 obtain⟨aJ,aK,aM,aN,aO,aP,aQ,aR,aS,aT,aU,aV,aW,aX,aY,aZ,bf,bg,bi,bn,bq,bu,bz,bB,bE,bF,U,V,W,X,Y,Z,aa,ae,cZ,bG⟩:=jK aI
 have bH:=bG.px [18,19,20] [] [1]
 obtain⟨dB,ag,l,ah,df⟩:=Gx bH
 refine(vz _ _ g0 S m n f a o a.aD.ls.length g p a.ah.ls.length h j q a.ag.ls.length k e b aJ aK aM aN aO aP aQ aR aS aT aU aV aW aX aY aZ bf bg bi bn bq bu bz bB bE bF T r1 ag r rfl (l _ N) (show a.aD.ls.length≤g∧a.aD.ls.length≤9223372036854775807 from by omega) s rfl (l _ P) (show a.ah.ls.length≤h∧a.ah.ls.length≤9223372036854775807 from by omega) (fun x9 h9=>⟨l _ (t x9 h9).1,(t x9 h9).2⟩) rfl (l _ R) (show a.ag.ls.length≤k∧a.ag.ls.length≤9223372036854775807 from by omega) U V W X Y Z aa ae (by first | omega | (dsimp only; omega) | (simp only [List.length_nil]; omega) | decide) (by first | assumption | exact Mk.act (by assumption)) (by first | omega | (dsimp only; omega) | (simp only [List.length_nil]; omega) | decide) (by assumption) hr).mono ?_
 rintro _ dC ⟨_,rfl,bI,bJ,bK,dD,dE,dF,dG,dH,dI,dJ,dK,dL,dM,dN,dO,dP,dQ,dR,dS,dU,dV,dX,dY,dm,dZ,d9,dn,rfl,ai,F,G,I,J,K,L,u,y,z⟩
 have d:=ah _ _ ai
 have bL:=aA F
 have bM:=aA G
 have bN:=aA I
 have bO:=aA J
 have bR:=aA K
 have bS:=aA L
 have bT:=aA u
 have bU:=aA y
 have bV:=aA z
 have bW:=d.rowC (i:=1) rfl
 have bX:=d.rowC (i:=4) rfl
 have bY:=d.rowC (i:=6) rfl
 have bZ:=d.rowC (i:=8) rfl
 have cu:=d.rowC (i:=10) rfl
 have cz:=d.rowC (i:=12) rfl
 have cB:=d.rowC (i:=14) rfl
 have cK:=d.rowC (i:=16) rfl
 have cO:=d.rowC (i:=18) rfl
 have aj:=d.px [3,20] [] [0,1,2]
 have ak:=eO G I J K L u y z aj
 have au:=xU (zD (ym hr).1.own rfl rfl rfl rfl rfl rfl rfl rfl) ak
 have av:=au.pb [0]
 exact⟨_,rfl,bI,bJ,bK,rfl,av,F⟩
set_option maxHeartbeats 4000000 in
theorem vY (w:World) (D:Nat→Prop) (Y:Nat) (L:bQ) (l:Option Addr) (m:Nat) (e:List bA) (a:bP) (n:Option Addr) (t f:Nat) (o:Option Addr) (u g:Nat) (h:List af) (p:Option Addr) (y j:Nat) (d:Nat) (b:aC) (M:bQ) (r1:aC) (H:Own w D w [blk Y [.pointer (some ⟨d,0,none⟩), .slice l L.bE.ls.length m] 98,row l L.bE.ls.length m (List.flatMap bA.cells e) 42 21,sepL (List.flatMap bA.own e),iF d b]) (q:List.map bA.abs e=L.bE.ls) (C:t=a.aD.ls.length) (E:Ro w D fun w'=>bD w' 6 n a.aD.ls.length (List.flatMap bC.cells a.aD.ls)) (ag:a.aD.ls.length≤f∧a.aD.ls.length≤9223372036854775807) (r:List.map af.abs h=a.ah.ls) (F:u=a.ah.ls.length) (G:Ro w D fun w'=>bD w' 3 o a.ah.ls.length (List.flatMap af.cells h)) (ah:a.ah.ls.length≤g∧a.ah.ls.length≤9223372036854775807) (s:∀ x ∈ h,Ro w D (fun w'=>bD w' 2 x.av.A x.av.ls.length (List.flatMap aL.cells x.av.ls))∧(x.av.ls.length≤x.av.c∧x.av.ls.length≤9223372036854775807)) (I:y=a.ag.ls.length) (J:Ro w D fun w'=>bD w' 2 p a.ag.ls.length (List.flatMap bv.cells a.ag.ls)) (ai:a.ag.ls.length≤j∧a.ag.ls.length≤9223372036854775807) (bF:b.aa.ag.ls.length≤1000∧b.aa.aj.ls.length≤1000∧b.aa.aG.ls.length≤1000∧b.aB.ls.length≤1000∧L.bE.ls.length≤100000) (bG:Dk b.aa.aj.ls) (hr:lG L a b=(M,r1)):
    Calls Tryz.prog 58 #[vP Y 0, .agg (gN a.aI a.aJ a.eU a.aQ a.dz a.dL a.aU a.ay a.bf a.cz a.aY a.aH a.dG a.bT a.xN a.dI a.bO.bJ a.bO.bW n t f o u g p y j).toArray] w (dW fun v w'=> ∃ (B0ox0:Option Addr) (b0ox0:Nat) (e0ox0:List bA),v= .tuple #[]∧Own w D w' [blk Y [vP d 0, .slice B0ox0 M.bE.ls.length b0ox0] 98,row B0ox0 M.bE.ls.length b0ox0 (List.flatMap bA.cells e0ox0) 42 21,sepL (List.flatMap bA.own e0ox0),iF d r1]∧(List.map bA.abs e0ox0=M.bE.ls)):=by
 subst C F I
 have Z:=aA q
 have aa:=aA r
 have aj:=H.rowC (i:=1) rfl
 have ak:=H.pf [3]
 obtain⟨au,av,ax,ay,az,aB,aD,bH,aF,aG,bI,aH,aI,bJ,aJ,aK,bK,aM,aN,bL,aO,aP,bM,aQ,aR,bN,N,O,P,Q,R,S,T,U,bg,aS⟩:=jK ak
 have aT:=aS.pf [18,19,20,0,2,3]
 obtain⟨bO,V,k,W,bi⟩:=Hy aT
 refine(vX _ _ Y L l m e a n a.aD.ls.length f o a.ah.ls.length g h p a.ag.ls.length j d b au av ax ay az aB aD aF aG aH aI aJ aK aM aN aO aP aQ aR M r1 V q rfl (k _ E) (show a.aD.ls.length≤f∧a.aD.ls.length≤9223372036854775807 from by omega) r rfl (k _ G) (show a.ah.ls.length≤g∧a.ah.ls.length≤9223372036854775807 from by omega) (fun x9 h9=>⟨k _ (s x9 h9).1,(s x9 h9).2⟩) rfl (k _ J) (show a.ag.ls.length≤j∧a.ag.ls.length≤9223372036854775807 from by omega) N (by first | omega | (dsimp only; omega) | (simp only [List.length_nil]; omega) | decide) (by first | assumption | exact Mk.dec (by assumption)) hr).mono ?_
 rintro _ bR ⟨_,rfl,aU,aV,aW,bS,bT,bU,rfl,X,z,B⟩
 have K:=W _ _ X
 have bu:=aA z
 have bz:=aA B
 have bB:=K.rowC (i:=1) rfl
 have bE:=K.rowC (i:=4) rfl
 have aX:=K.px [3,6] [] [0,1,2]
 have aY:=eO B O P Q R S T U aX
 have aZ:=xU (zD (by obtain⟨⟨_,rfl⟩,_⟩:=nT hr; rfl) rfl (by obtain⟨⟨_,rfl⟩,_⟩:=nT hr; rfl) (by obtain⟨⟨_,rfl⟩,_⟩:=nT hr; rfl) (by obtain⟨⟨_,rfl⟩,_⟩:=nT hr; rfl) (by obtain⟨⟨_,rfl⟩,_⟩:=nT hr; rfl) (by obtain⟨⟨_,rfl⟩,_⟩:=nT hr; rfl) (by obtain⟨⟨_,rfl⟩,_⟩:=nT hr; rfl) (by obtain⟨⟨_,rfl⟩,_⟩:=nT hr; rfl)) aY
 have bf:=aZ.pb [0]
 exact⟨_,rfl,aU,aV,aW,rfl,bf,z⟩
set_option maxHeartbeats 4000000 in
theorem vZ (w:World) (D:Nat→Prop) (g0:Nat) (R:bQ) (p:Option Addr) (q:Nat) (j:List bA) (a:bP) (r:Option Addr) (E k:Nat) (s:Option Addr) (F l:Nat) (m:List af) (t:Option Addr) (G n:Nat) (h:Nat) (b:aC) (S:bQ) (H:Own w D w [blk g0 [.pointer (some ⟨h,0,none⟩), .slice p R.bE.ls.length q] 98,row p R.bE.ls.length q (List.flatMap bA.cells j) 42 21,sepL (List.flatMap bA.own j),iF h b]) (u:List.map bA.abs j=R.bE.ls) (L:E=a.aD.ls.length) (M:Ro w D fun w'=>bD w' 6 r a.aD.ls.length (List.flatMap bC.cells a.aD.ls)) (av:a.aD.ls.length≤k∧a.aD.ls.length≤9223372036854775807) (y:List.map af.abs m=a.ah.ls) (N:F=a.ah.ls.length) (O:Ro w D fun w'=>bD w' 3 s a.ah.ls.length (List.flatMap af.cells m)) (ay:a.ah.ls.length≤l∧a.ah.ls.length≤9223372036854775807) (z:∀ x ∈ m,Ro w D (fun w'=>bD w' 2 x.av.A x.av.ls.length (List.flatMap aL.cells x.av.ls))∧(x.av.ls.length≤x.av.c∧x.av.ls.length≤9223372036854775807)) (P:G=a.ag.ls.length) (Q:Ro w D fun w'=>bD w' 2 t a.ag.ls.length (List.flatMap bv.cells a.ag.ls)) (az:a.ag.ls.length≤n∧a.ag.ls.length≤9223372036854775807) (bK:b.aa.ag.ls.length≤1000∧b.aa.aj.ls.length≤1000∧b.aa.aG.ls.length≤1000∧b.aB.ls.length≤1000∧R.bE.ls.length≤100000) (hr:mo R a b=S):
    Calls Tryz.prog 59 #[vP g0 0, .agg (gN a.aI a.aJ a.eU a.aQ a.dz a.dL a.aU a.ay a.bf a.cz a.aY a.aH a.dG a.bT a.xN a.dI a.bO.bJ a.bO.bW r E k s F l t G n).toArray] w (dW fun v w'=> ∃ (B0ox0:Option Addr) (b0ox0:Nat) (e0ox0:List bA),v= .tuple #[]∧Own w D w' [blk g0 [vP h 0, .slice B0ox0 S.bE.ls.length b0ox0] 98,row B0ox0 S.bE.ls.length b0ox0 (List.flatMap bA.cells e0ox0) 42 21,sepL (List.flatMap bA.own e0ox0),iF h b]∧(List.map bA.abs e0ox0=S.bE.ls)):=by
 subst L N P
 have ak:=aA u
 have au:=aA y
 have aB:=H.rowC (i:=1) rfl
 have aD:=H.pf [3]
 obtain⟨aF,aG,aH,T,aI,aJ,aK,bL,aM,U,aN,aO,aP,bM,aQ,aR,bN,aS,aU,bO,aV,aW,bR,aX,aY,bS,I,V,J,W,X,Y,Z,aa,bE,aZ⟩:=jK aD
 have e:=aZ.pf [18,19,20]
 have bF:=e.rowC (i:=5) rfl
 have bG:=e.rowC (i:=9) rfl
 obtain⟨bT,ae,o,ag,d⟩:=FL e
 refine(vW _ _ g0 R p q j a r a.aD.ls.length k s a.ah.ls.length l m t a.ag.ls.length n h b aF aG aH T aI aJ aK aM U aN aO aP aQ aR aS aU aV aW aX aY S ae u rfl (o _ M) (show a.aD.ls.length≤k∧a.aD.ls.length≤9223372036854775807 from by omega) y rfl (o _ O) (show a.ah.ls.length≤l∧a.ah.ls.length≤9223372036854775807 from by omega) (fun f g=>⟨o _ (z f g).1,(z f g).2⟩) rfl (o _ Q) (show a.ag.ls.length≤n∧a.ag.ls.length≤9223372036854775807 from by omega) I (d _ 1 _ rfl aT) (show b.aa.aj.ls.length≤T∧b.aa.aj.ls.length≤9223372036854775807 from by omega) (fun f g=>⟨d _ 2 _ rfl (ax (List.mem_flatMap.2 ⟨f,g, .head _⟩) aT),bz (φ:=fun _=>_) e (i:=6) rfl (ax (List.mem_flatMap.2 ⟨f,g, .head _⟩) bn)⟩) J (d _ 5 _ rfl aT) (show b.aB.ls.length≤U∧b.aB.ls.length≤9223372036854775807 from by omega) (fun f g=>⟨d _ 6 _ rfl (ax (List.mem_flatMap.2 ⟨f,g, .head _⟩) aT),bz (φ:=fun _=>_) e (i:=10) rfl (ax (List.mem_flatMap.2 ⟨f,g, .head _⟩) bn),d _ 6 _ rfl (ax (List.mem_flatMap.2 ⟨f,g, .tail _ (.head _)⟩) aT),bz (φ:=fun _=>_) e (i:=10) rfl (ax (List.mem_flatMap.2 ⟨f,g, .tail _ (.head _)⟩) bn),(fun B C=>⟨d _ 6 _ rfl (ax (List.mem_flatMap.2 ⟨f,g, .tail _ (.tail _ (.tail _ (.tail _ (.head _))))⟩) (ax (List.mem_flatMap.2 ⟨B,C, .head _⟩) aT)),bz (φ:=fun _=>_) e (i:=10) rfl (ax (List.mem_flatMap.2 ⟨f,g, .tail _ (.tail _ (.tail _ (.tail _ (.head _))))⟩) (ax (List.mem_flatMap.2 ⟨B,C, .head _⟩) bn)),d _ 6 _ rfl (ax (List.mem_flatMap.2 ⟨f,g, .tail _ (.tail _ (.tail _ (.tail _ (.head _))))⟩) (ax (List.mem_flatMap.2 ⟨B,C, .tail _ (.head _)⟩) aT)),bz (φ:=fun _=>_) e (i:=10) rfl (ax (List.mem_flatMap.2 ⟨f,g, .tail _ (.tail _ (.tail _ (.tail _ (.head _))))⟩) (ax (List.mem_flatMap.2 ⟨B,C, .tail _ (.head _)⟩) bn))⟩),d _ 6 _ rfl (ax (List.mem_flatMap.2 ⟨f,g, .tail _ (.tail _ (.head _))⟩) aT),bz (φ:=fun _=>_) e (i:=10) rfl (ax (List.mem_flatMap.2 ⟨f,g, .tail _ (.tail _ (.head _))⟩) bn),d _ 6 _ rfl (ax (List.mem_flatMap.2 ⟨f,g, .tail _ (.tail _ (.tail _ (.head _)))⟩) aT),bz (φ:=fun _=>_) e (i:=10) rfl (ax (List.mem_flatMap.2 ⟨f,g, .tail _ (.tail _ (.tail _ (.head _)))⟩) bn),(fun B C=>⟨d _ 6 _ rfl (ax (List.mem_flatMap.2 ⟨f,g, .tail _ (.tail _ (.tail _ (.tail _ (.tail _ (.head _)))))⟩) (ax (List.mem_flatMap.2 ⟨B,C, .head _⟩) aT)),bz (φ:=fun _=>_) e (i:=10) rfl (ax (List.mem_flatMap.2 ⟨f,g, .tail _ (.tail _ (.tail _ (.tail _ (.tail _ (.head _)))))⟩) (ax (List.mem_flatMap.2 ⟨B,C, .head _⟩) bn)),(fun y2 k2=>⟨d _ 6 _ rfl (ax (List.mem_flatMap.2 ⟨f,g, .tail _ (.tail _ (.tail _ (.tail _ (.tail _ (.head _)))))⟩) (ax (List.mem_flatMap.2 ⟨B,C, .tail _ (.head _)⟩) (ax (List.mem_flatMap.2 ⟨y2,k2, .head _⟩) aT))),bz (φ:=fun _=>_) e (i:=10) rfl (ax (List.mem_flatMap.2 ⟨f,g, .tail _ (.tail _ (.tail _ (.tail _ (.tail _ (.head _)))))⟩) (ax (List.mem_flatMap.2 ⟨B,C, .tail _ (.head _)⟩) (ax (List.mem_flatMap.2 ⟨y2,k2, .head _⟩) bn)))⟩)⟩)⟩) (by first | omega | (dsimp only; omega) | (simp only [List.length_nil]; omega) | decide) hr).mono ?_
 rintro _ bU ⟨_,rfl,bf,bg,bi,rfl,ah,K⟩
 have ai:=ag _ _ ah
 have bI:=aA K
 have bJ:=ai.rowC (i:=1) rfl
 have bq:=ai.pb [0,1,2]
 have bu:=eO I V J W X Y Z aa bq
 have bB:=bu.pb [0]
 exact⟨_,rfl,bf,bg,bi,rfl,bB,K⟩
set_option maxHeartbeats 4000000 in
theorem vE (w:World) (D:Nat→Prop) (N:Nat) (s:bQ) (e:Option Addr) (f:Nat) (d:List bA) (P:Nat) (b:Nat) (a:aC) (t:bQ) (Q:aC) (H:Own w D w [blk N [.pointer (some ⟨b,0,none⟩), .slice e s.bE.ls.length f] 98,row e s.bE.ls.length f (List.flatMap bA.cells d) 42 21,sepL (List.flatMap bA.own d),iF b a]) (g:List.map bA.abs d=s.bE.ls) (bC:a.aa.ag.ls.length≤1000∧a.aa.aj.ls.length≤1000∧a.aa.aG.ls.length≤1000∧a.aB.ls.length≤1000∧s.bE.ls.length≤100000) (bD:Ak a.aB.ls) (hr:kF s P a=(t,Q)):
    Calls Tryz.prog 26 #[vP N 0,vU P] w (dW fun v w'=> ∃ (B0ox0:Option Addr) (b0ox0:Nat) (e0ox0:List bA),v= .tuple #[]∧Own w D w' [blk N [vP b 0, .slice B0ox0 t.bE.ls.length b0ox0] 98,row B0ox0 t.bE.ls.length b0ox0 (List.flatMap bA.cells e0ox0) 42 21,sepL (List.flatMap bA.own e0ox0),iF b Q]∧(List.map bA.abs e0ox0=t.bE.ls)):=by
 have O:=aA g
 have R:=H.rowC (i:=1) rfl
 have S:=H.pf [3]
 obtain⟨T,U,V,u,W,X,Y,bE,Z,aa,ae,af,ag,ah,ai,aj,ak,au,av,ay,az,aB,aD,aF,aG,aH,j,x,y,z,A,B,C,E,bg,aI⟩:=jK S
 have r:=aI.px [18,19,20] [] [1,2,3,4,5]
 have bi:=r.rowC (i:=17) rfl
 obtain⟨bF,F,bq,G,k⟩:=FY r
 refine(vB _ _ N s e f d P b a T U V u W X Y Z aa ae af ag ah ai aj ak au av ay az aB aD aF aG aH t Q F g j (k _ 1 _ rfl aT) (show a.aa.aj.ls.length≤u∧a.aa.aj.ls.length≤9223372036854775807 from by omega) (fun x9 h9=>⟨k _ 2 _ rfl (ax (List.mem_flatMap.2 ⟨x9,h9, .head _⟩) aT),bz (φ:=fun _=>_) r (i:=18) rfl (ax (List.mem_flatMap.2 ⟨x9,h9, .head _⟩) bn)⟩) y z A B C E (by first | omega | (dsimp only; omega) | (simp only [List.length_nil]; omega) | decide) (by first | assumption | exact Mk.act (by assumption)) hr).mono ?_
 rintro _ bG ⟨_,rfl,aJ,aK,aL,bH,bI,bJ,bK,bL,bM,bN,bO,bP,bR,bS,bT,bU,bV,bW,bX,bY,bB,rfl,I,l,m,n,o,p,q,h⟩
 have c:=G _ _ I
 have aM:=aA l
 have aN:=aA m
 have aO:=aA n
 have aP:=aA o
 have aQ:=aA p
 have aR:=aA q
 have aS:=aA h
 have aU:=c.rowC (i:=1) rfl
 have aV:=c.rowC (i:=4) rfl
 have aW:=c.rowC (i:=6) rfl
 have aX:=c.rowC (i:=8) rfl
 have aY:=c.rowC (i:=10) rfl
 have aZ:=c.rowC (i:=12) rfl
 have bf:=c.rowC (i:=14) rfl
 have J:=c.px [3,16,17,18,19,20] [] [0,1,2]
 have K:=eO j x m n o p q h J
 have L:=xU (zD (by rw [(qZ hr).1]) (by rw [(qZ hr).1]) (by rw [(qZ hr).1]) rfl rfl rfl rfl rfl rfl) K
 have M:=L.pb [0]
 exact⟨_,rfl,aJ,aK,aL,rfl,M,l⟩
end Go.Proofs.YtbkagebjhbphaaaGreat
