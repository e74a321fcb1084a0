/-
 coord: the machine as one thing.
-/
import Derived.Test.YtbkagebjhbphaaaGreatCoS
namespace Go.Proofs.YtbkagebjhbphaaaGreat
open List renaming flatMap→q6,map→s8,mem_flatMap→P2
open Ll renaming mk→E4
open _root_.Go.Proofs.Tryz renaming prog→y4
set_option maxRecDepth 100000
open Go.RowKit
set_option linter.unusedVariables false
set_option linter.unusedSectionVars false
set_option linter.unusedSimpArgs false
def iE (g:Nat) (m:aB):HP:=Ei (fun x:(Option Addr) × Nat × (Option Addr) × Nat × (List aA) × (Option Addr) × Nat × (List aT) × (Option Addr) × Nat × (List bz) × (Option Addr) × Nat × (List ae) × (Option Addr) × Nat × (List ae) × (Option Addr) × Nat × (List ae) × (Option Addr) × Nat × (List ae) × (Option Addr) × Nat × (List ae)=>s8 aA.abs x.2.2.2.2.1=m.aa.ak.ls∧s8 aT.abs x.2.2.2.2.2.2.2.1=m.aa.aJ.ls∧s8 bz.abs x.2.2.2.2.2.2.2.2.2.2.1=m.au.ls∧s8 ae.abs x.2.2.2.2.2.2.2.2.2.2.2.2.2.1=m.bH.af.ls∧s8 ae.abs x.2.2.2.2.2.2.2.2.2.2.2.2.2.2.2.2.1=m.bf.af.ls∧s8 ae.abs x.2.2.2.2.2.2.2.2.2.2.2.2.2.2.2.2.2.2.2.1=m.bi.af.ls∧s8 ae.abs x.2.2.2.2.2.2.2.2.2.2.2.2.2.2.2.2.2.2.2.2.2.2.1=m.bn.af.ls∧s8 ae.abs x.2.2.2.2.2.2.2.2.2.2.2.2.2.2.2.2.2.2.2.2.2.2.2.2.2=m.aZ.af.ls) (fun x=> [mK g m x.1 m.aa.ag.ls.length x.2.1 x.2.2.1 x.2.2.2.1 x.2.2.2.2.2.1 x.2.2.2.2.2.2.1 x.2.2.2.2.2.2.2.2.1 x.2.2.2.2.2.2.2.2.2.1 x.2.2.2.2.2.2.2.2.2.2.2.1 x.2.2.2.2.2.2.2.2.2.2.2.2.1 x.2.2.2.2.2.2.2.2.2.2.2.2.2.2.1 x.2.2.2.2.2.2.2.2.2.2.2.2.2.2.2.1 x.2.2.2.2.2.2.2.2.2.2.2.2.2.2.2.2.2.1 x.2.2.2.2.2.2.2.2.2.2.2.2.2.2.2.2.2.2.1 x.2.2.2.2.2.2.2.2.2.2.2.2.2.2.2.2.2.2.2.2.1 x.2.2.2.2.2.2.2.2.2.2.2.2.2.2.2.2.2.2.2.2.2.1 x.2.2.2.2.2.2.2.2.2.2.2.2.2.2.2.2.2.2.2.2.2.2.2.1 x.2.2.2.2.2.2.2.2.2.2.2.2.2.2.2.2.2.2.2.2.2.2.2.2.1,row x.1 m.aa.ag.ls.length x.2.1 (q6 aW.cells m.aa.ag.ls) 89 2,row x.2.2.1 m.aa.ak.ls.length x.2.2.2.1 (q6 aA.cells x.2.2.2.2.1) 60 5,sepL (q6 aA.own x.2.2.2.2.1),row x.2.2.2.2.2.1 m.aa.aJ.ls.length x.2.2.2.2.2.2.1 (q6 aT.cells x.2.2.2.2.2.2.2.1) 56 4,sepL (q6 aT.own x.2.2.2.2.2.2.2.1),row x.2.2.2.2.2.2.2.2.1 m.au.ls.length x.2.2.2.2.2.2.2.2.2.1 (q6 bz.cells x.2.2.2.2.2.2.2.2.2.2.1) 107 9,sepL (q6 bz.own x.2.2.2.2.2.2.2.2.2.2.1),row x.2.2.2.2.2.2.2.2.2.2.2.1 m.bH.af.ls.length x.2.2.2.2.2.2.2.2.2.2.2.2.1 (q6 ae.cells x.2.2.2.2.2.2.2.2.2.2.2.2.2.1) 149 3,sepL (q6 ae.own x.2.2.2.2.2.2.2.2.2.2.2.2.2.1),row x.2.2.2.2.2.2.2.2.2.2.2.2.2.2.1 m.bf.af.ls.length x.2.2.2.2.2.2.2.2.2.2.2.2.2.2.2.1 (q6 ae.cells x.2.2.2.2.2.2.2.2.2.2.2.2.2.2.2.2.1) 149 3,sepL (q6 ae.own x.2.2.2.2.2.2.2.2.2.2.2.2.2.2.2.2.1),row x.2.2.2.2.2.2.2.2.2.2.2.2.2.2.2.2.2.1 m.bi.af.ls.length x.2.2.2.2.2.2.2.2.2.2.2.2.2.2.2.2.2.2.1 (q6 ae.cells x.2.2.2.2.2.2.2.2.2.2.2.2.2.2.2.2.2.2.2.1) 149 3,sepL (q6 ae.own x.2.2.2.2.2.2.2.2.2.2.2.2.2.2.2.2.2.2.2.1),row x.2.2.2.2.2.2.2.2.2.2.2.2.2.2.2.2.2.2.2.2.1 m.bn.af.ls.length x.2.2.2.2.2.2.2.2.2.2.2.2.2.2.2.2.2.2.2.2.2.1 (q6 ae.cells x.2.2.2.2.2.2.2.2.2.2.2.2.2.2.2.2.2.2.2.2.2.2.1) 149 3,sepL (q6 ae.own x.2.2.2.2.2.2.2.2.2.2.2.2.2.2.2.2.2.2.2.2.2.2.1),row x.2.2.2.2.2.2.2.2.2.2.2.2.2.2.2.2.2.2.2.2.2.2.2.1 m.aZ.af.ls.length x.2.2.2.2.2.2.2.2.2.2.2.2.2.2.2.2.2.2.2.2.2.2.2.2.1 (q6 ae.cells x.2.2.2.2.2.2.2.2.2.2.2.2.2.2.2.2.2.2.2.2.2.2.2.2.2) 149 3,sepL (q6 ae.own x.2.2.2.2.2.2.2.2.2.2.2.2.2.2.2.2.2.2.2.2.2.2.2.2.2)])
theorem ji {w0 w:World} {D:Nat→Prop} {L:List HP} {g:Nat} {m:aB} (H:Own w0 D w (iE g m::L)):∃ (u:Option Addr) (a:Nat) (v:Option Addr) (b:Nat) (c:List aA) (x:Option Addr) (d:Nat) (e:List aT) (y:Option Addr) (f:Nat) (h:List bz) (z:Option Addr) (j:Nat) (k:List ae) (A:Option Addr) (l:Nat) (n:List ae) (B:Option Addr) (o:Nat) (p:List ae) (C:Option Addr) (q:Nat) (r:List ae) (E:Option Addr) (s:Nat) (t:List ae),s8 aA.abs c=m.aa.ak.ls∧s8 aT.abs e=m.aa.aJ.ls∧s8 bz.abs h=m.au.ls∧s8 ae.abs k=m.bH.af.ls∧s8 ae.abs n=m.bf.af.ls∧s8 ae.abs p=m.bi.af.ls∧s8 ae.abs r=m.bn.af.ls∧s8 ae.abs t=m.aZ.af.ls∧(c.length=m.aa.ak.ls.length∧e.length=m.aa.aJ.ls.length∧h.length=m.au.ls.length∧k.length=m.bH.af.ls.length∧n.length=m.bf.af.ls.length∧p.length=m.bi.af.ls.length∧r.length=m.bn.af.ls.length∧t.length=m.aZ.af.ls.length∧(m.aa.ag.ls.length≤a∧a≤9223372036854775807)∧(m.aa.ak.ls.length≤b∧b≤9223372036854775807)∧(m.aa.aJ.ls.length≤d∧d≤9223372036854775807)∧(m.au.ls.length≤f∧f≤9223372036854775807)∧(m.bH.af.ls.length≤j∧j≤9223372036854775807)∧(m.bf.af.ls.length≤l∧l≤9223372036854775807)∧(m.bi.af.ls.length≤o∧o≤9223372036854775807)∧(m.bn.af.ls.length≤q∧q≤9223372036854775807)∧(m.aZ.af.ls.length≤s∧s≤9223372036854775807))∧Own w0 D w (mK g m u m.aa.ag.ls.length a v b x d y f z j A l B o C q E s::row u m.aa.ag.ls.length a (q6 aW.cells m.aa.ag.ls) 89 2::row v m.aa.ak.ls.length b (q6 aA.cells c) 60 5::sepL (q6 aA.own c)::row x m.aa.aJ.ls.length d (q6 aT.cells e) 56 4::sepL (q6 aT.own e)::row y m.au.ls.length f (q6 bz.cells h) 107 9::sepL (q6 bz.own h)::row z m.bH.af.ls.length j (q6 ae.cells k) 149 3::sepL (q6 ae.own k)::row A m.bf.af.ls.length l (q6 ae.cells n) 149 3::sepL (q6 ae.own n)::row B m.bi.af.ls.length o (q6 ae.cells p) 149 3::sepL (q6 ae.own p)::row C m.bn.af.ls.length q (q6 ae.cells r) 149 3::sepL (q6 ae.own r)::row E m.aZ.af.ls.length s (q6 ae.cells t) 149 3::sepL (q6 ae.own t)::L):=by
 obtain⟨⟨u,a,v,b,c,x,d,e,y,f,h,z,j,k,A,l,n,B,o,p,C,q,r,E,s,t⟩,⟨F,G,I,J,K,M,N,O⟩,H⟩:=I4 H
 have H:Own w0 D w (mK g m u m.aa.ag.ls.length a v b x d y f z j A l B o C q E s::row u m.aa.ag.ls.length a (q6 aW.cells m.aa.ag.ls) 89 2::row v m.aa.ak.ls.length b (q6 aA.cells c) 60 5::sepL (q6 aA.own c)::row x m.aa.aJ.ls.length d (q6 aT.cells e) 56 4::sepL (q6 aT.own e)::row y m.au.ls.length f (q6 bz.cells h) 107 9::sepL (q6 bz.own h)::row z m.bH.af.ls.length j (q6 ae.cells k) 149 3::sepL (q6 ae.own k)::row A m.bf.af.ls.length l (q6 ae.cells n) 149 3::sepL (q6 ae.own n)::row B m.bi.af.ls.length o (q6 ae.cells p) 149 3::sepL (q6 ae.own p)::row C m.bn.af.ls.length q (q6 ae.cells r) 149 3::sepL (q6 ae.own r)::row E m.aZ.af.ls.length s (q6 ae.cells t) 149 3::sepL (q6 ae.own t)::L):=H
 refine⟨u,a,v,b,c,x,d,e,y,f,h,z,j,k,A,l,n,B,o,p,C,q,r,E,s,t,F,G,I,J,K,M,N,O,⟨az F,az G,az I,az J,az K,az M,az N,az O,H.rowC (i:=1) rfl,H.rowC (i:=2) rfl,H.rowC (i:=4) rfl,H.rowC (i:=6) rfl,H.rowC (i:=8) rfl,H.rowC (i:=10) rfl,H.rowC (i:=12) rfl,H.rowC (i:=14) rfl,H.rowC (i:=16) rfl⟩,H⟩
theorem fA {w0 w:World} {D:Nat→Prop} {L:List HP} {g:Nat} {y0:Int} {y1:Nat} {y2:Nat} {y3:Nat} {f:List aW} {B:List bJ} {C:List fE} {y7:Nat} {E:List dD} {y9:Bool} {h:Nat} {i:Int} {a:List aS} {j:Bool} {k:Nat} {l:Int} {b:List aS} {m:Bool} {n:Nat} {o:Int} {c:List aS} {p:Bool} {q:Nat} {r:Int} {d:List aS} {s:Bool} {t:Nat} {u:Int} {e:List aS} {v:Nat} {x:Nat} {y:Nat} {z:Nat} {A:Nat} {P:Option Addr} {Q:Nat} {R:Option Addr} {S:Nat} {F:List aA} {T:Option Addr} {U:Nat} {G:List aT} {V:Option Addr} {W:Nat} {I:List bz} {X:Option Addr} {Y:Nat} {J:List ae} {Z:Option Addr} {c5:Nat} {K:List ae} {A6:Option Addr} {c6:Nat} {M:List ae} {A7:Option Addr} {c7:Nat} {N:List ae} {A8:Option Addr} {c8:Nat} {O:List ae} (aD:s8 aA.abs F=B) (aF:s8 aT.abs G=C) (aG:s8 bz.abs I=E) (aH:s8 ae.abs J=a) (aI:s8 ae.abs K=b) (aJ:s8 ae.abs M=c) (aK:s8 ae.abs N=d) (aL:s8 ae.abs O=e) (H:Own w0 D w (blk g [.int .i64 y0, .int .u64 ((y1:Nat):Int), .int .u64 ((y2:Nat):Int), .int .u64 ((y3:Nat):Int), .slice P f.length Q, .slice R B.length S, .slice T C.length U, .int .u64 ((y7:Nat):Int), .slice V E.length W, .bool y9, .int .u64 ((h:Nat):Int), .int .i64 i, .slice X a.length Y, .bool j, .int .u64 ((k:Nat):Int), .int .i64 l, .slice Z b.length c5, .bool m, .int .u64 ((n:Nat):Int), .int .i64 o, .slice A6 c.length c6, .bool p, .int .u64 ((q:Nat):Int), .int .i64 r, .slice A7 d.length c7, .bool s, .int .u64 ((t:Nat):Int), .int .i64 u, .slice A8 e.length c8, .int .u64 ((v:Nat):Int), .int .u64 ((x:Nat):Int), .int .u64 ((y:Nat):Int), .int .u64 ((z:Nat):Int), .int .u64 ((A:Nat):Int), .pointer none] 86::row P f.length Q (q6 aW.cells f) 89 2::row R B.length S (q6 aA.cells F) 60 5::sepL (q6 aA.own F)::row T C.length U (q6 aT.cells G) 56 4::sepL (q6 aT.own G)::row V E.length W (q6 bz.cells I) 107 9::sepL (q6 bz.own I)::row X a.length Y (q6 ae.cells J) 149 3::sepL (q6 ae.own J)::row Z b.length c5 (q6 ae.cells K) 149 3::sepL (q6 ae.own K)::row A6 c.length c6 (q6 ae.cells M) 149 3::sepL (q6 ae.own M)::row A7 d.length c7 (q6 ae.cells N) 149 3::sepL (q6 ae.own N)::row A8 e.length c8 (q6 ae.cells O) 149 3::sepL (q6 ae.own O)::L)):Own w0 D w (iE g (aB.mk (di.mk y0 y1 y2 y3 (E4 f) (E4 B) (E4 C)) y7 (E4 E) (dX.mk y9 h i (E4 a)) (dX.mk j k l (E4 b)) (dX.mk m n o (E4 c)) (dX.mk p q r (E4 d)) (dX.mk s t u (E4 e)) v x y z A)::L):=
 I5 (P,Q,R,S,F,T,U,G,V,W,I,X,Y,J,Z,c5,K,A6,c6,M,A7,c7,N,A8,c8,O) ⟨aD,aF,aG,aH,aI,aJ,aK,aL⟩ (show Own w0 D w ([blk g [vI y0,vU y1,vU y2,vU y3, .slice P f.length Q, .slice R B.length S, .slice T C.length U,vU y7, .slice V E.length W, .bool y9,vU h,vI i, .slice X a.length Y, .bool j,vU k,vI l, .slice Z b.length c5, .bool m,vU n,vI o, .slice A6 c.length c6, .bool p,vU q,vI r, .slice A7 d.length c7, .bool s,vU t,vI u, .slice A8 e.length c8,vU v,vU x,vU y,vU z,vU A, .pointer none] 86,row P f.length Q (q6 aW.cells f) 89 2,row R B.length S (q6 aA.cells F) 60 5,sepL (q6 aA.own F),row T C.length U (q6 aT.cells G) 56 4,sepL (q6 aT.own G),row V E.length W (q6 bz.cells I) 107 9,sepL (q6 bz.own I),row X a.length Y (q6 ae.cells J) 149 3,sepL (q6 ae.own J),row Z b.length c5 (q6 ae.cells K) 149 3,sepL (q6 ae.own K),row A6 c.length c6 (q6 ae.cells M) 149 3,sepL (q6 ae.own M),row A7 d.length c7 (q6 ae.cells N) 149 3,sepL (q6 ae.own N),row A8 e.length c8 (q6 ae.cells O) 149 3,sepL (q6 ae.own O)]++L) from H)
theorem yF {w0 w:World} {D:Nat→Prop} {L:List HP} {g:Nat} {m r:aB} (e:m=r) (H:Own w0 D w (iE g m::L)):Own w0 D w (iE g r::L):=e ▸ H
theorem Ai {r:aB} {o:List aW} {d:List bJ} {l:List fE} {a:List dD} {b c e f g:List aS} (h:r.aa.ag.ls=o) (i:r.aa.ak.ls=d) (j:r.aa.aJ.ls=l) (k:r.au.ls=a) (m:r.bH.af.ls=b) (n:r.bf.af.ls=c) (k2:r.bi.af.ls=e) (p:r.bn.af.ls=f) (q:r.aZ.af.ls=g):
    aB.mk (di.mk r.aa.av r.aa.ay r.aa.aX r.aa.aL (E4 o) (E4 d) (E4 l)) r.bP (E4 a) (dX.mk r.bH.cB r.bH.aM r.bH.dw (E4 b)) (dX.mk r.bf.cB r.bf.aM r.bf.dw (E4 c)) (dX.mk r.bi.cB r.bi.aM r.bi.dw (E4 e)) (dX.mk r.bn.cB r.bn.aM r.bn.dw (E4 f)) (dX.mk r.aZ.cB r.aZ.aM r.aZ.dw (E4 g)) r.dI r.dz r.dB r.dA r.dC=r:=by
 subst h i j k m n k2 p q; rfl
set_option maxHeartbeats 4000000 in
theorem uw (w D g0) (V:bE) (n o g) (a:bM) (p F h q G j k r I l e) (b:aB) (W:bE) (r1:aB) (H:Own w D w [blk g0 [.pointer (some ⟨e,0,none⟩), .slice n V.bq.ls.length o] 98,row n V.bq.ls.length o (q6 bC.cells g) 42 21,sepL (q6 bC.own g),iE e b]) (s:s8 bC.abs g=V.bq.ls) (P:F=a.aF.ls.length) (Q:Ro w D fun w'=>bA w' 6 p a.aF.ls.length (q6 bv.cells a.aF.ls)) (aG:a.aF.ls.length≤h∧a.aF.ls.length≤9223372036854775807) (t:s8 ae.abs k=a.ah.ls) (R:G=a.ah.ls.length) (S:Ro w D fun w'=>bA w' 3 q a.ah.ls.length (q6 ae.cells k)) (aH:a.ah.ls.length≤j∧a.ah.ls.length≤9223372036854775807) (u:∀ x ∈ k,Ro w D (fun w'=>bA w' 2 x.aj.A x.aj.ls.length (q6 aI.cells x.aj.ls))∧(x.aj.ls.length≤x.aj.c∧x.aj.ls.length≤9223372036854775807)) (T:I=a.ag.ls.length) (U:Ro w D fun w'=>bA w' 2 r a.ag.ls.length (q6 aW.cells a.ag.ls)) (aJ:a.ag.ls.length≤l∧a.ag.ls.length≤9223372036854775807) (dA:b.aa.ag.ls.length≤1000∧b.aa.ak.ls.length≤1000∧b.aa.aJ.ls.length≤1000∧b.au.ls.length≤1000∧V.bq.ls.length≤100000) (dB:Mk b) (dC:b.bH.af.ls.length≤1000∧b.bf.af.ls.length≤1000∧b.bi.af.ls.length≤1000∧b.bn.af.ls.length≤1000∧b.aZ.af.ls.length≤1000) (dD:11≤a.aH∧a.aH≤14) (dE:a.aF.ls.length≤24∧a.ag.ls.length≤1000∧a.ah.ls.length≤1000∧jZ a.aO) (hr:iP V a b=(W,r1)):
    Calls y4 56 #[vP g0 0, .agg (gD a.aG a.aH a.eP a.aN a.cZ a.eu a.aO a.ay a.aU a.dW a.aX a.aL a.dH a.bZ a.xN a.d9 a.bT.bG a.bT.bU p F h q G j r I l).toArray] w (dR fun v w'=> ∃ y z f,v= .tuple #[]∧Own w D w' [blk g0 [vP e 0, .slice y W.bq.ls.length z] 98,row y W.bq.ls.length z (q6 bC.cells f) 42 21,sepL (q6 bC.own f),iE e r1]∧(s8 bC.abs f=W.bq.ls)):=by
 subst P R T
 have aC:=az s
 have aD:=az t
 have aK:=H.rowC (i:=1) rfl
 have aL:=H.pf [3]
 obtain⟨aM,aN,aO,aP,aQ,aR,aS,aT,aU,aV,aX,aY,aZ,bf,bg,bi,bn,bq,bu,bz,bB,bD,bF,bG,bH,bI,X,Y,Z,aa,af,ag,ah,ai,di,bJ⟩:=ji aL
 have bK:=bJ.pf [18,19,20]
 obtain⟨dF,aj,m,ak,dm⟩:=GK bK
 refine(ut _ _ g0 V n o g a p a.aF.ls.length h q a.ah.ls.length j k r a.ag.ls.length l e b aM aN aO aP aQ aR aS aT aU aV aX aY aZ bf bg bi bn bq bu bz bB bD bF bG bH bI W r1 aj s rfl (m _ Q) (show a.aF.ls.length≤h∧a.aF.ls.length≤9223372036854775807 from by omega) t rfl (m _ S) (show a.ah.ls.length≤j∧a.ah.ls.length≤9223372036854775807 from by omega) (fun x9 h9=>⟨m _ (u x9 h9).1,(u x9 h9).2⟩) rfl (m _ U) (show a.ag.ls.length≤l∧a.ag.ls.length≤9223372036854775807 from by omega) X Y Z aa af ag ah ai e8 f4 j9 e8 e8 hr).mono ?_
 rintro _ dG ⟨_,rfl,bL,bN,bO,dH,dI,dJ,dK,dL,dM,dN,dO,dP,dQ,dS,dU,dV,dW,dX,dY,dZ,d9,ed,ek,eu,eB,dx,eD,eF,dz,rfl,au,J,K,L,M,N,O,B,C,E⟩
 have d:=ak _ _ au
 have bP:=az J
 have bQ:=az K
 have bR:=az L
 have bS:=az M
 have bT:=az N
 have bU:=az O
 have bV:=az B
 have bW:=az C
 have bX:=az E
 have bY:=d.rowC (i:=1) rfl
 have bZ:=d.rowC (i:=4) rfl
 have cu:=d.rowC (i:=5) rfl
 have cz:=d.rowC (i:=7) rfl
 have cB:=d.rowC (i:=9) rfl
 have cK:=d.rowC (i:=11) rfl
 have cO:=d.rowC (i:=13) rfl
 have cZ:=d.rowC (i:=15) rfl
 have df:=d.rowC (i:=17) rfl
 have dh:=d.rowC (i:=19) rfl
 have av:=d.pb [0,1,2]
 have ax:=fA K L M N O B C E av
 have ay:=ax.pb [0]
 exact⟨_,rfl,bL,bN,bO,rfl,ay,J⟩
set_option maxHeartbeats 4000000 in
theorem vT (w D g0) (V:bE) (n o g) (a:bM) (p F h q G j k r I l e) (b:aB) (W:bE) (r1:aB) (H:Own w D w [blk g0 [.pointer (some ⟨e,0,none⟩), .slice n V.bq.ls.length o] 98,row n V.bq.ls.length o (q6 bC.cells g) 42 21,sepL (q6 bC.own g),iE e b]) (s:s8 bC.abs g=V.bq.ls) (P:F=a.aF.ls.length) (Q:Ro w D fun w'=>bA w' 6 p a.aF.ls.length (q6 bv.cells a.aF.ls)) (aH:a.aF.ls.length≤h∧a.aF.ls.length≤9223372036854775807) (t:s8 ae.abs k=a.ah.ls) (R:G=a.ah.ls.length) (S:Ro w D fun w'=>bA w' 3 q a.ah.ls.length (q6 ae.cells k)) (aJ:a.ah.ls.length≤j∧a.ah.ls.length≤9223372036854775807) (u:∀ x ∈ k,Ro w D (fun w'=>bA w' 2 x.aj.A x.aj.ls.length (q6 aI.cells x.aj.ls))∧(x.aj.ls.length≤x.aj.c∧x.aj.ls.length≤9223372036854775807)) (T:I=a.ag.ls.length) (U:Ro w D fun w'=>bA w' 2 r a.ag.ls.length (q6 aW.cells a.ag.ls)) (aK:a.ag.ls.length≤l∧a.ag.ls.length≤9223372036854775807) (dA:b.aa.ag.ls.length≤1000∧b.aa.ak.ls.length≤1000∧b.aa.aJ.ls.length≤1000∧b.au.ls.length≤1000∧V.bq.ls.length≤100000) (dB:Ak b.au.ls) (dC:a.aF.ls.length≤24∧a.ag.ls.length≤1000∧a.ah.ls.length≤1000∧jZ a.aO) (dD:mU a.ah.ls) (hr:jN V a b=(W,r1)):
    Calls y4 57 #[vP g0 0, .agg (gD a.aG a.aH a.eP a.aN a.cZ a.eu a.aO a.ay a.aU a.dW a.aX a.aL a.dH a.bZ a.xN a.d9 a.bT.bG a.bT.bU p F h q G j r I l).toArray] w (dR fun v w'=> ∃ y z f,v= .tuple #[]∧Own w D w' [blk g0 [vP e 0, .slice y W.bq.ls.length z] 98,row y W.bq.ls.length z (q6 bC.cells f) 42 21,sepL (q6 bC.own f),iE e r1]∧(s8 bC.abs f=W.bq.ls)):=by
 subst P R T
 have aD:=az s
 have aF:=az t
 have aL:=H.rowC (i:=1) rfl
 have aM:=H.pf [3]
 obtain⟨aN,aO,aP,aQ,aR,aS,aT,aU,aV,aX,aY,aZ,bf,bg,bi,bn,bq,bu,bz,bB,bD,bF,bG,bH,bI,bJ,X,Y,Z,aa,af,ag,ah,ai,di,bK⟩:=ji aM
 have bL:=bK.px [18,19,20] [] [1]
 obtain⟨dE,aj,m,ak,dm⟩:=Ii bL
 refine(vR _ _ g0 V n o g a p a.aF.ls.length h q a.ah.ls.length j k r a.ag.ls.length l e b aN aO aP aQ aR aS aT aU aV aX aY aZ bf bg bi bn bq bu bz bB bD bF bG bH bI bJ W r1 aj s rfl (m _ Q) (show a.aF.ls.length≤h∧a.aF.ls.length≤9223372036854775807 from by omega) t rfl (m _ S) (show a.ah.ls.length≤j∧a.ah.ls.length≤9223372036854775807 from by omega) (fun x9 h9=>⟨m _ (u x9 h9).1,(u x9 h9).2⟩) rfl (m _ U) (show a.ag.ls.length≤l∧a.ag.ls.length≤9223372036854775807 from by omega) X Y Z aa af ag ah ai e8 f8 e8 f4 hr).mono ?_
 rintro _ dF ⟨_,rfl,bN,bO,bP,dG,dH,dI,dJ,dK,dL,dM,dN,dO,dP,dQ,dS,dU,dV,dW,dX,dY,dZ,d9,ed,dx,ek,eu,dz,rfl,au,J,K,L,M,N,O,B,C,E⟩
 have d:=ak _ _ au
 have bQ:=az J
 have bR:=az K
 have bS:=az L
 have bT:=az M
 have bU:=az N
 have bV:=az O
 have bW:=az B
 have bX:=az C
 have bY:=az E
 have bZ:=d.rowC (i:=1) rfl
 have cu:=d.rowC (i:=4) rfl
 have cz:=d.rowC (i:=6) rfl
 have cB:=d.rowC (i:=8) rfl
 have cK:=d.rowC (i:=10) rfl
 have cO:=d.rowC (i:=12) rfl
 have cZ:=d.rowC (i:=14) rfl
 have df:=d.rowC (i:=16) rfl
 have dh:=d.rowC (i:=18) rfl
 have av:=d.px [3,20] [] [0,1,2]
 have ax:=fA K L M N O B C E av
 have ay:=yF (Ai (yS hr).1.own rfl rfl rfl rfl rfl rfl rfl rfl) ax
 have aA:=ay.pb [0]
 exact⟨_,rfl,bN,bO,bP,rfl,aA,J⟩
set_option maxHeartbeats 4000000 in
theorem wH (w D g0) (O:bE) (m n f) (a:bM) (o z g p B h j q C k d) (b:aB) (P:bE) (r1:aB) (H:Own w D w [blk g0 [.pointer (some ⟨d,0,none⟩), .slice m O.bq.ls.length n] 98,row m O.bq.ls.length n (q6 bC.cells f) 42 21,sepL (q6 bC.own f),iE d b]) (r:s8 bC.abs f=O.bq.ls) (G:z=a.aF.ls.length) (I:Ro w D fun w'=>bA w' 6 o a.aF.ls.length (q6 bv.cells a.aF.ls)) (aj:a.aF.ls.length≤g∧a.aF.ls.length≤9223372036854775807) (s:s8 ae.abs j=a.ah.ls) (J:B=a.ah.ls.length) (K:Ro w D fun w'=>bA w' 3 p a.ah.ls.length (q6 ae.cells j)) (ak:a.ah.ls.length≤h∧a.ah.ls.length≤9223372036854775807) (t:∀ x ∈ j,Ro w D (fun w'=>bA w' 2 x.aj.A x.aj.ls.length (q6 aI.cells x.aj.ls))∧(x.aj.ls.length≤x.aj.c∧x.aj.ls.length≤9223372036854775807)) (L:C=a.ag.ls.length) (M:Ro w D fun w'=>bA w' 2 q a.ag.ls.length (q6 aW.cells a.ag.ls)) (au:a.ag.ls.length≤k∧a.ag.ls.length≤9223372036854775807) (bJ:b.aa.ag.ls.length≤1000∧b.aa.ak.ls.length≤1000∧b.aa.aJ.ls.length≤1000∧b.au.ls.length≤1000∧O.bq.ls.length≤100000) (bK:Dk b.aa.ak.ls) (hr:jY O a b=(P,r1)):
    Calls y4 58 #[vP g0 0, .agg (gD a.aG a.aH a.eP a.aN a.cZ a.eu a.aO a.ay a.aU a.dW a.aX a.aL a.dH a.bZ a.xN a.d9 a.bT.bG a.bT.bU o z g p B h q C k).toArray] w (dR fun v w'=> ∃ u y e,v= .tuple #[]∧Own w D w' [blk g0 [vP d 0, .slice u P.bq.ls.length y] 98,row u P.bq.ls.length y (q6 bC.cells e) 42 21,sepL (q6 bC.own e),iE d r1]∧(s8 bC.abs e=P.bq.ls)):=by
 subst G J L
 have ag:=az r
 have ah:=az s
 have av:=H.rowC (i:=1) rfl
 have ax:=H.pf [3]
 obtain⟨ay,aA,aC,aD,aF,aG,aH,bL,aJ,aK,bN,aL,aM,bO,aN,aO,bP,aP,aQ,bQ,aR,aS,bR,aT,aU,bS,Q,R,S,T,U,V,W,X,bu,aV⟩:=ji ax
 have aX:=aV.pf [18,19,20,0,2,3]
 obtain⟨bT,Y,l,Z,bz⟩:=I8 aX
 refine(wG _ _ g0 O m n f a o a.aF.ls.length g p a.ah.ls.length h j q a.ag.ls.length k d b ay aA aC aD aF aG aH aJ aK aL aM aN aO aP aQ aR aS aT aU P r1 Y r rfl (l _ I) (show a.aF.ls.length≤g∧a.aF.ls.length≤9223372036854775807 from by omega) s rfl (l _ K) (show a.ah.ls.length≤h∧a.ah.ls.length≤9223372036854775807 from by omega) (fun x9 h9=>⟨l _ (t x9 h9).1,(t x9 h9).2⟩) rfl (l _ M) (show a.ag.ls.length≤k∧a.ag.ls.length≤9223372036854775807 from by omega) Q e8 j8 hr).mono ?_
 rintro _ bU ⟨_,rfl,aY,aZ,bf,bV,bW,bX,rfl,aa,E,F⟩
 have N:=Z _ _ aa
 have bF:=az E
 have bG:=az F
 have bH:=N.rowC (i:=1) rfl
 have bI:=N.rowC (i:=4) rfl
 have bg:=N.px [3,6] [] [0,1,2]
 have bi:=fA F R S T U V W X bg
 have bn:=yF (Ai (by obtain⟨⟨_,rfl⟩,_⟩:=ou hr; rfl) rfl (by obtain⟨⟨_,rfl⟩,_⟩:=ou hr; rfl) (by obtain⟨⟨_,rfl⟩,_⟩:=ou hr; rfl) (by obtain⟨⟨_,rfl⟩,_⟩:=ou hr; rfl) (by obtain⟨⟨_,rfl⟩,_⟩:=ou hr; rfl) (by obtain⟨⟨_,rfl⟩,_⟩:=ou hr; rfl) (by obtain⟨⟨_,rfl⟩,_⟩:=ou hr; rfl) (by obtain⟨⟨_,rfl⟩,_⟩:=ou hr; rfl)) bi
 have bq:=bn.pb [0]
 exact⟨_,rfl,aY,aZ,bf,rfl,bq,E⟩
set_option maxHeartbeats 4000000 in
theorem wI (w D g0) (U:bE) (q r k) (a:bM) (s I l t J m n u K o h) (b:aB) (V:bE) (H:Own w D w [blk g0 [.pointer (some ⟨h,0,none⟩), .slice q U.bq.ls.length r] 98,row q U.bq.ls.length r (q6 bC.cells k) 42 21,sepL (q6 bC.own k),iE h b]) (y:s8 bC.abs k=U.bq.ls) (O:I=a.aF.ls.length) (P:Ro w D fun w'=>bA w' 6 s a.aF.ls.length (q6 bv.cells a.aF.ls)) (aC:a.aF.ls.length≤l∧a.aF.ls.length≤9223372036854775807) (z:s8 ae.abs n=a.ah.ls) (Q:J=a.ah.ls.length) (R:Ro w D fun w'=>bA w' 3 t a.ah.ls.length (q6 ae.cells n)) (aD:a.ah.ls.length≤m∧a.ah.ls.length≤9223372036854775807) (B:∀ x ∈ n,Ro w D (fun w'=>bA w' 2 x.aj.A x.aj.ls.length (q6 aI.cells x.aj.ls))∧(x.aj.ls.length≤x.aj.c∧x.aj.ls.length≤9223372036854775807)) (S:K=a.ag.ls.length) (T:Ro w D fun w'=>bA w' 2 u a.ag.ls.length (q6 aW.cells a.ag.ls)) (aF:a.ag.ls.length≤o∧a.ag.ls.length≤9223372036854775807) (bP:b.aa.ag.ls.length≤1000∧b.aa.ak.ls.length≤1000∧b.aa.aJ.ls.length≤1000∧b.au.ls.length≤1000∧U.bq.ls.length≤100000) (hr:kW U a b=V):
    Calls y4 59 #[vP g0 0, .agg (gD a.aG a.aH a.eP a.aN a.cZ a.eu a.aO a.ay a.aU a.dW a.aX a.aL a.dH a.bZ a.xN a.d9 a.bT.bG a.bT.bU s I l t J m u K o).toArray] w (dR fun v w'=> ∃ C E j,v= .tuple #[]∧Own w D w' [blk g0 [vP h 0, .slice C V.bq.ls.length E] 98,row C V.bq.ls.length E (q6 bC.cells j) 42 21,sepL (q6 bC.own j),iE h b]∧(s8 bC.abs j=V.bq.ls)):=by
 subst O Q S
 have ay:=az y
 have aA:=az z
 have aG:=H.rowC (i:=1) rfl
 have aH:=H.pf [3]
 obtain⟨aJ,aK,aL,W,aM,aN,aO,bQ,aQ,X,aR,aS,aT,bR,aU,aX,bS,aZ,bf,bT,bg,bi,bU,bn,bq,bV,L,Y,M,Z,aa,af,ag,ah,bI,bu⟩:=ji aH
 have e:=bu.pf [18,19,20]
 have bJ:=e.rowC (i:=5) rfl
 have bK:=e.rowC (i:=9) rfl
 obtain⟨bW,ai,p,aj,d⟩:=GJ e
 refine(wF _ _ g0 U q r k a s a.aF.ls.length l t a.ah.ls.length m n u a.ag.ls.length o h b aJ aK aL W aM aN aO aQ X aR aS aT aU aX aZ bf bg bi bn bq V ai y rfl (p _ P) (show a.aF.ls.length≤l∧a.aF.ls.length≤9223372036854775807 from by omega) z rfl (p _ R) (show a.ah.ls.length≤m∧a.ah.ls.length≤9223372036854775807 from by omega) (fun f g=>⟨p _ (B f g).1,(B f g).2⟩) rfl (p _ T) (show a.ag.ls.length≤o∧a.ag.ls.length≤9223372036854775807 from by omega) L (d _ 1 _ rfl aP) (show b.aa.ak.ls.length≤W∧b.aa.ak.ls.length≤9223372036854775807 from by omega) (fun f g=>⟨d _ 2 _ rfl (ax (P2.2 ⟨f,g,b1⟩) aP),aY (φ:=fun _=>_) e (i:=6) rfl (ax (P2.2 ⟨f,g,b1⟩) aV)⟩) M (d _ 5 _ rfl aP) (show b.au.ls.length≤X∧b.au.ls.length≤9223372036854775807 from by omega) (fun f g=>⟨d _ 6 _ rfl (ax (P2.2 ⟨f,g,b1⟩) aP),aY (φ:=fun _=>_) e (i:=10) rfl (ax (P2.2 ⟨f,g,b1⟩) aV),d _ 6 _ rfl (ax (P2.2 ⟨f,g, .tail _ b1⟩) aP),aY (φ:=fun _=>_) e (i:=10) rfl (ax (P2.2 ⟨f,g, .tail _ b1⟩) aV),(fun F G=>⟨d _ 6 _ rfl (ax (P2.2 ⟨f,g, .tail _ b4⟩) (ax (P2.2 ⟨F,G,b1⟩) aP)),aY (φ:=fun _=>_) e (i:=10) rfl (ax (P2.2 ⟨f,g, .tail _ b4⟩) (ax (P2.2 ⟨F,G,b1⟩) aV)),d _ 6 _ rfl (ax (P2.2 ⟨f,g, .tail _ b4⟩) (ax (P2.2 ⟨F,G, .tail _ b1⟩) aP)),aY (φ:=fun _=>_) e (i:=10) rfl (ax (P2.2 ⟨f,g, .tail _ b4⟩) (ax (P2.2 ⟨F,G, .tail _ b1⟩) aV))⟩),d _ 6 _ rfl (ax (P2.2 ⟨f,g, .tail _ b2⟩) aP),aY (φ:=fun _=>_) e (i:=10) rfl (ax (P2.2 ⟨f,g, .tail _ b2⟩) aV),d _ 6 _ rfl (ax (P2.2 ⟨f,g, .tail _ b3⟩) aP),aY (φ:=fun _=>_) e (i:=10) rfl (ax (P2.2 ⟨f,g, .tail _ b3⟩) aV),(fun F G=>⟨d _ 6 _ rfl (ax (P2.2 ⟨f,g, .tail _ b5⟩) (ax (P2.2 ⟨F,G,b1⟩) aP)),aY (φ:=fun _=>_) e (i:=10) rfl (ax (P2.2 ⟨f,g, .tail _ b5⟩) (ax (P2.2 ⟨F,G,b1⟩) aV)),(fun y2 k2=>⟨d _ 6 _ rfl (ax (P2.2 ⟨f,g, .tail _ b5⟩) (ax (P2.2 ⟨F,G, .tail _ b1⟩) (ax (P2.2 ⟨y2,k2,b1⟩) aP))),aY (φ:=fun _=>_) e (i:=10) rfl (ax (P2.2 ⟨f,g, .tail _ b5⟩) (ax (P2.2 ⟨F,G, .tail _ b1⟩) (ax (P2.2 ⟨y2,k2,b1⟩) aV)))⟩)⟩)⟩) e8 hr).mono ?_
 rintro _ bX ⟨_,rfl,bz,bB,bD,rfl,ak,N⟩
 have au:=aj _ _ ak
 have bN:=az N
 have bO:=au.rowC (i:=1) rfl
 have bF:=au.pb [0,1,2]
 have bG:=fA L Y M Z aa af ag ah bF
 have bH:=bG.pb [0]
 exact⟨_,rfl,bz,bB,bD,rfl,bH,N⟩
set_option maxHeartbeats 4000000 in
theorem vV (w D Q) (x:bE) (f g e S b) (a:aB) (y:bE) (T:aB) (H:Own w D w [blk Q [.pointer (some ⟨b,0,none⟩), .slice f x.bq.ls.length g] 98,row f x.bq.ls.length g (q6 bC.cells e) 42 21,sepL (q6 bC.own e),iE b a]) (h:s8 bC.abs e=x.bq.ls) (bG:a.aa.ag.ls.length≤1000∧a.aa.ak.ls.length≤1000∧a.aa.aJ.ls.length≤1000∧a.au.ls.length≤1000∧x.bq.ls.length≤100000) (bH:Ak a.au.ls) (hr:iT x S a=(y,T)):
    Calls y4 26 #[vP Q 0,vU S] w (dR fun v w'=> ∃ j k d,v= .tuple #[]∧Own w D w' [blk Q [vP b 0, .slice j y.bq.ls.length k] 98,row j y.bq.ls.length k (q6 bC.cells d) 42 21,sepL (q6 bC.own d),iE b T]∧(s8 bC.abs d=y.bq.ls)):=by
 have R:=az h
 have U:=H.rowC (i:=1) rfl
 have V:=H.pf [3]
 obtain⟨W,X,Y,z,Z,aa,ae,bI,af,ag,ah,ai,aj,ak,au,av,ay,aA,aC,aD,aF,aG,aH,aI,aJ,aK,m,A,B,C,E,F,G,I,bv,aL⟩:=ji V
 have u:=aL.px [18,19,20] [] [1,2,3,4,5]
 have bz:=u.rowC (i:=17) rfl
 obtain⟨bJ,J,bA,K,n⟩:=G6 u
 refine(vS _ _ Q x f g e S b a W X Y z Z aa ae af ag ah ai aj ak au av ay aA aC aD aF aG aH aI aJ aK y T J h m (n _ 1 _ rfl aP) (show a.aa.ak.ls.length≤z∧a.aa.ak.ls.length≤9223372036854775807 from by omega) (fun x9 h9=>⟨n _ 2 _ rfl (ax (P2.2 ⟨x9,h9,b1⟩) aP),aY (φ:=fun _=>_) u (i:=18) rfl (ax (P2.2 ⟨x9,h9,b1⟩) aV)⟩) B C E F G I e8 f8 hr).mono ?_
 rintro _ bK ⟨_,rfl,aM,aN,aO,bL,bM,bN,bO,bP,bQ,bR,bS,bT,bU,bV,bW,bX,bY,bZ,cu,cz,bF,rfl,L,o,p,q,r,s,t,l⟩
 have c:=K _ _ L
 have aQ:=az o
 have aR:=az p
 have aS:=az q
 have aT:=az r
 have aU:=az s
 have aW:=az t
 have aX:=az l
 have aZ:=c.rowC (i:=1) rfl
 have bf:=c.rowC (i:=4) rfl
 have bg:=c.rowC (i:=6) rfl
 have bi:=c.rowC (i:=8) rfl
 have bn:=c.rowC (i:=10) rfl
 have bq:=c.rowC (i:=12) rfl
 have bu:=c.rowC (i:=14) rfl
 have M:=c.px [3,16,17,18,19,20] [] [0,1,2]
 have N:=fA m A p q r s t l M
 have O:=yF (Ai (by rw [(rM hr).1]) (by rw [(rM hr).1]) (by rw [(rM hr).1]) rfl rfl rfl rfl rfl rfl) N
 have P:=O.pb [0]
 exact⟨_,rfl,aM,aN,aO,rfl,P,o⟩
end Go.Proofs.YtbkagebjhbphaaaGreat
