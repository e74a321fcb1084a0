/-
 coord: the machine as one thing.
-/
import Derived.Test.YtbkagebjhbphaaaGreatCoS
namespace Go.Proofs.YtbkagebjhbphaaaGreat
open List renaming flatMap→q4,map→s5,mem_flatMap→Q6
open Ll renaming mk→E0
open _root_.Go.Proofs.Tryz renaming prog→v5
set_option maxRecDepth 100000
open Go.RowKit
set_option linter.unusedVariables false
set_option linter.unusedSectionVars false
set_option linter.unusedSimpArgs false
def jZ (g:Nat) (m:aD):HP:=FD (fun x:(Option Addr) × Nat × (Option Addr) × Nat × (List ay) × (Option Addr) × Nat × (List aS) × (Option Addr) × Nat × (List bK) × (Option Addr) × Nat × (List af) × (Option Addr) × Nat × (List af) × (Option Addr) × Nat × (List af) × (Option Addr) × Nat × (List af) × (Option Addr) × Nat × (List af)=>s5 ay.abs x.2.2.2.2.1=m.aa.ak.ls∧s5 aS.abs x.2.2.2.2.2.2.2.1=m.aa.aK.ls∧s5 bK.abs x.2.2.2.2.2.2.2.2.2.2.1=m.aC.ls∧s5 af.abs x.2.2.2.2.2.2.2.2.2.2.2.2.2.1=m.bM.ai.ls∧s5 af.abs x.2.2.2.2.2.2.2.2.2.2.2.2.2.2.2.2.1=m.bD.ai.ls∧s5 af.abs x.2.2.2.2.2.2.2.2.2.2.2.2.2.2.2.2.2.2.2.1=m.bA.ai.ls∧s5 af.abs x.2.2.2.2.2.2.2.2.2.2.2.2.2.2.2.2.2.2.2.2.2.2.1=m.bC.ai.ls∧s5 af.abs x.2.2.2.2.2.2.2.2.2.2.2.2.2.2.2.2.2.2.2.2.2.2.2.2.2=m.bB.ai.ls) (fun x=> [mK g m x.1 m.aa.ag.ls.length x.2.1 x.2.2.1 x.2.2.2.1 x.2.2.2.2.2.1 x.2.2.2.2.2.2.1 x.2.2.2.2.2.2.2.2.1 x.2.2.2.2.2.2.2.2.2.1 x.2.2.2.2.2.2.2.2.2.2.2.1 x.2.2.2.2.2.2.2.2.2.2.2.2.1 x.2.2.2.2.2.2.2.2.2.2.2.2.2.2.1 x.2.2.2.2.2.2.2.2.2.2.2.2.2.2.2.1 x.2.2.2.2.2.2.2.2.2.2.2.2.2.2.2.2.2.1 x.2.2.2.2.2.2.2.2.2.2.2.2.2.2.2.2.2.2.1 x.2.2.2.2.2.2.2.2.2.2.2.2.2.2.2.2.2.2.2.2.1 x.2.2.2.2.2.2.2.2.2.2.2.2.2.2.2.2.2.2.2.2.2.1 x.2.2.2.2.2.2.2.2.2.2.2.2.2.2.2.2.2.2.2.2.2.2.2.1 x.2.2.2.2.2.2.2.2.2.2.2.2.2.2.2.2.2.2.2.2.2.2.2.2.1,row x.1 m.aa.ag.ls.length x.2.1 (q4 aM.cells m.aa.ag.ls) 89 2,row x.2.2.1 m.aa.ak.ls.length x.2.2.2.1 (q4 ay.cells x.2.2.2.2.1) 60 5,sepL (q4 ay.own x.2.2.2.2.1),row x.2.2.2.2.2.1 m.aa.aK.ls.length x.2.2.2.2.2.2.1 (q4 aS.cells x.2.2.2.2.2.2.2.1) 56 4,sepL (q4 aS.own x.2.2.2.2.2.2.2.1),row x.2.2.2.2.2.2.2.2.1 m.aC.ls.length x.2.2.2.2.2.2.2.2.2.1 (q4 bK.cells x.2.2.2.2.2.2.2.2.2.2.1) 107 9,sepL (q4 bK.own x.2.2.2.2.2.2.2.2.2.2.1),row x.2.2.2.2.2.2.2.2.2.2.2.1 m.bM.ai.ls.length x.2.2.2.2.2.2.2.2.2.2.2.2.1 (q4 af.cells x.2.2.2.2.2.2.2.2.2.2.2.2.2.1) 149 3,sepL (q4 af.own x.2.2.2.2.2.2.2.2.2.2.2.2.2.1),row x.2.2.2.2.2.2.2.2.2.2.2.2.2.2.1 m.bD.ai.ls.length x.2.2.2.2.2.2.2.2.2.2.2.2.2.2.2.1 (q4 af.cells x.2.2.2.2.2.2.2.2.2.2.2.2.2.2.2.2.1) 149 3,sepL (q4 af.own x.2.2.2.2.2.2.2.2.2.2.2.2.2.2.2.2.1),row x.2.2.2.2.2.2.2.2.2.2.2.2.2.2.2.2.2.1 m.bA.ai.ls.length x.2.2.2.2.2.2.2.2.2.2.2.2.2.2.2.2.2.2.1 (q4 af.cells x.2.2.2.2.2.2.2.2.2.2.2.2.2.2.2.2.2.2.2.1) 149 3,sepL (q4 af.own x.2.2.2.2.2.2.2.2.2.2.2.2.2.2.2.2.2.2.2.1),row x.2.2.2.2.2.2.2.2.2.2.2.2.2.2.2.2.2.2.2.2.1 m.bC.ai.ls.length x.2.2.2.2.2.2.2.2.2.2.2.2.2.2.2.2.2.2.2.2.2.1 (q4 af.cells x.2.2.2.2.2.2.2.2.2.2.2.2.2.2.2.2.2.2.2.2.2.2.1) 149 3,sepL (q4 af.own x.2.2.2.2.2.2.2.2.2.2.2.2.2.2.2.2.2.2.2.2.2.2.1),row x.2.2.2.2.2.2.2.2.2.2.2.2.2.2.2.2.2.2.2.2.2.2.2.1 m.bB.ai.ls.length x.2.2.2.2.2.2.2.2.2.2.2.2.2.2.2.2.2.2.2.2.2.2.2.2.1 (q4 af.cells x.2.2.2.2.2.2.2.2.2.2.2.2.2.2.2.2.2.2.2.2.2.2.2.2.2) 149 3,sepL (q4 af.own x.2.2.2.2.2.2.2.2.2.2.2.2.2.2.2.2.2.2.2.2.2.2.2.2.2)])
theorem lY {w0 w:World} {D:Nat→Prop} {L:List HP} {g:Nat} {m:aD} (H:Own w0 D w (jZ g m::L)):∃ (u:Option Addr) (a:Nat) (v:Option Addr) (b:Nat) (c:List ay) (x:Option Addr) (d:Nat) (e:List aS) (y:Option Addr) (f:Nat) (h:List bK) (z:Option Addr) (j:Nat) (k:List af) (A:Option Addr) (l:Nat) (n:List af) (B:Option Addr) (o:Nat) (p:List af) (C:Option Addr) (q:Nat) (r:List af) (E:Option Addr) (s:Nat) (t:List af),s5 ay.abs c=m.aa.ak.ls∧s5 aS.abs e=m.aa.aK.ls∧s5 bK.abs h=m.aC.ls∧s5 af.abs k=m.bM.ai.ls∧s5 af.abs n=m.bD.ai.ls∧s5 af.abs p=m.bA.ai.ls∧s5 af.abs r=m.bC.ai.ls∧s5 af.abs t=m.bB.ai.ls∧(c.length=m.aa.ak.ls.length∧e.length=m.aa.aK.ls.length∧h.length=m.aC.ls.length∧k.length=m.bM.ai.ls.length∧n.length=m.bD.ai.ls.length∧p.length=m.bA.ai.ls.length∧r.length=m.bC.ai.ls.length∧t.length=m.bB.ai.ls.length∧(m.aa.ag.ls.length≤a∧a≤9223372036854775807)∧(m.aa.ak.ls.length≤b∧b≤9223372036854775807)∧(m.aa.aK.ls.length≤d∧d≤9223372036854775807)∧(m.aC.ls.length≤f∧f≤9223372036854775807)∧(m.bM.ai.ls.length≤j∧j≤9223372036854775807)∧(m.bD.ai.ls.length≤l∧l≤9223372036854775807)∧(m.bA.ai.ls.length≤o∧o≤9223372036854775807)∧(m.bC.ai.ls.length≤q∧q≤9223372036854775807)∧(m.bB.ai.ls.length≤s∧s≤9223372036854775807))∧Own w0 D w (mK g m u m.aa.ag.ls.length a v b x d y f z j A l B o C q E s::row u m.aa.ag.ls.length a (q4 aM.cells m.aa.ag.ls) 89 2::row v m.aa.ak.ls.length b (q4 ay.cells c) 60 5::sepL (q4 ay.own c)::row x m.aa.aK.ls.length d (q4 aS.cells e) 56 4::sepL (q4 aS.own e)::row y m.aC.ls.length f (q4 bK.cells h) 107 9::sepL (q4 bK.own h)::row z m.bM.ai.ls.length j (q4 af.cells k) 149 3::sepL (q4 af.own k)::row A m.bD.ai.ls.length l (q4 af.cells n) 149 3::sepL (q4 af.own n)::row B m.bA.ai.ls.length o (q4 af.cells p) 149 3::sepL (q4 af.own p)::row C m.bC.ai.ls.length q (q4 af.cells r) 149 3::sepL (q4 af.own r)::row E m.bB.ai.ls.length s (q4 af.cells t) 149 3::sepL (q4 af.own t)::L):=by
 obtain⟨⟨u,a,v,b,c,x,d,e,y,f,h,z,j,k,A,l,n,B,o,p,C,q,r,E,s,t⟩,⟨F,G,I,J,K,M,N,O⟩,H⟩:=Kw H
 have H:Own w0 D w (mK g m u m.aa.ag.ls.length a v b x d y f z j A l B o C q E s::row u m.aa.ag.ls.length a (q4 aM.cells m.aa.ag.ls) 89 2::row v m.aa.ak.ls.length b (q4 ay.cells c) 60 5::sepL (q4 ay.own c)::row x m.aa.aK.ls.length d (q4 aS.cells e) 56 4::sepL (q4 aS.own e)::row y m.aC.ls.length f (q4 bK.cells h) 107 9::sepL (q4 bK.own h)::row z m.bM.ai.ls.length j (q4 af.cells k) 149 3::sepL (q4 af.own k)::row A m.bD.ai.ls.length l (q4 af.cells n) 149 3::sepL (q4 af.own n)::row B m.bA.ai.ls.length o (q4 af.cells p) 149 3::sepL (q4 af.own p)::row C m.bC.ai.ls.length q (q4 af.cells r) 149 3::sepL (q4 af.own r)::row E m.bB.ai.ls.length s (q4 af.cells t) 149 3::sepL (q4 af.own t)::L):=H
 refine⟨u,a,v,b,c,x,d,e,y,f,h,z,j,k,A,l,n,B,o,p,C,q,r,E,s,t,F,G,I,J,K,M,N,O,⟨aA F,aA G,aA I,aA J,aA K,aA M,aA N,aA O,H.rowC (i:=1) rfl,H.rowC (i:=2) rfl,H.rowC (i:=4) rfl,H.rowC (i:=6) rfl,H.rowC (i:=8) rfl,H.rowC (i:=10) rfl,H.rowC (i:=12) rfl,H.rowC (i:=14) rfl,H.rowC (i:=16) rfl⟩,H⟩
theorem iK {w0 w:World} {D:Nat→Prop} {L:List HP} {g:Nat} {y0:Int} {y1:Nat} {y2:Nat} {y3:Nat} {f:List aM} {B:List bH} {C:List fF} {y7:Nat} {E:List ed} {y9:Bool} {h:Nat} {i:Int} {a:List aQ} {j:Bool} {k:Nat} {l:Int} {b:List aQ} {m:Bool} {n:Nat} {o:Int} {c:List aQ} {p:Bool} {q:Nat} {r:Int} {d:List aQ} {s:Bool} {t:Nat} {u:Int} {e:List aQ} {v:Nat} {x:Nat} {y:Nat} {z:Nat} {A:Nat} {P:Option Addr} {Q:Nat} {R:Option Addr} {S:Nat} {F:List ay} {T:Option Addr} {U:Nat} {G:List aS} {V:Option Addr} {W:Nat} {I:List bK} {X:Option Addr} {Y:Nat} {J:List af} {Z:Option Addr} {c5:Nat} {K:List af} {A6:Option Addr} {c6:Nat} {M:List af} {A7:Option Addr} {c7:Nat} {N:List af} {A8:Option Addr} {c8:Nat} {O:List af} (aC:s5 ay.abs F=B) (aF:s5 aS.abs G=C) (aG:s5 bK.abs I=E) (aH:s5 af.abs J=a) (aI:s5 af.abs K=b) (aJ:s5 af.abs M=c) (aK:s5 af.abs N=d) (aL:s5 af.abs O=e) (H:Own w0 D w (blk g [.int .i64 y0, .int .u64 ((y1:Nat):Int), .int .u64 ((y2:Nat):Int), .int .u64 ((y3:Nat):Int), .slice P f.length Q, .slice R B.length S, .slice T C.length U, .int .u64 ((y7:Nat):Int), .slice V E.length W, .bool y9, .int .u64 ((h:Nat):Int), .int .i64 i, .slice X a.length Y, .bool j, .int .u64 ((k:Nat):Int), .int .i64 l, .slice Z b.length c5, .bool m, .int .u64 ((n:Nat):Int), .int .i64 o, .slice A6 c.length c6, .bool p, .int .u64 ((q:Nat):Int), .int .i64 r, .slice A7 d.length c7, .bool s, .int .u64 ((t:Nat):Int), .int .i64 u, .slice A8 e.length c8, .int .u64 ((v:Nat):Int), .int .u64 ((x:Nat):Int), .int .u64 ((y:Nat):Int), .int .u64 ((z:Nat):Int), .int .u64 ((A:Nat):Int), .pointer none] 86::row P f.length Q (q4 aM.cells f) 89 2::row R B.length S (q4 ay.cells F) 60 5::sepL (q4 ay.own F)::row T C.length U (q4 aS.cells G) 56 4::sepL (q4 aS.own G)::row V E.length W (q4 bK.cells I) 107 9::sepL (q4 bK.own I)::row X a.length Y (q4 af.cells J) 149 3::sepL (q4 af.own J)::row Z b.length c5 (q4 af.cells K) 149 3::sepL (q4 af.own K)::row A6 c.length c6 (q4 af.cells M) 149 3::sepL (q4 af.own M)::row A7 d.length c7 (q4 af.cells N) 149 3::sepL (q4 af.own N)::row A8 e.length c8 (q4 af.cells O) 149 3::sepL (q4 af.own O)::L)):Own w0 D w (jZ g (aD.mk (bZ.mk y0 y1 y2 y3 (E0 f) (E0 B) (E0 C)) y7 (E0 E) (dU.mk y9 h i (E0 a)) (dU.mk j k l (E0 b)) (dU.mk m n o (E0 c)) (dU.mk p q r (E0 d)) (dU.mk s t u (E0 e)) v x y z A)::L):=
 Ky (P,Q,R,S,F,T,U,G,V,W,I,X,Y,J,Z,c5,K,A6,c6,M,A7,c7,N,A8,c8,O) ⟨aC,aF,aG,aH,aI,aJ,aK,aL⟩ (show Own w0 D w ([blk g [vI y0,vU y1,vU y2,vU y3, .slice P f.length Q, .slice R B.length S, .slice T C.length U,vU y7, .slice V E.length W, .bool y9,vU h,vI i, .slice X a.length Y, .bool j,vU k,vI l, .slice Z b.length c5, .bool m,vU n,vI o, .slice A6 c.length c6, .bool p,vU q,vI r, .slice A7 d.length c7, .bool s,vU t,vI u, .slice A8 e.length c8,vU v,vU x,vU y,vU z,vU A, .pointer none] 86,row P f.length Q (q4 aM.cells f) 89 2,row R B.length S (q4 ay.cells F) 60 5,sepL (q4 ay.own F),row T C.length U (q4 aS.cells G) 56 4,sepL (q4 aS.own G),row V E.length W (q4 bK.cells I) 107 9,sepL (q4 bK.own I),row X a.length Y (q4 af.cells J) 149 3,sepL (q4 af.own J),row Z b.length c5 (q4 af.cells K) 149 3,sepL (q4 af.own K),row A6 c.length c6 (q4 af.cells M) 149 3,sepL (q4 af.own M),row A7 d.length c7 (q4 af.cells N) 149 3,sepL (q4 af.own N),row A8 e.length c8 (q4 af.cells O) 149 3,sepL (q4 af.own O)]++L) from H)
theorem BU {w0 w:World} {D:Nat→Prop} {L:List HP} {g:Nat} {m r:aD} (e:m=r) (H:Own w0 D w (jZ g m::L)):Own w0 D w (jZ g r::L):=e ▸ H
theorem Dw {r:aD} {o:List aM} {d:List bH} {l:List fF} {a:List ed} {b c e f g:List aQ} (h:r.aa.ag.ls=o) (i:r.aa.ak.ls=d) (j:r.aa.aK.ls=l) (k:r.aC.ls=a) (m:r.bM.ai.ls=b) (n:r.bD.ai.ls=c) (k2:r.bA.ai.ls=e) (p:r.bC.ai.ls=f) (q:r.bB.ai.ls=g):
    aD.mk (bZ.mk r.aa.au r.aa.ax r.aa.bG r.aa.aF (E0 o) (E0 d) (E0 l)) r.bT (E0 a) (dU.mk r.bM.dB r.bM.bi r.bM.dP (E0 b)) (dU.mk r.bD.dB r.bD.bi r.bD.dP (E0 c)) (dU.mk r.bA.dB r.bA.bi r.bA.dP (E0 e)) (dU.mk r.bC.dB r.bC.bi r.bC.dP (E0 f)) (dU.mk r.bB.dB r.bB.bi r.bB.dP (E0 g)) r.dO r.dG r.dH r.dD r.dE=r:=by
 subst h i j k m n k2 p q; rfl
set_option maxHeartbeats 4000000 in
theorem uI (w D g0) (V:bU) (n o g) (a:bW) (p F h q G j k r I l e) (b:aD) (W:bU) (r1:aD) (H:Own w D w [blk g0 [.pointer (some ⟨e,0,none⟩), .slice n V.bF.ls.length o] 98,row n V.bF.ls.length o (q4 bz.cells g) 42 21,sepL (q4 bz.own g),jZ e b]) (s:s5 bz.abs g=V.bF.ls) (P:F=a.aB.ls.length) (Q:Ro w D fun w'=>aY w' 6 p a.aB.ls.length (q4 aN.cells a.aB.ls)) (aG:a.aB.ls.length≤h∧a.aB.ls.length≤9223372036854775807) (t:s5 af.abs k=a.ah.ls) (R:G=a.ah.ls.length) (S:Ro w D fun w'=>aY w' 3 q a.ah.ls.length (q4 af.cells k)) (aI:a.ah.ls.length≤j∧a.ah.ls.length≤9223372036854775807) (u:∀ x ∈ k,Ro w D (fun w'=>aY w' 2 x.aj.A x.aj.ls.length (q4 aH.cells x.aj.ls))∧(x.aj.ls.length≤x.aj.c∧x.aj.ls.length≤9223372036854775807)) (T:I=a.ag.ls.length) (U:Ro w D fun w'=>aY w' 2 r a.ag.ls.length (q4 aM.cells a.ag.ls)) (aJ:a.ag.ls.length≤l∧a.ag.ls.length≤9223372036854775807) (dB:b.aa.ag.ls.length≤1000∧b.aa.ak.ls.length≤1000∧b.aa.aK.ls.length≤1000∧b.aC.ls.length≤1000∧V.bF.ls.length≤100000) (dC:Mk b) (dD:b.bM.ai.ls.length≤1000∧b.bD.ai.ls.length≤1000∧b.bA.ai.ls.length≤1000∧b.bC.ai.ls.length≤1000∧b.bB.ai.ls.length≤1000) (dE:11≤a.aI∧a.aI≤14) (dF:a.aB.ls.length≤24∧a.ag.ls.length≤1000∧a.ah.ls.length≤1000∧jR a.aU) (hr:iU V a b=(W,r1)):
    Calls v5 56 #[vP g0 0, .agg (iA a.av a.aI a.eO a.aP a.dK a.fA a.aU a.ax a.aX a.eQ a.bG a.aF a.eG a.cZ a.xN a.fe a.cu.aJ a.cu.aR p F h q G j r I l).toArray] w (dA fun v w'=> ∃ y z f,v= .tuple #[]∧Own w D w' [blk g0 [vP e 0, .slice y W.bF.ls.length z] 98,row y W.bF.ls.length z (q4 bz.cells f) 42 21,sepL (q4 bz.own f),jZ e r1]∧(s5 bz.abs f=W.bF.ls)):=by
 subst P R T
 have aB:=aA s
 have aC:=aA t
 have aK:=H.rowC (i:=1) rfl
 have aL:=H.pf [3]
 obtain⟨aO,aP,aQ,aR,aS,aT,aU,aV,aW,aX,aZ,bf,bg,bi,bn,bq,bu,bv,bA,bB,bC,bD,bE,bF,bG,bH,X,Y,Z,aa,ae,ag,ah,ai,di,bI⟩:=lY aL
 have bJ:=bI.pf [18,19,20]
 obtain⟨dG,aj,m,ak,dm⟩:=Jd bJ
 refine(uH _ _ g0 V n o g a p a.aB.ls.length h q a.ah.ls.length j k r a.ag.ls.length l e b aO aP aQ aR aS aT aU aV aW aX aZ bf bg bi bn bq bu bv bA bB bC bD bE bF bG bH W r1 aj s rfl (m _ Q) (show a.aB.ls.length≤h∧a.aB.ls.length≤9223372036854775807 from by omega) t rfl (m _ S) (show a.ah.ls.length≤j∧a.ah.ls.length≤9223372036854775807 from by omega) (fun x9 h9=>⟨m _ (u x9 h9).1,(u x9 h9).2⟩) rfl (m _ U) (show a.ag.ls.length≤l∧a.ag.ls.length≤9223372036854775807 from by omega) X Y Z aa ae ag ah ai e8 f5 l2 e8 e8 hr).mono ?_
 rintro _ dH ⟨_,rfl,bK,bL,bM,dI,dJ,dK,dL,dM,dN,dO,dP,dQ,dR,dS,dU,dV,dW,dX,dY,dZ,d9,ed,ek,eu,eB,dx,eD,eF,dz,rfl,au,J,K,L,M,N,O,B,C,E⟩
 have d:=ak _ _ au
 have bN:=aA J
 have bO:=aA K
 have bP:=aA L
 have bQ:=aA M
 have bR:=aA N
 have bS:=aA O
 have bT:=aA B
 have bV:=aA C
 have bX:=aA E
 have bY:=d.rowC (i:=1) rfl
 have bZ:=d.rowC (i:=4) rfl
 have cu:=d.rowC (i:=5) rfl
 have cz:=d.rowC (i:=7) rfl
 have cB:=d.rowC (i:=9) rfl
 have cK:=d.rowC (i:=11) rfl
 have cO:=d.rowC (i:=13) rfl
 have cZ:=d.rowC (i:=15) rfl
 have df:=d.rowC (i:=17) rfl
 have dh:=d.rowC (i:=19) rfl
 have av:=d.pb [0,1,2]
 have ax:=iK K L M N O B C E av
 have ay:=ax.pb [0]
 exact⟨_,rfl,bK,bL,bM,rfl,ay,J⟩
set_option maxHeartbeats 4000000 in
theorem wm (w D g0) (V:bU) (n o g) (a:bW) (p F h q G j k r I l e) (b:aD) (W:bU) (r1:aD) (H:Own w D w [blk g0 [.pointer (some ⟨e,0,none⟩), .slice n V.bF.ls.length o] 98,row n V.bF.ls.length o (q4 bz.cells g) 42 21,sepL (q4 bz.own g),jZ e b]) (s:s5 bz.abs g=V.bF.ls) (P:F=a.aB.ls.length) (Q:Ro w D fun w'=>aY w' 6 p a.aB.ls.length (q4 aN.cells a.aB.ls)) (aI:a.aB.ls.length≤h∧a.aB.ls.length≤9223372036854775807) (t:s5 af.abs k=a.ah.ls) (R:G=a.ah.ls.length) (S:Ro w D fun w'=>aY w' 3 q a.ah.ls.length (q4 af.cells k)) (aJ:a.ah.ls.length≤j∧a.ah.ls.length≤9223372036854775807) (u:∀ x ∈ k,Ro w D (fun w'=>aY w' 2 x.aj.A x.aj.ls.length (q4 aH.cells x.aj.ls))∧(x.aj.ls.length≤x.aj.c∧x.aj.ls.length≤9223372036854775807)) (T:I=a.ag.ls.length) (U:Ro w D fun w'=>aY w' 2 r a.ag.ls.length (q4 aM.cells a.ag.ls)) (aK:a.ag.ls.length≤l∧a.ag.ls.length≤9223372036854775807) (dB:b.aa.ag.ls.length≤1000∧b.aa.ak.ls.length≤1000∧b.aa.aK.ls.length≤1000∧b.aC.ls.length≤1000∧V.bF.ls.length≤100000) (dC:Ak b.aC.ls) (dD:a.aB.ls.length≤24∧a.ag.ls.length≤1000∧a.ah.ls.length≤1000∧jR a.aU) (dE:mV a.ah.ls) (hr:lq V a b=(W,r1)):
    Calls v5 57 #[vP g0 0, .agg (iA a.av a.aI a.eO a.aP a.dK a.fA a.aU a.ax a.aX a.eQ a.bG a.aF a.eG a.cZ a.xN a.fe a.cu.aJ a.cu.aR p F h q G j r I l).toArray] w (dA fun v w'=> ∃ y z f,v= .tuple #[]∧Own w D w' [blk g0 [vP e 0, .slice y W.bF.ls.length z] 98,row y W.bF.ls.length z (q4 bz.cells f) 42 21,sepL (q4 bz.own f),jZ e r1]∧(s5 bz.abs f=W.bF.ls)):=by
 subst P R T
 have aC:=aA s
 have aF:=aA t
 have aL:=H.rowC (i:=1) rfl
 have aO:=H.pf [3]
 obtain⟨aP,aQ,aR,aS,aT,aU,aV,aW,aX,aZ,bf,bg,bi,bn,bq,bu,bv,bA,bB,bC,bD,bE,bF,bG,bH,bI,X,Y,Z,aa,ae,ag,ah,ai,di,bJ⟩:=lY aO
 have bK:=bJ.px [18,19,20] [] [1]
 obtain⟨dF,aj,m,ak,dm⟩:=JU bK
 refine(wh _ _ g0 V n o g a p a.aB.ls.length h q a.ah.ls.length j k r a.ag.ls.length l e b aP aQ aR aS aT aU aV aW aX aZ bf bg bi bn bq bu bv bA bB bC bD bE bF bG bH bI W r1 aj s rfl (m _ Q) (show a.aB.ls.length≤h∧a.aB.ls.length≤9223372036854775807 from by omega) t rfl (m _ S) (show a.ah.ls.length≤j∧a.ah.ls.length≤9223372036854775807 from by omega) (fun x9 h9=>⟨m _ (u x9 h9).1,(u x9 h9).2⟩) rfl (m _ U) (show a.ag.ls.length≤l∧a.ag.ls.length≤9223372036854775807 from by omega) X Y Z aa ae ag ah ai e8 g5 e8 f5 hr).mono ?_
 rintro _ dG ⟨_,rfl,bL,bM,bN,dH,dI,dJ,dK,dL,dM,dN,dO,dP,dQ,dR,dS,dU,dV,dW,dX,dY,dZ,d9,ed,dx,ek,eu,dz,rfl,au,J,K,L,M,N,O,B,C,E⟩
 have d:=ak _ _ au
 have bO:=aA J
 have bP:=aA K
 have bQ:=aA L
 have bR:=aA M
 have bS:=aA N
 have bT:=aA O
 have bV:=aA B
 have bX:=aA C
 have bY:=aA E
 have bZ:=d.rowC (i:=1) rfl
 have cu:=d.rowC (i:=4) rfl
 have cz:=d.rowC (i:=6) rfl
 have cB:=d.rowC (i:=8) rfl
 have cK:=d.rowC (i:=10) rfl
 have cO:=d.rowC (i:=12) rfl
 have cZ:=d.rowC (i:=14) rfl
 have df:=d.rowC (i:=16) rfl
 have dh:=d.rowC (i:=18) rfl
 have av:=d.px [3,20] [] [0,1,2]
 have ax:=iK K L M N O B C E av
 have ay:=BU (Dw (zh hr).1.own rfl rfl rfl rfl rfl rfl rfl rfl) ax
 have az:=ay.pb [0]
 exact⟨_,rfl,bL,bM,bN,rfl,az,J⟩
set_option maxHeartbeats 4000000 in
theorem wO (w D g0) (O:bU) (m n f) (a:bW) (o z g p B h j q C k d) (b:aD) (P:bU) (r1:aD) (H:Own w D w [blk g0 [.pointer (some ⟨d,0,none⟩), .slice m O.bF.ls.length n] 98,row m O.bF.ls.length n (q4 bz.cells f) 42 21,sepL (q4 bz.own f),jZ d b]) (r:s5 bz.abs f=O.bF.ls) (G:z=a.aB.ls.length) (I:Ro w D fun w'=>aY w' 6 o a.aB.ls.length (q4 aN.cells a.aB.ls)) (aj:a.aB.ls.length≤g∧a.aB.ls.length≤9223372036854775807) (s:s5 af.abs j=a.ah.ls) (J:B=a.ah.ls.length) (K:Ro w D fun w'=>aY w' 3 p a.ah.ls.length (q4 af.cells j)) (ak:a.ah.ls.length≤h∧a.ah.ls.length≤9223372036854775807) (t:∀ x ∈ j,Ro w D (fun w'=>aY w' 2 x.aj.A x.aj.ls.length (q4 aH.cells x.aj.ls))∧(x.aj.ls.length≤x.aj.c∧x.aj.ls.length≤9223372036854775807)) (L:C=a.ag.ls.length) (M:Ro w D fun w'=>aY w' 2 q a.ag.ls.length (q4 aM.cells a.ag.ls)) (au:a.ag.ls.length≤k∧a.ag.ls.length≤9223372036854775807) (bI:b.aa.ag.ls.length≤1000∧b.aa.ak.ls.length≤1000∧b.aa.aK.ls.length≤1000∧b.aC.ls.length≤1000∧O.bF.ls.length≤100000) (bJ:Dk b.aa.ak.ls) (hr:lT O a b=(P,r1)):
    Calls v5 58 #[vP g0 0, .agg (iA a.av a.aI a.eO a.aP a.dK a.fA a.aU a.ax a.aX a.eQ a.bG a.aF a.eG a.cZ a.xN a.fe a.cu.aJ a.cu.aR o z g p B h q C k).toArray] w (dA fun v w'=> ∃ u y e,v= .tuple #[]∧Own w D w' [blk g0 [vP d 0, .slice u P.bF.ls.length y] 98,row u P.bF.ls.length y (q4 bz.cells e) 42 21,sepL (q4 bz.own e),jZ d r1]∧(s5 bz.abs e=P.bF.ls)):=by
 subst G J L
 have ag:=aA r
 have ah:=aA s
 have av:=H.rowC (i:=1) rfl
 have ax:=H.pf [3]
 obtain⟨ay,az,aB,aC,aF,aG,aI,bK,aJ,aK,bL,aL,aO,bM,aP,aQ,bN,aR,aS,bO,aT,aU,bP,aV,aW,bQ,Q,R,S,T,U,V,W,X,bA,aX⟩:=lY ax
 have aZ:=aX.pf [18,19,20,0,2,3]
 obtain⟨bR,Y,l,Z,bB⟩:=KC aZ
 refine(wN _ _ g0 O m n f a o a.aB.ls.length g p a.ah.ls.length h j q a.ag.ls.length k d b ay az aB aC aF aG aI aJ aK aL aO aP aQ aR aS aT aU aV aW P r1 Y r rfl (l _ I) (show a.aB.ls.length≤g∧a.aB.ls.length≤9223372036854775807 from by omega) s rfl (l _ K) (show a.ah.ls.length≤h∧a.ah.ls.length≤9223372036854775807 from by omega) (fun x9 h9=>⟨l _ (t x9 h9).1,(t x9 h9).2⟩) rfl (l _ M) (show a.ag.ls.length≤k∧a.ag.ls.length≤9223372036854775807 from by omega) Q e8 j9 hr).mono ?_
 rintro _ bS ⟨_,rfl,bf,bg,bi,bT,bV,bX,rfl,aa,E,F⟩
 have N:=Z _ _ aa
 have bE:=aA E
 have bF:=aA F
 have bG:=N.rowC (i:=1) rfl
 have bH:=N.rowC (i:=4) rfl
 have bn:=N.px [3,6] [] [0,1,2]
 have bq:=iK F R S T U V W X bn
 have bu:=BU (Dw (by obtain⟨⟨_,rfl⟩,_⟩:=oH hr; rfl) rfl (by obtain⟨⟨_,rfl⟩,_⟩:=oH hr; rfl) (by obtain⟨⟨_,rfl⟩,_⟩:=oH hr; rfl) (by obtain⟨⟨_,rfl⟩,_⟩:=oH hr; rfl) (by obtain⟨⟨_,rfl⟩,_⟩:=oH hr; rfl) (by obtain⟨⟨_,rfl⟩,_⟩:=oH hr; rfl) (by obtain⟨⟨_,rfl⟩,_⟩:=oH hr; rfl) (by obtain⟨⟨_,rfl⟩,_⟩:=oH hr; rfl)) bq
 have bv:=bu.pb [0]
 exact⟨_,rfl,bf,bg,bi,rfl,bv,E⟩
set_option maxHeartbeats 4000000 in
theorem wP (w D g0) (U:bU) (q r k) (a:bW) (s I l t J m n u K o h) (b:aD) (V:bU) (H:Own w D w [blk g0 [.pointer (some ⟨h,0,none⟩), .slice q U.bF.ls.length r] 98,row q U.bF.ls.length r (q4 bz.cells k) 42 21,sepL (q4 bz.own k),jZ h b]) (y:s5 bz.abs k=U.bF.ls) (O:I=a.aB.ls.length) (P:Ro w D fun w'=>aY w' 6 s a.aB.ls.length (q4 aN.cells a.aB.ls)) (aB:a.aB.ls.length≤l∧a.aB.ls.length≤9223372036854775807) (z:s5 af.abs n=a.ah.ls) (Q:J=a.ah.ls.length) (R:Ro w D fun w'=>aY w' 3 t a.ah.ls.length (q4 af.cells n)) (aC:a.ah.ls.length≤m∧a.ah.ls.length≤9223372036854775807) (B:∀ x ∈ n,Ro w D (fun w'=>aY w' 2 x.aj.A x.aj.ls.length (q4 aH.cells x.aj.ls))∧(x.aj.ls.length≤x.aj.c∧x.aj.ls.length≤9223372036854775807)) (S:K=a.ag.ls.length) (T:Ro w D fun w'=>aY w' 2 u a.ag.ls.length (q4 aM.cells a.ag.ls)) (aF:a.ag.ls.length≤o∧a.ag.ls.length≤9223372036854775807) (bN:b.aa.ag.ls.length≤1000∧b.aa.ak.ls.length≤1000∧b.aa.aK.ls.length≤1000∧b.aC.ls.length≤1000∧U.bF.ls.length≤100000) (hr:mP U a b=V):
    Calls v5 59 #[vP g0 0, .agg (iA a.av a.aI a.eO a.aP a.dK a.fA a.aU a.ax a.aX a.eQ a.bG a.aF a.eG a.cZ a.xN a.fe a.cu.aJ a.cu.aR s I l t J m u K o).toArray] w (dA fun v w'=> ∃ C E j,v= .tuple #[]∧Own w D w' [blk g0 [vP h 0, .slice C V.bF.ls.length E] 98,row C V.bF.ls.length E (q4 bz.cells j) 42 21,sepL (q4 bz.own j),jZ h b]∧(s5 bz.abs j=V.bF.ls)):=by
 subst O Q S
 have ax:=aA y
 have ay:=aA z
 have aG:=H.rowC (i:=1) rfl
 have aI:=H.pf [3]
 obtain⟨aJ,aK,aL,W,aO,aP,aQ,bO,aR,X,aS,aT,aU,bP,aV,aX,bQ,aZ,bf,bR,bg,bi,bS,bu,bv,bT,L,Y,M,Z,aa,ae,ag,ah,bH,bA⟩:=lY aI
 have e:=bA.pf [18,19,20]
 have bI:=e.rowC (i:=5) rfl
 have bJ:=e.rowC (i:=9) rfl
 obtain⟨bV,ai,p,aj,d⟩:=Jf e
 refine(wM _ _ g0 U q r k a s a.aB.ls.length l t a.ah.ls.length m n u a.ag.ls.length o h b aJ aK aL W aO aP aQ aR X aS aT aU aV aX aZ bf bg bi bu bv V ai y rfl (p _ P) (show a.aB.ls.length≤l∧a.aB.ls.length≤9223372036854775807 from by omega) z rfl (p _ R) (show a.ah.ls.length≤m∧a.ah.ls.length≤9223372036854775807 from by omega) (fun f g=>⟨p _ (B f g).1,(B f g).2⟩) rfl (p _ T) (show a.ag.ls.length≤o∧a.ag.ls.length≤9223372036854775807 from by omega) L (d _ 1 _ rfl aW) (show b.aa.ak.ls.length≤W∧b.aa.ak.ls.length≤9223372036854775807 from by omega) (fun f g=>⟨d _ 2 _ rfl (az (Q6.2 ⟨f,g,b1⟩) aW),bq (φ:=fun _=>_) e (i:=6) rfl (az (Q6.2 ⟨f,g,b1⟩) bn)⟩) M (d _ 5 _ rfl aW) (show b.aC.ls.length≤X∧b.aC.ls.length≤9223372036854775807 from by omega) (fun f g=>⟨d _ 6 _ rfl (az (Q6.2 ⟨f,g,b1⟩) aW),bq (φ:=fun _=>_) e (i:=10) rfl (az (Q6.2 ⟨f,g,b1⟩) bn),d _ 6 _ rfl (az (Q6.2 ⟨f,g, .tail _ b1⟩) aW),bq (φ:=fun _=>_) e (i:=10) rfl (az (Q6.2 ⟨f,g, .tail _ b1⟩) bn),(fun F G=>⟨d _ 6 _ rfl (az (Q6.2 ⟨f,g, .tail _ b4⟩) (az (Q6.2 ⟨F,G,b1⟩) aW)),bq (φ:=fun _=>_) e (i:=10) rfl (az (Q6.2 ⟨f,g, .tail _ b4⟩) (az (Q6.2 ⟨F,G,b1⟩) bn)),d _ 6 _ rfl (az (Q6.2 ⟨f,g, .tail _ b4⟩) (az (Q6.2 ⟨F,G, .tail _ b1⟩) aW)),bq (φ:=fun _=>_) e (i:=10) rfl (az (Q6.2 ⟨f,g, .tail _ b4⟩) (az (Q6.2 ⟨F,G, .tail _ b1⟩) bn))⟩),d _ 6 _ rfl (az (Q6.2 ⟨f,g, .tail _ b2⟩) aW),bq (φ:=fun _=>_) e (i:=10) rfl (az (Q6.2 ⟨f,g, .tail _ b2⟩) bn),d _ 6 _ rfl (az (Q6.2 ⟨f,g, .tail _ b3⟩) aW),bq (φ:=fun _=>_) e (i:=10) rfl (az (Q6.2 ⟨f,g, .tail _ b3⟩) bn),(fun F G=>⟨d _ 6 _ rfl (az (Q6.2 ⟨f,g, .tail _ b5⟩) (az (Q6.2 ⟨F,G,b1⟩) aW)),bq (φ:=fun _=>_) e (i:=10) rfl (az (Q6.2 ⟨f,g, .tail _ b5⟩) (az (Q6.2 ⟨F,G,b1⟩) bn)),(fun y2 k2=>⟨d _ 6 _ rfl (az (Q6.2 ⟨f,g, .tail _ b5⟩) (az (Q6.2 ⟨F,G, .tail _ b1⟩) (az (Q6.2 ⟨y2,k2,b1⟩) aW))),bq (φ:=fun _=>_) e (i:=10) rfl (az (Q6.2 ⟨f,g, .tail _ b5⟩) (az (Q6.2 ⟨F,G, .tail _ b1⟩) (az (Q6.2 ⟨y2,k2,b1⟩) bn)))⟩)⟩)⟩) e8 hr).mono ?_
 rintro _ bX ⟨_,rfl,bB,bC,bD,rfl,ak,N⟩
 have au:=aj _ _ ak
 have bL:=aA N
 have bM:=au.rowC (i:=1) rfl
 have bE:=au.pb [0,1,2]
 have bF:=iK L Y M Z aa ae ag ah bE
 have bG:=bF.pb [0]
 exact⟨_,rfl,bB,bC,bD,rfl,bG,N⟩
end Go.Proofs.YtbkagebjhbphaaaGreat
