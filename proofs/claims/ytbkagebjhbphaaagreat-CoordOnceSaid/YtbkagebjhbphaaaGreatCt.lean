/-
 coord: the machine as one thing.
-/
import Derived.Test.YtbkagebjhbphaaaGreatCoS
namespace Go.Proofs.YtbkagebjhbphaaaGreat
open List renaming flatMap→q3,map→s5,mem_flatMap→Q3
open Ll renaming mk→E2
open _root_.Go.Proofs.Tryz renaming prog→v8
set_option maxRecDepth 100000
open Go.RowKit
set_option linter.unusedVariables false
set_option linter.unusedSectionVars false
set_option linter.unusedSimpArgs false
def iG (g:Nat) (m:aA):HP:=Fw (fun x:(Option Addr) × Nat × (Option Addr) × Nat × (List aC) × (Option Addr) × Nat × (List aU) × (Option Addr) × Nat × (List bB) × (Option Addr) × Nat × (List ae) × (Option Addr) × Nat × (List ae) × (Option Addr) × Nat × (List ae) × (Option Addr) × Nat × (List ae) × (Option Addr) × Nat × (List ae)=>s5 aC.abs x.2.2.2.2.1=m.aa.aj.ls∧s5 aU.abs x.2.2.2.2.2.2.2.1=m.aa.aF.ls∧s5 bB.abs x.2.2.2.2.2.2.2.2.2.2.1=m.ay.ls∧s5 ae.abs x.2.2.2.2.2.2.2.2.2.2.2.2.2.1=m.bK.af.ls∧s5 ae.abs x.2.2.2.2.2.2.2.2.2.2.2.2.2.2.2.2.1=m.bA.af.ls∧s5 ae.abs x.2.2.2.2.2.2.2.2.2.2.2.2.2.2.2.2.2.2.2.1=m.bz.af.ls∧s5 ae.abs x.2.2.2.2.2.2.2.2.2.2.2.2.2.2.2.2.2.2.2.2.2.2.1=m.bv.af.ls∧s5 ae.abs x.2.2.2.2.2.2.2.2.2.2.2.2.2.2.2.2.2.2.2.2.2.2.2.2.2=m.bq.af.ls) (fun x=> [mK g m x.1 m.aa.ag.ls.length x.2.1 x.2.2.1 x.2.2.2.1 x.2.2.2.2.2.1 x.2.2.2.2.2.2.1 x.2.2.2.2.2.2.2.2.1 x.2.2.2.2.2.2.2.2.2.1 x.2.2.2.2.2.2.2.2.2.2.2.1 x.2.2.2.2.2.2.2.2.2.2.2.2.1 x.2.2.2.2.2.2.2.2.2.2.2.2.2.2.1 x.2.2.2.2.2.2.2.2.2.2.2.2.2.2.2.1 x.2.2.2.2.2.2.2.2.2.2.2.2.2.2.2.2.2.1 x.2.2.2.2.2.2.2.2.2.2.2.2.2.2.2.2.2.2.1 x.2.2.2.2.2.2.2.2.2.2.2.2.2.2.2.2.2.2.2.2.1 x.2.2.2.2.2.2.2.2.2.2.2.2.2.2.2.2.2.2.2.2.2.1 x.2.2.2.2.2.2.2.2.2.2.2.2.2.2.2.2.2.2.2.2.2.2.2.1 x.2.2.2.2.2.2.2.2.2.2.2.2.2.2.2.2.2.2.2.2.2.2.2.2.1,row x.1 m.aa.ag.ls.length x.2.1 (q3 aY.cells m.aa.ag.ls) 89 2,row x.2.2.1 m.aa.aj.ls.length x.2.2.2.1 (q3 aC.cells x.2.2.2.2.1) 60 5,sepL (q3 aC.own x.2.2.2.2.1),row x.2.2.2.2.2.1 m.aa.aF.ls.length x.2.2.2.2.2.2.1 (q3 aU.cells x.2.2.2.2.2.2.2.1) 56 4,sepL (q3 aU.own x.2.2.2.2.2.2.2.1),row x.2.2.2.2.2.2.2.2.1 m.ay.ls.length x.2.2.2.2.2.2.2.2.2.1 (q3 bB.cells x.2.2.2.2.2.2.2.2.2.2.1) 107 9,sepL (q3 bB.own x.2.2.2.2.2.2.2.2.2.2.1),row x.2.2.2.2.2.2.2.2.2.2.2.1 m.bK.af.ls.length x.2.2.2.2.2.2.2.2.2.2.2.2.1 (q3 ae.cells x.2.2.2.2.2.2.2.2.2.2.2.2.2.1) 149 3,sepL (q3 ae.own x.2.2.2.2.2.2.2.2.2.2.2.2.2.1),row x.2.2.2.2.2.2.2.2.2.2.2.2.2.2.1 m.bA.af.ls.length x.2.2.2.2.2.2.2.2.2.2.2.2.2.2.2.1 (q3 ae.cells x.2.2.2.2.2.2.2.2.2.2.2.2.2.2.2.2.1) 149 3,sepL (q3 ae.own x.2.2.2.2.2.2.2.2.2.2.2.2.2.2.2.2.1),row x.2.2.2.2.2.2.2.2.2.2.2.2.2.2.2.2.2.1 m.bz.af.ls.length x.2.2.2.2.2.2.2.2.2.2.2.2.2.2.2.2.2.2.1 (q3 ae.cells x.2.2.2.2.2.2.2.2.2.2.2.2.2.2.2.2.2.2.2.1) 149 3,sepL (q3 ae.own x.2.2.2.2.2.2.2.2.2.2.2.2.2.2.2.2.2.2.2.1),row x.2.2.2.2.2.2.2.2.2.2.2.2.2.2.2.2.2.2.2.2.1 m.bv.af.ls.length x.2.2.2.2.2.2.2.2.2.2.2.2.2.2.2.2.2.2.2.2.2.1 (q3 ae.cells x.2.2.2.2.2.2.2.2.2.2.2.2.2.2.2.2.2.2.2.2.2.2.1) 149 3,sepL (q3 ae.own x.2.2.2.2.2.2.2.2.2.2.2.2.2.2.2.2.2.2.2.2.2.2.1),row x.2.2.2.2.2.2.2.2.2.2.2.2.2.2.2.2.2.2.2.2.2.2.2.1 m.bq.af.ls.length x.2.2.2.2.2.2.2.2.2.2.2.2.2.2.2.2.2.2.2.2.2.2.2.2.1 (q3 ae.cells x.2.2.2.2.2.2.2.2.2.2.2.2.2.2.2.2.2.2.2.2.2.2.2.2.2) 149 3,sepL (q3 ae.own x.2.2.2.2.2.2.2.2.2.2.2.2.2.2.2.2.2.2.2.2.2.2.2.2.2)])
theorem iZ {w0 w:World} {D:Nat→Prop} {L:List HP} {g:Nat} {m:aA} (H:Own w0 D w (iG g m::L)):∃ (q:Option Addr) (a:Nat) (r:Option Addr) (c1:Nat) (b:List aC) (s:Option Addr) (c2:Nat) (c:List aU) (t:Option Addr) (c3:Nat) (d:List bB) (u:Option Addr) (c4:Nat) (e:List ae) (v:Option Addr) (f:Nat) (h:List ae) (x:Option Addr) (j:Nat) (k:List ae) (y:Option Addr) (l:Nat) (n:List ae) (z:Option Addr) (o:Nat) (p:List ae),s5 aC.abs b=m.aa.aj.ls∧s5 aU.abs c=m.aa.aF.ls∧s5 bB.abs d=m.ay.ls∧s5 ae.abs e=m.bK.af.ls∧s5 ae.abs h=m.bA.af.ls∧s5 ae.abs k=m.bz.af.ls∧s5 ae.abs n=m.bv.af.ls∧s5 ae.abs p=m.bq.af.ls∧(b.length=m.aa.aj.ls.length∧c.length=m.aa.aF.ls.length∧d.length=m.ay.ls.length∧e.length=m.bK.af.ls.length∧h.length=m.bA.af.ls.length∧k.length=m.bz.af.ls.length∧n.length=m.bv.af.ls.length∧p.length=m.bq.af.ls.length∧(m.aa.ag.ls.length≤a∧a≤9223372036854775807)∧(m.aa.aj.ls.length≤c1∧c1≤9223372036854775807)∧(m.aa.aF.ls.length≤c2∧c2≤9223372036854775807)∧(m.ay.ls.length≤c3∧c3≤9223372036854775807)∧(m.bK.af.ls.length≤c4∧c4≤9223372036854775807)∧(m.bA.af.ls.length≤f∧f≤9223372036854775807)∧(m.bz.af.ls.length≤j∧j≤9223372036854775807)∧(m.bv.af.ls.length≤l∧l≤9223372036854775807)∧(m.bq.af.ls.length≤o∧o≤9223372036854775807))∧Own w0 D w (mK g m q m.aa.ag.ls.length a r c1 s c2 t c3 u c4 v f x j y l z o::row q m.aa.ag.ls.length a (q3 aY.cells m.aa.ag.ls) 89 2::row r m.aa.aj.ls.length c1 (q3 aC.cells b) 60 5::sepL (q3 aC.own b)::row s m.aa.aF.ls.length c2 (q3 aU.cells c) 56 4::sepL (q3 aU.own c)::row t m.ay.ls.length c3 (q3 bB.cells d) 107 9::sepL (q3 bB.own d)::row u m.bK.af.ls.length c4 (q3 ae.cells e) 149 3::sepL (q3 ae.own e)::row v m.bA.af.ls.length f (q3 ae.cells h) 149 3::sepL (q3 ae.own h)::row x m.bz.af.ls.length j (q3 ae.cells k) 149 3::sepL (q3 ae.own k)::row y m.bv.af.ls.length l (q3 ae.cells n) 149 3::sepL (q3 ae.own n)::row z m.bq.af.ls.length o (q3 ae.cells p) 149 3::sepL (q3 ae.own p)::L):=by
 obtain⟨⟨q,a,r,c1,b,s,c2,c,t,c3,d,u,c4,e,v,f,h,x,j,k,y,l,n,z,o,p⟩,⟨A,B,C,E,F,G,I,J⟩,H⟩:=Km H
 have H:Own w0 D w (mK g m q m.aa.ag.ls.length a r c1 s c2 t c3 u c4 v f x j y l z o::row q m.aa.ag.ls.length a (q3 aY.cells m.aa.ag.ls) 89 2::row r m.aa.aj.ls.length c1 (q3 aC.cells b) 60 5::sepL (q3 aC.own b)::row s m.aa.aF.ls.length c2 (q3 aU.cells c) 56 4::sepL (q3 aU.own c)::row t m.ay.ls.length c3 (q3 bB.cells d) 107 9::sepL (q3 bB.own d)::row u m.bK.af.ls.length c4 (q3 ae.cells e) 149 3::sepL (q3 ae.own e)::row v m.bA.af.ls.length f (q3 ae.cells h) 149 3::sepL (q3 ae.own h)::row x m.bz.af.ls.length j (q3 ae.cells k) 149 3::sepL (q3 ae.own k)::row y m.bv.af.ls.length l (q3 ae.cells n) 149 3::sepL (q3 ae.own n)::row z m.bq.af.ls.length o (q3 ae.cells p) 149 3::sepL (q3 ae.own p)::L):=H
 refine⟨q,a,r,c1,b,s,c2,c,t,c3,d,u,c4,e,v,f,h,x,j,k,y,l,n,z,o,p,A,B,C,E,F,G,I,J,⟨aB A,aB B,aB C,aB E,aB F,aB G,aB I,aB J,H.rowC (i:=1) rfl,H.rowC (i:=2) rfl,H.rowC (i:=4) rfl,H.rowC (i:=6) rfl,H.rowC (i:=8) rfl,H.rowC (i:=10) rfl,H.rowC (i:=12) rfl,H.rowC (i:=14) rfl,H.rowC (i:=16) rfl⟩,H⟩
theorem fe {w0 w:World} {D:Nat→Prop} {L:List HP} {g:Nat} {y0:Int} {y1:Nat} {y2:Nat} {y3:Nat} {f:List aY} {B:List bH} {C:List eD} {y7:Nat} {E:List dK} {y9:Bool} {h:Nat} {i:Int} {a:List aQ} {j:Bool} {k:Nat} {l:Int} {b:List aQ} {m:Bool} {n:Nat} {o:Int} {c:List aQ} {p:Bool} {q:Nat} {r:Int} {d:List aQ} {s:Bool} {t:Nat} {u:Int} {e:List aQ} {v:Nat} {x:Nat} {y:Nat} {z:Nat} {A:Nat} {P:Option Addr} {Q:Nat} {R:Option Addr} {c1:Nat} {F:List aC} {S:Option Addr} {c2:Nat} {G:List aU} {T:Option Addr} {c3:Nat} {I:List bB} {U:Option Addr} {c4:Nat} {J:List ae} {V:Option Addr} {W:Nat} {K:List ae} {X:Option Addr} {Y:Nat} {M:List ae} {Z:Option Addr} {c7:Nat} {N:List ae} {A8:Option Addr} {c8:Nat} {O:List ae} (ax:s5 aC.abs F=B) (ay:s5 aU.abs G=C) (az:s5 bB.abs I=E) (aB:s5 ae.abs J=a) (aD:s5 ae.abs K=b) (aF:s5 ae.abs M=c) (aG:s5 ae.abs N=d) (aH:s5 ae.abs O=e) (H:Own w0 D w (blk g [.int .i64 y0, .int .u64 ((y1:Nat):Int), .int .u64 ((y2:Nat):Int), .int .u64 ((y3:Nat):Int), .slice P f.length Q, .slice R B.length c1, .slice S C.length c2, .int .u64 ((y7:Nat):Int), .slice T E.length c3, .bool y9, .int .u64 ((h:Nat):Int), .int .i64 i, .slice U a.length c4, .bool j, .int .u64 ((k:Nat):Int), .int .i64 l, .slice V b.length W, .bool m, .int .u64 ((n:Nat):Int), .int .i64 o, .slice X c.length Y, .bool p, .int .u64 ((q:Nat):Int), .int .i64 r, .slice Z d.length c7, .bool s, .int .u64 ((t:Nat):Int), .int .i64 u, .slice A8 e.length c8, .int .u64 ((v:Nat):Int), .int .u64 ((x:Nat):Int), .int .u64 ((y:Nat):Int), .int .u64 ((z:Nat):Int), .int .u64 ((A:Nat):Int), .pointer none] 86::row P f.length Q (q3 aY.cells f) 89 2::row R B.length c1 (q3 aC.cells F) 60 5::sepL (q3 aC.own F)::row S C.length c2 (q3 aU.cells G) 56 4::sepL (q3 aU.own G)::row T E.length c3 (q3 bB.cells I) 107 9::sepL (q3 bB.own I)::row U a.length c4 (q3 ae.cells J) 149 3::sepL (q3 ae.own J)::row V b.length W (q3 ae.cells K) 149 3::sepL (q3 ae.own K)::row X c.length Y (q3 ae.cells M) 149 3::sepL (q3 ae.own M)::row Z d.length c7 (q3 ae.cells N) 149 3::sepL (q3 ae.own N)::row A8 e.length c8 (q3 ae.cells O) 149 3::sepL (q3 ae.own O)::L)):Own w0 D w (iG g (aA.mk (cZ.mk y0 y1 y2 y3 (E2 f) (E2 B) (E2 C)) y7 (E2 E) (df.mk y9 h i (E2 a)) (df.mk j k l (E2 b)) (df.mk m n o (E2 c)) (df.mk p q r (E2 d)) (df.mk s t u (E2 e)) v x y z A)::L):=
 Ko (P,Q,R,c1,F,S,c2,G,T,c3,I,U,c4,J,V,W,K,X,Y,M,Z,c7,N,A8,c8,O) ⟨ax,ay,az,aB,aD,aF,aG,aH⟩ (show Own w0 D w ([blk g [vI y0,vU y1,vU y2,vU y3, .slice P f.length Q, .slice R B.length c1, .slice S C.length c2,vU y7, .slice T E.length c3, .bool y9,vU h,vI i, .slice U a.length c4, .bool j,vU k,vI l, .slice V b.length W, .bool m,vU n,vI o, .slice X c.length Y, .bool p,vU q,vI r, .slice Z d.length c7, .bool s,vU t,vI u, .slice A8 e.length c8,vU v,vU x,vU y,vU z,vU A, .pointer none] 86,row P f.length Q (q3 aY.cells f) 89 2,row R B.length c1 (q3 aC.cells F) 60 5,sepL (q3 aC.own F),row S C.length c2 (q3 aU.cells G) 56 4,sepL (q3 aU.own G),row T E.length c3 (q3 bB.cells I) 107 9,sepL (q3 bB.own I),row U a.length c4 (q3 ae.cells J) 149 3,sepL (q3 ae.own J),row V b.length W (q3 ae.cells K) 149 3,sepL (q3 ae.own K),row X c.length Y (q3 ae.cells M) 149 3,sepL (q3 ae.own M),row Z d.length c7 (q3 ae.cells N) 149 3,sepL (q3 ae.own N),row A8 e.length c8 (q3 ae.cells O) 149 3,sepL (q3 ae.own O)]++L) from H)
theorem zg {w0 w:World} {D:Nat→Prop} {L:List HP} {g:Nat} {m r:aA} (e:m=r) (H:Own w0 D w (iG g m::L)):Own w0 D w (iG g r::L):=e ▸ H
theorem Bh {r:aA} {o:List aY} {d:List bH} {l:List eD} {a:List dK} {b c e f g:List aQ} (h:r.aa.ag.ls=o) (i:r.aa.aj.ls=d) (j:r.aa.aF.ls=l) (k:r.ay.ls=a) (m:r.bK.af.ls=b) (n:r.bA.af.ls=c) (k2:r.bz.af.ls=e) (p:r.bv.af.ls=f) (q:r.bq.af.ls=g):
    aA.mk (cZ.mk r.aa.au r.aa.av r.aa.aV r.aa.aL (E2 o) (E2 d) (E2 l)) r.bP (E2 a) (df.mk r.bK.cO r.bK.aS r.bK.dA (E2 b)) (df.mk r.bA.cO r.bA.aS r.bA.dA (E2 c)) (df.mk r.bz.cO r.bz.aS r.bz.dA (E2 e)) (df.mk r.bv.cO r.bv.aS r.bv.dA (E2 f)) (df.mk r.bq.cO r.bq.aS r.bq.dA (E2 g)) r.dP r.dH r.dI r.dG r.dJ=r:=by
 subst h i j k m n k2 p q; rfl
set_option maxHeartbeats 4000000 in
theorem uQ (w D g0) (V:bI) (n o g) (a:bL) (p F h q G j k r I l e) (b:aA) (W:bI) (r1:aA) (H:Own w D w [blk g0 [.pointer (some ⟨e,0,none⟩), .slice n V.aX.ls.length o] 98,row n V.aX.ls.length o (q3 bf.cells g) 42 21,sepL (q3 bf.own g),iG e b]) (s:s5 bf.abs g=V.aX.ls) (P:F=a.aH.ls.length) (Q:Ro w D fun w'=>bE w' 6 p a.aH.ls.length (q3 bi.cells a.aH.ls)) (aG:a.aH.ls.length≤h∧a.aH.ls.length≤9223372036854775807) (t:s5 ae.abs k=a.ai.ls) (R:G=a.ai.ls.length) (S:Ro w D fun w'=>bE w' 3 q a.ai.ls.length (q3 ae.cells k)) (aH:a.ai.ls.length≤j∧a.ai.ls.length≤9223372036854775807) (u:∀ x ∈ k,Ro w D (fun w'=>bE w' 2 x.ak.A x.ak.ls.length (q3 aI.cells x.ak.ls))∧(x.ak.ls.length≤x.ak.c∧x.ak.ls.length≤9223372036854775807)) (T:I=a.ag.ls.length) (U:Ro w D fun w'=>bE w' 2 r a.ag.ls.length (q3 aY.cells a.ag.ls)) (aJ:a.ag.ls.length≤l∧a.ag.ls.length≤9223372036854775807) (dA:b.aa.ag.ls.length≤1000∧b.aa.aj.ls.length≤1000∧b.aa.aF.ls.length≤1000∧b.ay.ls.length≤1000∧V.aX.ls.length≤100000) (dB:Mk b) (dC:b.bK.af.ls.length≤1000∧b.bA.af.ls.length≤1000∧b.bz.af.ls.length≤1000∧b.bv.af.ls.length≤1000∧b.bq.af.ls.length≤1000) (dD:11≤a.aJ∧a.aJ≤14) (dE:a.aH.ls.length≤24∧a.ag.ls.length≤1000∧a.ai.ls.length≤1000∧ky a.aP) (hr:ji V a b=(W,r1)):
    Calls v8 56 #[vP g0 0, .agg (gU a.aD a.aJ a.fI a.aK a.dz a.eH a.aP a.av a.aN a.dY a.aV a.aL a.dL a.cu a.xN a.cz a.bU.bF a.bU.bT p F h q G j r I l).toArray] w (d9 fun v w'=> ∃ y z f,v= .tuple #[]∧Own w D w' [blk g0 [vP e 0, .slice y W.aX.ls.length z] 98,row y W.aX.ls.length z (q3 bf.cells f) 42 21,sepL (q3 bf.own f),iG e r1]∧(s5 bf.abs f=W.aX.ls)):=by
 subst P R T
 have aC:=aB s
 have aD:=aB t
 have aK:=H.rowC (i:=1) rfl
 have aL:=H.pf [3]
 obtain⟨aM,aN,aO,aP,aQ,aR,aS,aT,aU,aV,aW,aX,aZ,bg,bn,bq,bu,bv,bz,bA,bB,bC,bD,bF,bG,bH,X,Y,Z,aa,af,ag,ah,ai,di,bJ⟩:=iZ aL
 have bK:=bJ.pf [18,19,20]
 obtain⟨dF,aj,m,ak,dm⟩:=I6 bK
 refine(uP _ _ g0 V n o g a p a.aH.ls.length h q a.ai.ls.length j k r a.ag.ls.length l e b aM aN aO aP aQ aR aS aT aU aV aW aX aZ bg bn bq bu bv bz bA bB bC bD bF bG bH W r1 aj s rfl (m _ Q) (show a.aH.ls.length≤h∧a.aH.ls.length≤9223372036854775807 from by omega) t rfl (m _ S) (show a.ai.ls.length≤j∧a.ai.ls.length≤9223372036854775807 from by omega) (fun x9 h9=>⟨m _ (u x9 h9).1,(u x9 h9).2⟩) rfl (m _ U) (show a.ag.ls.length≤l∧a.ag.ls.length≤9223372036854775807 from by omega) X Y Z aa af ag ah ai e8 f5 j9 e8 e8 hr).mono ?_
 rintro _ dG ⟨_,rfl,bM,bN,bO,dH,dI,dJ,dK,dL,dM,dN,dO,dP,dQ,dR,dS,dU,dV,dW,dX,dY,dZ,ed,ek,eu,eB,dx,eD,eF,dz,rfl,au,J,K,L,M,N,O,B,C,E⟩
 have d:=ak _ _ au
 have bP:=aB J
 have bQ:=aB K
 have bR:=aB L
 have bS:=aB M
 have bT:=aB N
 have bU:=aB O
 have bV:=aB B
 have bW:=aB C
 have bX:=aB E
 have bY:=d.rowC (i:=1) rfl
 have bZ:=d.rowC (i:=4) rfl
 have cu:=d.rowC (i:=5) rfl
 have cz:=d.rowC (i:=7) rfl
 have cB:=d.rowC (i:=9) rfl
 have cK:=d.rowC (i:=11) rfl
 have cO:=d.rowC (i:=13) rfl
 have cZ:=d.rowC (i:=15) rfl
 have df:=d.rowC (i:=17) rfl
 have dh:=d.rowC (i:=19) rfl
 have av:=d.pb [0,1,2]
 have ax:=fe K L M N O B C E av
 have ay:=ax.pb [0]
 exact⟨_,rfl,bM,bN,bO,rfl,ay,J⟩
set_option maxHeartbeats 4000000 in
theorem wK (w D g0) (V:bI) (n o g) (a:bL) (p F h q G j k r I l e) (b:aA) (W:bI) (r1:aA) (H:Own w D w [blk g0 [.pointer (some ⟨e,0,none⟩), .slice n V.aX.ls.length o] 98,row n V.aX.ls.length o (q3 bf.cells g) 42 21,sepL (q3 bf.own g),iG e b]) (s:s5 bf.abs g=V.aX.ls) (P:F=a.aH.ls.length) (Q:Ro w D fun w'=>bE w' 6 p a.aH.ls.length (q3 bi.cells a.aH.ls)) (aH:a.aH.ls.length≤h∧a.aH.ls.length≤9223372036854775807) (t:s5 ae.abs k=a.ai.ls) (R:G=a.ai.ls.length) (S:Ro w D fun w'=>bE w' 3 q a.ai.ls.length (q3 ae.cells k)) (aJ:a.ai.ls.length≤j∧a.ai.ls.length≤9223372036854775807) (u:∀ x ∈ k,Ro w D (fun w'=>bE w' 2 x.ak.A x.ak.ls.length (q3 aI.cells x.ak.ls))∧(x.ak.ls.length≤x.ak.c∧x.ak.ls.length≤9223372036854775807)) (T:I=a.ag.ls.length) (U:Ro w D fun w'=>bE w' 2 r a.ag.ls.length (q3 aY.cells a.ag.ls)) (aK:a.ag.ls.length≤l∧a.ag.ls.length≤9223372036854775807) (dA:b.aa.ag.ls.length≤1000∧b.aa.aj.ls.length≤1000∧b.aa.aF.ls.length≤1000∧b.ay.ls.length≤1000∧V.aX.ls.length≤100000) (dB:Ak b.ay.ls) (dC:a.aH.ls.length≤24∧a.ag.ls.length≤1000∧a.ai.ls.length≤1000∧ky a.aP) (dD:nI a.ai.ls) (hr:kg V a b=(W,r1)):
    Calls v8 57 #[vP g0 0, .agg (gU a.aD a.aJ a.fI a.aK a.dz a.eH a.aP a.av a.aN a.dY a.aV a.aL a.dL a.cu a.xN a.cz a.bU.bF a.bU.bT p F h q G j r I l).toArray] w (d9 fun v w'=> ∃ y z f,v= .tuple #[]∧Own w D w' [blk g0 [vP e 0, .slice y W.aX.ls.length z] 98,row y W.aX.ls.length z (q3 bf.cells f) 42 21,sepL (q3 bf.own f),iG e r1]∧(s5 bf.abs f=W.aX.ls)):=by
 subst P R T
 have aD:=aB s
 have aF:=aB t
 have aL:=H.rowC (i:=1) rfl
 have aM:=H.pf [3]
 obtain⟨aN,aO,aP,aQ,aR,aS,aT,aU,aV,aW,aX,aZ,bg,bn,bq,bu,bv,bz,bA,bB,bC,bD,bF,bG,bH,bJ,X,Y,Z,aa,af,ag,ah,ai,di,bK⟩:=iZ aM
 have bM:=bK.px [18,19,20] [] [1]
 obtain⟨dE,aj,m,ak,dm⟩:=JI bM
 refine(wH _ _ g0 V n o g a p a.aH.ls.length h q a.ai.ls.length j k r a.ag.ls.length l e b aN aO aP aQ aR aS aT aU aV aW aX aZ bg bn bq bu bv bz bA bB bC bD bF bG bH bJ W r1 aj s rfl (m _ Q) (show a.aH.ls.length≤h∧a.aH.ls.length≤9223372036854775807 from by omega) t rfl (m _ S) (show a.ai.ls.length≤j∧a.ai.ls.length≤9223372036854775807 from by omega) (fun x9 h9=>⟨m _ (u x9 h9).1,(u x9 h9).2⟩) rfl (m _ U) (show a.ag.ls.length≤l∧a.ag.ls.length≤9223372036854775807 from by omega) X Y Z aa af ag ah ai e8 f8 e8 f5 hr).mono ?_
 rintro _ dF ⟨_,rfl,bN,bO,bP,dG,dH,dI,dJ,dK,dL,dM,dN,dO,dP,dQ,dR,dS,dU,dV,dW,dX,dY,dZ,ed,dx,ek,eu,dz,rfl,au,J,K,L,M,N,O,B,C,E⟩
 have d:=ak _ _ au
 have bQ:=aB J
 have bR:=aB K
 have bS:=aB L
 have bT:=aB M
 have bU:=aB N
 have bV:=aB O
 have bW:=aB B
 have bX:=aB C
 have bY:=aB E
 have bZ:=d.rowC (i:=1) rfl
 have cu:=d.rowC (i:=4) rfl
 have cz:=d.rowC (i:=6) rfl
 have cB:=d.rowC (i:=8) rfl
 have cK:=d.rowC (i:=10) rfl
 have cO:=d.rowC (i:=12) rfl
 have cZ:=d.rowC (i:=14) rfl
 have df:=d.rowC (i:=16) rfl
 have dh:=d.rowC (i:=18) rfl
 have av:=d.px [3,20] [] [0,1,2]
 have ax:=fe K L M N O B C E av
 have ay:=zg (Bh (zB hr).1.own rfl rfl rfl rfl rfl rfl rfl rfl) ax
 have az:=ay.pb [0]
 exact⟨_,rfl,bN,bO,bP,rfl,az,J⟩
set_option maxHeartbeats 4000000 in
theorem xk (w D g0) (O:bI) (m n f) (a:bL) (o z g p B h j q C k d) (b:aA) (P:bI) (r1:aA) (H:Own w D w [blk g0 [.pointer (some ⟨d,0,none⟩), .slice m O.aX.ls.length n] 98,row m O.aX.ls.length n (q3 bf.cells f) 42 21,sepL (q3 bf.own f),iG d b]) (r:s5 bf.abs f=O.aX.ls) (G:z=a.aH.ls.length) (I:Ro w D fun w'=>bE w' 6 o a.aH.ls.length (q3 bi.cells a.aH.ls)) (aj:a.aH.ls.length≤g∧a.aH.ls.length≤9223372036854775807) (s:s5 ae.abs j=a.ai.ls) (J:B=a.ai.ls.length) (K:Ro w D fun w'=>bE w' 3 p a.ai.ls.length (q3 ae.cells j)) (ak:a.ai.ls.length≤h∧a.ai.ls.length≤9223372036854775807) (t:∀ x ∈ j,Ro w D (fun w'=>bE w' 2 x.ak.A x.ak.ls.length (q3 aI.cells x.ak.ls))∧(x.ak.ls.length≤x.ak.c∧x.ak.ls.length≤9223372036854775807)) (L:C=a.ag.ls.length) (M:Ro w D fun w'=>bE w' 2 q a.ag.ls.length (q3 aY.cells a.ag.ls)) (au:a.ag.ls.length≤k∧a.ag.ls.length≤9223372036854775807) (bJ:b.aa.ag.ls.length≤1000∧b.aa.aj.ls.length≤1000∧b.aa.aF.ls.length≤1000∧b.ay.ls.length≤1000∧O.aX.ls.length≤100000) (bK:Dk b.aa.aj.ls) (hr:mf O a b=(P,r1)):
    Calls v8 58 #[vP g0 0, .agg (gU a.aD a.aJ a.fI a.aK a.dz a.eH a.aP a.av a.aN a.dY a.aV a.aL a.dL a.cu a.xN a.cz a.bU.bF a.bU.bT o z g p B h q C k).toArray] w (d9 fun v w'=> ∃ u y e,v= .tuple #[]∧Own w D w' [blk g0 [vP d 0, .slice u P.aX.ls.length y] 98,row u P.aX.ls.length y (q3 bf.cells e) 42 21,sepL (q3 bf.own e),iG d r1]∧(s5 bf.abs e=P.aX.ls)):=by
 subst G J L
 have ag:=aB r
 have ah:=aB s
 have av:=H.rowC (i:=1) rfl
 have ax:=H.pf [3]
 obtain⟨ay,az,aC,aD,aF,aG,aH,bM,aJ,aK,bN,aL,aM,bO,aN,aO,bP,aP,aQ,bQ,aR,aS,bR,aT,aU,bS,Q,R,S,T,U,V,W,X,bz,aV⟩:=iZ ax
 have aW:=aV.pf [18,19,20,0,2,3]
 obtain⟨bT,Y,l,Z,bA⟩:=Kr aW
 refine(xh _ _ g0 O m n f a o a.aH.ls.length g p a.ai.ls.length h j q a.ag.ls.length k d b ay az aC aD aF aG aH aJ aK aL aM aN aO aP aQ aR aS aT aU P r1 Y r rfl (l _ I) (show a.aH.ls.length≤g∧a.aH.ls.length≤9223372036854775807 from by omega) s rfl (l _ K) (show a.ai.ls.length≤h∧a.ai.ls.length≤9223372036854775807 from by omega) (fun x9 h9=>⟨l _ (t x9 h9).1,(t x9 h9).2⟩) rfl (l _ M) (show a.ag.ls.length≤k∧a.ag.ls.length≤9223372036854775807 from by omega) Q e8 j8 hr).mono ?_
 rintro _ bU ⟨_,rfl,aX,aZ,bg,bV,bW,bX,rfl,aa,E,F⟩
 have N:=Z _ _ aa
 have bD:=aB E
 have bF:=aB F
 have bG:=N.rowC (i:=1) rfl
 have bH:=N.rowC (i:=4) rfl
 have bn:=N.px [3,6] [] [0,1,2]
 have bq:=fe F R S T U V W X bn
 have bu:=zg (Bh (by obtain⟨⟨_,rfl⟩,_⟩:=pg hr; rfl) rfl (by obtain⟨⟨_,rfl⟩,_⟩:=pg hr; rfl) (by obtain⟨⟨_,rfl⟩,_⟩:=pg hr; rfl) (by obtain⟨⟨_,rfl⟩,_⟩:=pg hr; rfl) (by obtain⟨⟨_,rfl⟩,_⟩:=pg hr; rfl) (by obtain⟨⟨_,rfl⟩,_⟩:=pg hr; rfl) (by obtain⟨⟨_,rfl⟩,_⟩:=pg hr; rfl) (by obtain⟨⟨_,rfl⟩,_⟩:=pg hr; rfl)) bq
 have bv:=bu.pb [0]
 exact⟨_,rfl,aX,aZ,bg,rfl,bv,E⟩
set_option maxHeartbeats 4000000 in
theorem xm (w D g0) (U:bI) (q r k) (a:bL) (s I l t J m n u K o h) (b:aA) (V:bI) (H:Own w D w [blk g0 [.pointer (some ⟨h,0,none⟩), .slice q U.aX.ls.length r] 98,row q U.aX.ls.length r (q3 bf.cells k) 42 21,sepL (q3 bf.own k),iG h b]) (y:s5 bf.abs k=U.aX.ls) (O:I=a.aH.ls.length) (P:Ro w D fun w'=>bE w' 6 s a.aH.ls.length (q3 bi.cells a.aH.ls)) (aC:a.aH.ls.length≤l∧a.aH.ls.length≤9223372036854775807) (z:s5 ae.abs n=a.ai.ls) (Q:J=a.ai.ls.length) (R:Ro w D fun w'=>bE w' 3 t a.ai.ls.length (q3 ae.cells n)) (aD:a.ai.ls.length≤m∧a.ai.ls.length≤9223372036854775807) (B:∀ x ∈ n,Ro w D (fun w'=>bE w' 2 x.ak.A x.ak.ls.length (q3 aI.cells x.ak.ls))∧(x.ak.ls.length≤x.ak.c∧x.ak.ls.length≤9223372036854775807)) (S:K=a.ag.ls.length) (T:Ro w D fun w'=>bE w' 2 u a.ag.ls.length (q3 aY.cells a.ag.ls)) (aF:a.ag.ls.length≤o∧a.ag.ls.length≤9223372036854775807) (bP:b.aa.ag.ls.length≤1000∧b.aa.aj.ls.length≤1000∧b.aa.aF.ls.length≤1000∧b.ay.ls.length≤1000∧U.aX.ls.length≤100000) (hr:lH U a b=V):
    Calls v8 59 #[vP g0 0, .agg (gU a.aD a.aJ a.fI a.aK a.dz a.eH a.aP a.av a.aN a.dY a.aV a.aL a.dL a.cu a.xN a.cz a.bU.bF a.bU.bT s I l t J m u K o).toArray] w (d9 fun v w'=> ∃ C E j,v= .tuple #[]∧Own w D w' [blk g0 [vP h 0, .slice C V.aX.ls.length E] 98,row C V.aX.ls.length E (q3 bf.cells j) 42 21,sepL (q3 bf.own j),iG h b]∧(s5 bf.abs j=V.aX.ls)):=by
 subst O Q S
 have ay:=aB y
 have az:=aB z
 have aG:=H.rowC (i:=1) rfl
 have aH:=H.pf [3]
 obtain⟨aJ,aK,aL,W,aM,aN,aP,bQ,aQ,X,aR,aS,aT,bR,aU,aV,bS,aX,bg,bT,bn,bq,bU,bu,bv,bV,L,Y,M,Z,aa,af,ag,ah,bH,bz⟩:=iZ aH
 have e:=bz.pf [18,19,20]
 have bJ:=e.rowC (i:=5) rfl
 have bK:=e.rowC (i:=9) rfl
 obtain⟨bW,ai,p,aj,d⟩:=I5 e
 refine(xg _ _ g0 U q r k a s a.aH.ls.length l t a.ai.ls.length m n u a.ag.ls.length o h b aJ aK aL W aM aN aP aQ X aR aS aT aU aV aX bg bn bq bu bv V ai y rfl (p _ P) (show a.aH.ls.length≤l∧a.aH.ls.length≤9223372036854775807 from by omega) z rfl (p _ R) (show a.ai.ls.length≤m∧a.ai.ls.length≤9223372036854775807 from by omega) (fun f g=>⟨p _ (B f g).1,(B f g).2⟩) rfl (p _ T) (show a.ag.ls.length≤o∧a.ag.ls.length≤9223372036854775807 from by omega) L (d _ 1 _ rfl aO) (show b.aa.aj.ls.length≤W∧b.aa.aj.ls.length≤9223372036854775807 from by omega) (fun f g=>⟨d _ 2 _ rfl (ax (Q3.2 ⟨f,g,b1⟩) aO),aZ (φ:=fun _=>_) e (i:=6) rfl (ax (Q3.2 ⟨f,g,b1⟩) aW)⟩) M (d _ 5 _ rfl aO) (show b.ay.ls.length≤X∧b.ay.ls.length≤9223372036854775807 from by omega) (fun f g=>⟨d _ 6 _ rfl (ax (Q3.2 ⟨f,g,b1⟩) aO),aZ (φ:=fun _=>_) e (i:=10) rfl (ax (Q3.2 ⟨f,g,b1⟩) aW),d _ 6 _ rfl (ax (Q3.2 ⟨f,g, .tail _ b1⟩) aO),aZ (φ:=fun _=>_) e (i:=10) rfl (ax (Q3.2 ⟨f,g, .tail _ b1⟩) aW),(fun F G=>⟨d _ 6 _ rfl (ax (Q3.2 ⟨f,g, .tail _ b4⟩) (ax (Q3.2 ⟨F,G,b1⟩) aO)),aZ (φ:=fun _=>_) e (i:=10) rfl (ax (Q3.2 ⟨f,g, .tail _ b4⟩) (ax (Q3.2 ⟨F,G,b1⟩) aW)),d _ 6 _ rfl (ax (Q3.2 ⟨f,g, .tail _ b4⟩) (ax (Q3.2 ⟨F,G, .tail _ b1⟩) aO)),aZ (φ:=fun _=>_) e (i:=10) rfl (ax (Q3.2 ⟨f,g, .tail _ b4⟩) (ax (Q3.2 ⟨F,G, .tail _ b1⟩) aW))⟩),d _ 6 _ rfl (ax (Q3.2 ⟨f,g, .tail _ b2⟩) aO),aZ (φ:=fun _=>_) e (i:=10) rfl (ax (Q3.2 ⟨f,g, .tail _ b2⟩) aW),d _ 6 _ rfl (ax (Q3.2 ⟨f,g, .tail _ b3⟩) aO),aZ (φ:=fun _=>_) e (i:=10) rfl (ax (Q3.2 ⟨f,g, .tail _ b3⟩) aW),(fun F G=>⟨d _ 6 _ rfl (ax (Q3.2 ⟨f,g, .tail _ b5⟩) (ax (Q3.2 ⟨F,G,b1⟩) aO)),aZ (φ:=fun _=>_) e (i:=10) rfl (ax (Q3.2 ⟨f,g, .tail _ b5⟩) (ax (Q3.2 ⟨F,G,b1⟩) aW)),(fun y2 k2=>⟨d _ 6 _ rfl (ax (Q3.2 ⟨f,g, .tail _ b5⟩) (ax (Q3.2 ⟨F,G, .tail _ b1⟩) (ax (Q3.2 ⟨y2,k2,b1⟩) aO))),aZ (φ:=fun _=>_) e (i:=10) rfl (ax (Q3.2 ⟨f,g, .tail _ b5⟩) (ax (Q3.2 ⟨F,G, .tail _ b1⟩) (ax (Q3.2 ⟨y2,k2,b1⟩) aW)))⟩)⟩)⟩) e8 hr).mono ?_
 rintro _ bX ⟨_,rfl,bA,bB,bC,rfl,ak,N⟩
 have au:=aj _ _ ak
 have bN:=aB N
 have bO:=au.rowC (i:=1) rfl
 have bD:=au.pb [0,1,2]
 have bF:=fe L Y M Z aa af ag ah bD
 have bG:=bF.pb [0]
 exact⟨_,rfl,bA,bB,bC,rfl,bG,N⟩
set_option maxHeartbeats 4000000 in
theorem wL (w D Q) (x:bI) (f g e S b) (a:aA) (y:bI) (T:aA) (H:Own w D w [blk Q [.pointer (some ⟨b,0,none⟩), .slice f x.aX.ls.length g] 98,row f x.aX.ls.length g (q3 bf.cells e) 42 21,sepL (q3 bf.own e),iG b a]) (h:s5 bf.abs e=x.aX.ls) (bF:a.aa.ag.ls.length≤1000∧a.aa.aj.ls.length≤1000∧a.aa.aF.ls.length≤1000∧a.ay.ls.length≤1000∧x.aX.ls.length≤100000) (bG:Ak a.ay.ls) (hr:jJ x S a=(y,T)):
    Calls v8 26 #[vP Q 0,vU S] w (d9 fun v w'=> ∃ j k d,v= .tuple #[]∧Own w D w' [blk Q [vP b 0, .slice j y.aX.ls.length k] 98,row j y.aX.ls.length k (q3 bf.cells d) 42 21,sepL (q3 bf.own d),iG b T]∧(s5 bf.abs d=y.aX.ls)):=by
 have R:=aB h
 have U:=H.rowC (i:=1) rfl
 have V:=H.pf [3]
 obtain⟨W,X,Y,z,Z,aa,ae,bH,af,ag,ah,ai,aj,ak,au,av,ay,az,aC,aD,aF,aG,aH,aI,aJ,aK,m,A,B,C,E,F,G,I,bz,aL⟩:=iZ V
 have u:=aL.px [18,19,20] [] [1,2,3,4,5]
 have bA:=u.rowC (i:=17) rfl
 obtain⟨bJ,J,bB,K,n⟩:=Jg u
 refine(wI _ _ Q x f g e S b a W X Y z Z aa ae af ag ah ai aj ak au av ay az aC aD aF aG aH aI aJ aK y T J h m (n _ 1 _ rfl aO) (show a.aa.aj.ls.length≤z∧a.aa.aj.ls.length≤9223372036854775807 from by omega) (fun x9 h9=>⟨n _ 2 _ rfl (ax (Q3.2 ⟨x9,h9,b1⟩) aO),aZ (φ:=fun _=>_) u (i:=18) rfl (ax (Q3.2 ⟨x9,h9,b1⟩) aW)⟩) B C E F G I e8 f8 hr).mono ?_
 rintro _ bK ⟨_,rfl,aM,aN,aP,bL,bM,bN,bO,bP,bQ,bR,bS,bT,bU,bV,bW,bX,bY,bZ,cu,cz,bE,rfl,L,o,p,q,r,s,t,l⟩
 have c:=K _ _ L
 have aQ:=aB o
 have aR:=aB p
 have aS:=aB q
 have aT:=aB r
 have aU:=aB s
 have aV:=aB t
 have aX:=aB l
 have aY:=c.rowC (i:=1) rfl
 have bg:=c.rowC (i:=4) rfl
 have bi:=c.rowC (i:=6) rfl
 have bn:=c.rowC (i:=8) rfl
 have bq:=c.rowC (i:=10) rfl
 have bu:=c.rowC (i:=12) rfl
 have bv:=c.rowC (i:=14) rfl
 have M:=c.px [3,16,17,18,19,20] [] [0,1,2]
 have N:=fe m A p q r s t l M
 have O:=zg (Bh (by rw [(uq hr).1]) (by rw [(uq hr).1]) (by rw [(uq hr).1]) rfl rfl rfl rfl rfl rfl) N
 have P:=O.pb [0]
 exact⟨_,rfl,aM,aN,aP,rfl,P,o⟩
end Go.Proofs.YtbkagebjhbphaaaGreat
