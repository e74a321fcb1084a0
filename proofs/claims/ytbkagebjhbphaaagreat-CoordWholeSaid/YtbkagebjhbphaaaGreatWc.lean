/-
 wire: the check of a message.
-/
import Derived.Test.YtbkagebjhbphaaaGreatWb
namespace Go.Proofs.YtbkagebjhbphaaaGreat
open IntKind renaming i64→C3
open List renaming drop→r4,flatMap→q4,map→s5,toArray→v6
open Ll renaming mk→E0
open _root_.Go.Proofs.Tryz renaming isAgg125→N7,isAgg3→C2,isAgg42→N8,sizeOf28→O0,sizeOf42→N9
open WL renaming nil→C4
set_option maxRecDepth 100000
open Go.RowKit
set_option linter.unusedVariables false
set_option linter.unusedSectionVars false
set_option linter.unusedSimpArgs false
def bV (u:bW) (s:fT):List Int→Int→Int→Nat→Nat→Nat→Nat→Nat→Nat→Nat→Nat→Nat→Bool→List UInt8→List UInt8→List aN→List aQ→List aM→Int × Int × Nat × Nat × Nat × Nat × Nat × Nat × Nat × Nat × Nat × Bool × (List UInt8) × (List UInt8) × (List aN) × (List aQ) × (List aM)
  | [],b,c,d,e,f,g,h,i,j,k,l,m,n,o,p,q,r=>(b,c,d,e,f,g,h,i,j,k,l,m,n,o,p,q,r)
  | a::t,b,c,d,e,f,g,h,i,j,k,l,m,n,o,p,q,r=>if a=0 then bV u s t b c 0 e f g h i j k l m n o p q r else if a=1 then bV u s t b c d 0 f g h i j k l m n o p q r else if a=2 then bV u s t 0 c d e f g h i j k l m n o p q r else if a=3 then bV u s t b c d e f g h i j k l m n o p ([]) r else if a=4 then bV u s t b c d e 0 g h i j k l m n o p q r else if a=5 then bV u s t b c d e f 0 h i j k l m n o p q r else if a=6 then bV u s t b c d e f g h 0 j k l m n o p q r else if a=7 then bV u s t b c d e f g h i j k l m n o ([]) q r else if a=8 then bV u s t b c d e f g h i j k l false n o p q r else if a=9 then bV u s t b c d e f g 0 i j k l m n o p q r else if a=10 then bV u s t b c d e f g h i 0 k l m n o p q r else if a=11 then bV u s t b c d e f g h i j k l m n o p q ([]) else if a=12 then bV u s t b 0 d e f g h i j k l m n o p q r else if a=13 then bV u s t b c d e f g h i j k l m ([]) ([]) p q r else if a=14 then bV u s t b c d e f g h i j 0 l m n o p q r else if a=15 then bV u s t b c d e f g h i j k 0 m n o p q r else bV u s t b c d e f g h i j k l m n o p q r
def kR (a:bW):Int:=
 bnd (oJ a.av) fun b=>if b.2=true then bnd (ll b.1.mi a.aI) fun e=>if e=true then bnd (ll b.1.o5 a.eO) fun f=>if f=true then bnd (bV a b.1 b.1.bX.ls a.dK a.fA a.aU a.ax a.aX a.eQ a.bG a.aF a.eG a.cZ a.xN a.fe a.cu.aJ a.cu.aR a.aB.ls a.ah.ls a.ag.ls) fun sLrbtbtbtL=>bnd (qK (bW.mk a.av a.aI a.eO a.aP sLrbtbtbtL.1 sLrbtbtbtL.2.1 sLrbtbtbtL.2.2.1 sLrbtbtbtL.2.2.2.1 sLrbtbtbtL.2.2.2.2.1 sLrbtbtbtL.2.2.2.2.2.1 sLrbtbtbtL.2.2.2.2.2.2.1 sLrbtbtbtL.2.2.2.2.2.2.2.1 sLrbtbtbtL.2.2.2.2.2.2.2.2.1 sLrbtbtbtL.2.2.2.2.2.2.2.2.2.1 sLrbtbtbtL.2.2.2.2.2.2.2.2.2.2.1 sLrbtbtbtL.2.2.2.2.2.2.2.2.2.2.2.1 (aL.mk sLrbtbtbtL.2.2.2.2.2.2.2.2.2.2.2.2.1 sLrbtbtbtL.2.2.2.2.2.2.2.2.2.2.2.2.2.1) (E0 sLrbtbtbtL.2.2.2.2.2.2.2.2.2.2.2.2.2.2.1) (E0 sLrbtbtbtL.2.2.2.2.2.2.2.2.2.2.2.2.2.2.2.1) (E0 sLrbtbtbtL.2.2.2.2.2.2.2.2.2.2.2.2.2.2.2.2))) fun c=>if c=true then bnd (p9 a b.1.bX.ls) fun d=>if d=true then if b.1.mi=1 then if b.1.o5=1 then if a.aI=a.eO then 180 else 0 else 0 else 0 else 180 else 180 else 180 else 180 else 180
set_option maxHeartbeats 8000000 in
theorem vz (w D) (a:bW) (ak cu aa au cz ag aJ av cB ah r0) (H:Own w D w []) (dm:cu=a.aB.ls.length) (bM:Ro w D fun w'=>aY w' 6 ak a.aB.ls.length (q4 aN.cells a.aB.ls)) (ic:a.aB.ls.length≤aa∧a.aB.ls.length≤9223372036854775807) (bu:s5 af.abs aJ=a.ah.ls) (dw:cz=a.ah.ls.length) (bO:Ro w D fun w'=>aY w' 3 au a.ah.ls.length (q4 af.cells aJ)) (ig:a.ah.ls.length≤ag∧a.ah.ls.length≤9223372036854775807) (bv:∀ x ∈ aJ,Ro w D (fun w'=>aY w' 2 x.aj.A x.aj.ls.length (q4 aH.cells x.aj.ls))∧(x.aj.ls.length≤x.aj.c∧x.aj.ls.length≤9223372036854775807)) (dx:cB=a.ag.ls.length) (bP:Ro w D fun w'=>aY w' 2 av a.ag.ls.length (q4 aM.cells a.ag.ls)) (ik:a.ag.ls.length≤ah∧a.ag.ls.length≤9223372036854775807) (jI:a.aB.ls.length≤140737488355328∧a.ah.ls.length≤140737488355328∧a.ag.ls.length≤140737488355328) (hr:kR a=r0):
    Calls Tryz.prog 21 #[.agg (iA a.av a.aI a.eO a.aP a.dK a.fA a.aU a.ax a.aX a.eQ a.bG a.aF a.eG a.cZ a.xN a.fe a.cu.aJ a.cu.aR ak cu aa au cz ag av cB ah).toArray] w (dA fun v w'=>v=vI r0∧Own w D w' []):=by
 subst dm dw dx
 have ib:=aA bu
 refine cb Tryz.func21 ?_
 refine sr ?_
 refine dn (gK a ak aa au ag av ah) 42 H ?_
 intro bL jJ dK
 refine Ar rfl (Kz (vP bL 0) (Lz (vI a.av) dK 0 C2 ?_))
 obtain⟨⟨d,bR⟩,aO⟩:∃ q:fT × Bool,oJ a.av=q:=⟨_,rfl⟩
 obtain⟨jK,dL,iU,dM,iV⟩:=Iu dK
 refine cl Tryz.call49 (xw _ _ a.av d bR dL aO) ?_
 rintro _ jL ⟨bi,bz,rfl,dN,cK⟩
 have dO:=dM _ _ dN
 have iW:=dO.rowC (i:=0) rfl
 replace cK:d.bX.ls.length≤5:=cK
 refine Mz rfl (Kz (.agg #[vI d.mi,vI d.o5, .slice bi d.bX.ls.length bz]) (Kz (.bool bR) ?_))
 refine dn [vI 0,vI 0, .slice none 0 0] 128 dO ?_
 intro bD jM il
 refine df [vI d.mi,vI d.o5, .slice bi d.bX.ls.length bz] 0 il Tryz.sizeOf128 ?_
 intro jN bS
 refine An rfl (Ik (sr (Mz rfl (Kz (.bool (!bR)) (Mz rfl ?_)))))
 rcases Ls (bR) with aj | aj
 refine Gz (vP bD 0) (cn aj) (Gl (vI d.mi) (cn aj) bS 0 N7 (Gz (vP bL 1) (cn aj) (Gl (vI a.aI) (cn aj) bS 2 C2 ?_)))
 obtain⟨bT,aS⟩:∃ q,ll d.mi a.aI=q:=⟨_,rfl⟩
 obtain⟨jO,dP,iX,dQ,iY⟩:=Iu bS
 refine pW (cn aj) Tryz.call50 (qJ _ _ d.mi a.aI bT dP aS) ?_
 rintro _ jP ⟨rfl,dR⟩
 have bU:=dQ _ _ dR
 refine Gz (.bool (!bT)) (cn aj) (fw (.bool (!bT)) (Io rfl (cn aj) rfl) (Mz rfl ?_))
 rcases Ls (bT) with ax | ax
 refine Gz (vP bD 1) (cn ax) (Gl (vI d.o5) (cn ax) bU 0 N7 (Gz (vP bL 2) (cn ax) (Gl (vI a.eO) (cn ax) bU 2 C2 ?_)))
 obtain⟨bX,aX⟩:∃ q,ll d.o5 a.eO=q:=⟨_,rfl⟩
 obtain⟨jQ,dS,iZ,dU,ja⟩:=Iu bU
 refine pW (cn ax) Tryz.call50 (qJ _ _ d.o5 a.eO bX dS aX) ?_
 rintro _ jR ⟨rfl,dV⟩
 have bY:=dU _ _ dV
 refine Gz (.bool (!bX)) (cn ax) (fw (.bool (!bX)) (Io rfl (cn ax) rfl) (Mz rfl ?_))
 rcases Ls (bX) with aB | aB
 refine Ga (gK a ak aa au ag av ah) (cn aB) bY 2 N8 N9 (Gz (vP bD 2) (cn aB) (Gl (.slice bi d.bX.ls.length bz) (cn aB) bY 0 Tryz.isAgg126 ?_))
 refine Ju rfl rfl (cn aB) rfl (IP Tryz.call52 rfl ?_ (fun _ _ k=>k))
 refine cb Tryz.func52 ?_
 refine sr ?_
 refine dn (gK a ak aa au ag av ah) 42 bY ?_
 intro aF jS iq
 refine dn (iA 0 0 0 0 0 0 0 0 0 0 0 0 0 0 0 false ([]) ([]) none 0 0 none 0 0 none 0 0) 42 iq ?_
 intro dz jU iw
 refine nt (Ik (sr (Mz rfl (Kz (vJ d.bX.ls.length) (Mn rfl (bo ?_))))))
 have iy:=iw.pf []
 obtain⟨dW,I⟩:=Hu fun (b:Nat) (z:Int) (B:Int) (j:Nat) (l:Nat) (n:Nat) (o:Nat) (p:Nat) (r:Nat) (s:Nat) (t:Nat) (u:Nat) C E F W (R:Nat) f X (S:Nat) T g Y (U:Nat) h w'=>Own w D w' [blk dz (iA 0 0 0 0 0 0 0 0 0 0 0 0 0 0 0 false ([]) ([]) none 0 0 none 0 0 none 0 0) 42,blk aF (iA a.av a.aI a.eO a.aP z B j l n o p r s t u C E F W f.length R X g.length S Y h.length U) 42,blk bD [vI d.mi,vI d.o5, .slice bi d.bX.ls.length bz] 128,row bi d.bX.ls.length bz (q4 (eI .i64) d.bX.ls) 154 1,blk bL (gK a ak aa au ag av ah) 42]∧jm 6 ak aa a.aB.ls W R f∧jm 3 au ag aJ X S T∧s5 af.abs T=g∧jm 2 av ah a.ag.ls Y U h∧b≤d.bX.ls.length∧j≤a.aU+b∧l≤a.ax+b∧n≤a.aX+b∧o≤a.eQ+b∧p≤a.bG+b∧r≤a.aF+b∧s≤a.eG+b∧t≤a.cZ+b∧u≤a.xN+b∧bV a d d.bX.ls a.dK a.fA a.aU a.ax a.aX a.eQ a.bG a.aF a.eG a.cZ a.xN a.fe a.cu.aJ a.cu.aR a.aB.ls a.ah.ls a.ag.ls=bV a d (r4 b d.bX.ls) z B j l n o p r s t u C E F f g h
 refine Wp.loop (fun i:Nat × Int × Int × Nat × Nat × Nat × Nat × Nat × Nat × Nat × Nat × Nat × Bool × (List UInt8) × (List UInt8) × (Option Addr) × Nat × (List aN) × (Option Addr) × Nat × (List af) × (List aQ) × (Option Addr) × Nat × (List aM)=> [(9,vJ i.1),(8,vJ d.bX.ls.length),(7, .slice bi d.bX.ls.length bz),(4,vP dz 0),(2,vP aF 0)]) dW (fun i=>d.bX.ls.length - i.1) (0,a.dK,a.fA,a.aU,a.ax,a.aX,a.eQ,a.bG,a.aF,a.eG,a.cZ,a.xN,a.fe,a.cu.aJ,a.cu.aR,ak,aa,a.aB.ls,au,ag,aJ,a.ah.ls,av,ah,a.ag.ls) ⟨rfl,rfl,rfl,rfl,rfl,trivial⟩ (I.2 ⟨iy,by exact(jm.refl e6),by exact(jm.refl e6),by exact bu,by exact(jm.refl e6),e6,e6,e6,e6,e6,e6,e6,e6,e6,e6,rfl⟩) ?_
 rintro ⟨b,z,B,j,l,n,o,p,r,s,t,u,C,E,F,W,R,f,X,S,T,g,Y,U,h⟩ jb dB
 obtain⟨O,K,G,J,L,iB,iC,iD,iE,iF,iG,iH,iI,iJ,iK,M⟩:=I.1 dB
 have iM:=(K).le
 have iO:=(G).le
 have iP:=aA J
 have iQ:=(L).le
 refine sr (Kz (.bool (decide (((b:Nat):Int) < ((d.bX.ls.length:Nat):Int)))) (nt (Ik ?_)))
 by_cases cO:((b:Nat):Int) < ((d.bX.ls.length:Nat):Int)
 obtain⟨y,bQ⟩:=dh (ls:=d.bX.ls) (i:=b) iL f2 (O.rds (i:=3) rfl) e9
 have N:=drop_at bQ
 refine jT (dT cO) (sk (Ik (bo (sr (fw (.pointer (some ⟨ab bi,ao bi+b *1,none⟩)) (Iz (EH) rfl rfl ((O.rds (i:=3) rfl).addr (i:=b) e6) e6) (fw (vI y) (IB rfl (bJ.one Tryz.isAgg154 (((O.rds (i:=3) rfl).elem iL bQ f2).at_ (k:=0) rfl))) (Ar rfl (Mn rfl (bo (sr (Kz (.bool (decide (y=0))) (An rfl ?_))))))))))))
 by_cases P:y=0
 refine jT (dT P) (Il (Kz (vP aF 6) ?_))
 have dX:=O.pf [1]
 refine df [.int .u64 0] 6 dX O0 ?_
 intro jc dY
 refine C4 (bN (bN (Iq (Il (fw (vJ (b+1)) (Ir (e:=C3.wrap (((b:Nat):Int)+1)) yk f0) (Mz rfl (C4 ?_)))))))
 have d9:=dY.pf [1]
 exact II (b+1,z,B,0,l,n,o,p,r,s,t,u,C,E,F,W,R,f,X,S,T,g,Y,U,h) ⟨rfl,rfl,rfl,rfl,rfl,trivial⟩ (I.2 ⟨d9,by exact K,by exact G,by exact J,by exact L,e6,e6,e6,e6,e6,e6,e6,e6,e6,e6,et (M) (et (congrArg (fun q=>bV a d q z B j l n o p r s t u C E F f g h) N) (ip P))⟩) (by show d.bX.ls.length - (b+1) < d.bX.ls.length - b; omega)
 refine jF (dF P) (sr (Kz (.bool (decide (y=1))) (An rfl ?_)))
 by_cases V:y=1
 refine jT (dT V) (Il (Kz (vP aF 7) ?_))
 have ed:=O.pf [1]
 refine df [.int .u64 0] 7 ed O0 ?_
 intro jd ek
 refine C4 (bN (bN (Iq (Il (fw (vJ (b+1)) (Ir (e:=C3.wrap (((b:Nat):Int)+1)) yk f0) (Mz rfl (C4 ?_)))))))
 have eu:=ek.pf [1]
 exact II (b+1,z,B,j,0,n,o,p,r,s,t,u,C,E,F,W,R,f,X,S,T,g,Y,U,h) ⟨rfl,rfl,rfl,rfl,rfl,trivial⟩ (I.2 ⟨eu,by exact K,by exact G,by exact J,by exact L,e6,e6,e6,e6,e6,e6,e6,e6,e6,e6,et (M) (et (congrArg (fun q=>bV a d q z B j l n o p r s t u C E F f g h) N) (et (iN P) (ip V)))⟩) (by show d.bX.ls.length - (b+1) < d.bX.ls.length - b; omega)
 refine jF (dF V) (sr (Kz (.bool (decide (y=2))) (An rfl ?_)))
 by_cases Z:y=2
 refine jT (dT Z) (Il (Kz (vP aF 4) ?_))
 have eB:=O.pf [1]
 refine df [vI 0] 4 eB Tryz.sizeOf3 ?_
 intro je eD
 refine C4 (bN (bN (Iq (Il (fw (vJ (b+1)) (Ir (e:=C3.wrap (((b:Nat):Int)+1)) yk f0) (Mz rfl (C4 ?_)))))))
 have eF:=eD.pf [1]
 exact II (b+1,0,B,j,l,n,o,p,r,s,t,u,C,E,F,W,R,f,X,S,T,g,Y,U,h) ⟨rfl,rfl,rfl,rfl,rfl,trivial⟩ (I.2 ⟨eF,by exact K,by exact G,by exact J,by exact L,e6,e6,e6,e6,e6,e6,e6,e6,e6,e6,et (M) (et (congrArg (fun q=>bV a d q z B j l n o p r s t u C E F f g h) N) (et (iN P) (et (iN V) (ip Z))))⟩) (by show d.bX.ls.length - (b+1) < d.bX.ls.length - b; omega)
 refine jF (dF Z) (sr (Kz (.bool (decide (y=3))) (An rfl ?_)))
 by_cases ai:y=3
 refine jT (dT ai) (Il (Kz (vP aF 19) ?_))
 have eG:=O.pf [1]
 refine df [.slice none 0 0] 19 eG Tryz.sizeOf40 ?_
 intro jg eH
 refine C4 (bN (bN (Iq (Il (fw (vJ (b+1)) (Ir (e:=C3.wrap (((b:Nat):Int)+1)) yk f0) (Mz rfl (C4 ?_)))))))
 have eO:=eH.pf [1]
 exact II (b+1,z,B,j,l,n,o,p,r,s,t,u,C,E,F,W,R,f,none,0, [], [],Y,U,h) ⟨rfl,rfl,rfl,rfl,rfl,trivial⟩ (I.2 ⟨eO,(show jm 6 ak aa a.aB.ls W R f∧jm 3 au ag aJ none 0 ([])∧s5 af.abs ([])=([])∧jm 2 av ah a.ag.ls Y U h∧(b+1)≤d.bX.ls.length∧j≤a.aU+(b+1)∧l≤a.ax+(b+1)∧n≤a.aX+(b+1)∧o≤a.eQ+(b+1)∧p≤a.bG+(b+1)∧r≤a.aF+(b+1)∧s≤a.eG+(b+1)∧t≤a.cZ+(b+1)∧u≤a.xN+(b+1)∧bV a d d.bX.ls a.dK a.fA a.aU a.ax a.aX a.eQ a.bG a.aF a.eG a.cZ a.xN a.fe a.cu.aJ a.cu.aR a.aB.ls a.ah.ls a.ag.ls=bV a d (r4 (b+1) d.bX.ls) z B j l n o p r s t u C E F f ([]) h from ⟨by exact K,by exact jm.nil,by exact rfl,by exact L,e6,e6,e6,e6,e6,e6,e6,e6,e6,e6,et (M) (et (congrArg (fun q=>bV a d q z B j l n o p r s t u C E F f g h) N) (et (iN P) (et (iN V) (et (iN Z) (ip ai)))))⟩)⟩) (by show d.bX.ls.length - (b+1) < d.bX.ls.length - b; omega)
 refine jF (dF ai) (sr (Kz (.bool (decide (y=4))) (An rfl ?_)))
 by_cases ay:y=4
 refine jT (dT ay) (Il (Kz (vP aF 8) ?_))
 have eP:=O.pf [1]
 refine df [.int .u64 0] 8 eP O0 ?_
 intro jh eQ
 refine C4 (bN (bN (Iq (Il (fw (vJ (b+1)) (Ir (e:=C3.wrap (((b:Nat):Int)+1)) yk f0) (Mz rfl (C4 ?_)))))))
 have eT:=eQ.pf [1]
 exact II (b+1,z,B,j,l,0,o,p,r,s,t,u,C,E,F,W,R,f,X,S,T,g,Y,U,h) ⟨rfl,rfl,rfl,rfl,rfl,trivial⟩ (I.2 ⟨eT,by exact K,by exact G,by exact J,by exact L,e6,e6,e6,e6,e6,e6,e6,e6,e6,e6,et (M) (et (congrArg (fun q=>bV a d q z B j l n o p r s t u C E F f g h) N) (et (iN P) (et (iN V) (et (iN Z) (et (iN ai) (ip ay))))))⟩) (by show d.bX.ls.length - (b+1) < d.bX.ls.length - b; omega)
 refine jF (dF ay) (sr (Kz (.bool (decide (y=5))) (An rfl ?_)))
 by_cases aC:y=5
 refine jT (dT aC) (Il (Kz (vP aF 9) ?_))
 have eU:=O.pf [1]
 refine df [.int .u64 0] 9 eU O0 ?_
 intro ji eX
 refine C4 (bN (bN (Iq (Il (fw (vJ (b+1)) (Ir (e:=C3.wrap (((b:Nat):Int)+1)) yk f0) (Mz rfl (C4 ?_)))))))
 have eY:=eX.pf [1]
 exact II (b+1,z,B,j,l,n,0,p,r,s,t,u,C,E,F,W,R,f,X,S,T,g,Y,U,h) ⟨rfl,rfl,rfl,rfl,rfl,trivial⟩ (I.2 ⟨eY,by exact K,by exact G,by exact J,by exact L,e6,e6,e6,e6,e6,e6,e6,e6,e6,e6,et (M) (et (congrArg (fun q=>bV a d q z B j l n o p r s t u C E F f g h) N) (et (iN P) (et (iN V) (et (iN Z) (et (iN ai) (et (iN ay) (ip aC)))))))⟩) (by show d.bX.ls.length - (b+1) < d.bX.ls.length - b; omega)
 refine jF (dF aC) (sr (Kz (.bool (decide (y=6))) (An rfl ?_)))
 by_cases aD:y=6
 refine jT (dT aD) (Il (Kz (vP aF 11) ?_))
 have eZ:=O.pf [1]
 refine df [.int .u64 0] 11 eZ O0 ?_
 intro jk fe
 refine C4 (bN (bN (Iq (Il (fw (vJ (b+1)) (Ir (e:=C3.wrap (((b:Nat):Int)+1)) yk f0) (Mz rfl (C4 ?_)))))))
 have fo:=fe.pf [1]
 exact II (b+1,z,B,j,l,n,o,p,0,s,t,u,C,E,F,W,R,f,X,S,T,g,Y,U,h) ⟨rfl,rfl,rfl,rfl,rfl,trivial⟩ (I.2 ⟨fo,by exact K,by exact G,by exact J,by exact L,e6,e6,e6,e6,e6,e6,e6,e6,e6,e6,et (M) (et (congrArg (fun q=>bV a d q z B j l n o p r s t u C E F f g h) N) (et (iN P) (et (iN V) (et (iN Z) (et (iN ai) (et (iN ay) (et (iN aC) (ip aD))))))))⟩) (by show d.bX.ls.length - (b+1) < d.bX.ls.length - b; omega)
 refine jF (dF aD) (sr (Kz (.bool (decide (y=7))) (An rfl ?_)))
 by_cases aG:y=7
 refine jT (dT aG) (Il (Kz (vP aF 18) ?_))
 have fq:=O.pf [1]
 refine df [.slice none 0 0] 18 fq Tryz.sizeOf39 ?_
 intro jl fu
 refine C4 (bN (bN (Iq (Il (fw (vJ (b+1)) (Ir (e:=C3.wrap (((b:Nat):Int)+1)) yk f0) (Mz rfl (C4 ?_)))))))
 have fA:=fu.pf [1]
 exact II (b+1,z,B,j,l,n,o,p,r,s,t,u,C,E,F,none,0, [],X,S,T,g,Y,U,h) ⟨rfl,rfl,rfl,rfl,rfl,trivial⟩ (I.2 ⟨fA,(show jm 6 ak aa a.aB.ls none 0 ([])∧jm 3 au ag aJ X S T∧s5 af.abs T=g∧jm 2 av ah a.ag.ls Y U h∧(b+1)≤d.bX.ls.length∧j≤a.aU+(b+1)∧l≤a.ax+(b+1)∧n≤a.aX+(b+1)∧o≤a.eQ+(b+1)∧p≤a.bG+(b+1)∧r≤a.aF+(b+1)∧s≤a.eG+(b+1)∧t≤a.cZ+(b+1)∧u≤a.xN+(b+1)∧bV a d d.bX.ls a.dK a.fA a.aU a.ax a.aX a.eQ a.bG a.aF a.eG a.cZ a.xN a.fe a.cu.aJ a.cu.aR a.aB.ls a.ah.ls a.ag.ls=bV a d (r4 (b+1) d.bX.ls) z B j l n o p r s t u C E F ([]) g h from ⟨by exact jm.nil,by exact G,by exact J,by exact L,e6,e6,e6,e6,e6,e6,e6,e6,e6,e6,et (M) (et (congrArg (fun q=>bV a d q z B j l n o p r s t u C E F f g h) N) (et (iN P) (et (iN V) (et (iN Z) (et (iN ai) (et (iN ay) (et (iN aC) (et (iN aD) (ip aG)))))))))⟩)⟩) (by show d.bX.ls.length - (b+1) < d.bX.ls.length - b; omega)
 refine jF (dF aG) (sr (Kz (.bool (decide (y=8))) (An rfl ?_)))
 by_cases aK:y=8
 refine jT (dT aK) (Il (Kz (vP aF 15) ?_))
 have fB:=O.pf [1]
 refine df [.bool false] 15 fB Tryz.sizeOf4 ?_
 intro jo fC
 refine C4 (bN (bN (Iq (Il (fw (vJ (b+1)) (Ir (e:=C3.wrap (((b:Nat):Int)+1)) yk f0) (Mz rfl (C4 ?_)))))))
 have fD:=fC.pf [1]
 exact II (b+1,z,B,j,l,n,o,p,r,s,t,u,false,E,F,W,R,f,X,S,T,g,Y,U,h) ⟨rfl,rfl,rfl,rfl,rfl,trivial⟩ (I.2 ⟨fD,(show jm 6 ak aa a.aB.ls W R f∧jm 3 au ag aJ X S T∧s5 af.abs T=g∧jm 2 av ah a.ag.ls Y U h∧(b+1)≤d.bX.ls.length∧j≤a.aU+(b+1)∧l≤a.ax+(b+1)∧n≤a.aX+(b+1)∧o≤a.eQ+(b+1)∧p≤a.bG+(b+1)∧r≤a.aF+(b+1)∧s≤a.eG+(b+1)∧t≤a.cZ+(b+1)∧u≤a.xN+(b+1)∧bV a d d.bX.ls a.dK a.fA a.aU a.ax a.aX a.eQ a.bG a.aF a.eG a.cZ a.xN a.fe a.cu.aJ a.cu.aR a.aB.ls a.ah.ls a.ag.ls=bV a d (r4 (b+1) d.bX.ls) z B j l n o p r s t u false E F f g h from ⟨by exact K,by exact G,by exact J,by exact L,e6,e6,e6,e6,e6,e6,e6,e6,e6,e6,et (M) (et (congrArg (fun q=>bV a d q z B j l n o p r s t u C E F f g h) N) (et (iN P) (et (iN V) (et (iN Z) (et (iN ai) (et (iN ay) (et (iN aC) (et (iN aD) (et (iN aG) (ip aK))))))))))⟩)⟩) (by show d.bX.ls.length - (b+1) < d.bX.ls.length - b; omega)
 refine jF (dF aK) (sr (Kz (.bool (decide (y=9))) (An rfl ?_)))
 by_cases aP:y=9
 refine jT (dT aP) (Il (Kz (vP aF 10) ?_))
 have fE:=O.pf [1]
 refine df [.int .u64 0] 10 fE O0 ?_
 intro jq fF
 refine C4 (bN (bN (Iq (Il (fw (vJ (b+1)) (Ir (e:=C3.wrap (((b:Nat):Int)+1)) yk f0) (Mz rfl (C4 ?_)))))))
 have fG:=fF.pf [1]
 exact II (b+1,z,B,j,l,n,o,0,r,s,t,u,C,E,F,W,R,f,X,S,T,g,Y,U,h) ⟨rfl,rfl,rfl,rfl,rfl,trivial⟩ (I.2 ⟨fG,by exact K,by exact G,by exact J,by exact L,e6,e6,e6,e6,e6,e6,e6,e6,e6,e6,et (M) (et (congrArg (fun q=>bV a d q z B j l n o p r s t u C E F f g h) N) (et (iN P) (et (iN V) (et (iN Z) (et (iN ai) (et (iN ay) (et (iN aC) (et (iN aD) (et (iN aG) (et (iN aK) (ip aP)))))))))))⟩) (by show d.bX.ls.length - (b+1) < d.bX.ls.length - b; omega)
 refine jF (dF aP) (sr (Kz (.bool (decide (y=10))) (An rfl ?_)))
 by_cases aT:y=10
 refine jT (dT aT) (Il (Kz (vP aF 12) ?_))
 have fH:=O.pf [1]
 refine df [.int .u64 0] 12 fH O0 ?_
 intro jr fI
 refine C4 (bN (bN (Iq (Il (fw (vJ (b+1)) (Ir (e:=C3.wrap (((b:Nat):Int)+1)) yk f0) (Mz rfl (C4 ?_)))))))
 have fJ:=fI.pf [1]
 exact II (b+1,z,B,j,l,n,o,p,r,0,t,u,C,E,F,W,R,f,X,S,T,g,Y,U,h) ⟨rfl,rfl,rfl,rfl,rfl,trivial⟩ (I.2 ⟨fJ,by exact K,by exact G,by exact J,by exact L,e6,e6,e6,e6,e6,e6,e6,e6,e6,e6,et (M) (et (congrArg (fun q=>bV a d q z B j l n o p r s t u C E F f g h) N) (et (iN P) (et (iN V) (et (iN Z) (et (iN ai) (et (iN ay) (et (iN aC) (et (iN aD) (et (iN aG) (et (iN aK) (et (iN aP) (ip aT))))))))))))⟩) (by show d.bX.ls.length - (b+1) < d.bX.ls.length - b; omega)
 refine jF (dF aT) (sr (Kz (.bool (decide (y=11))) (An rfl ?_)))
 by_cases aZ:y=11
 refine jT (dT aZ) (Il (Kz (vP aF 20) ?_))
 have fK:=O.pf [1]
 refine df [.slice none 0 0] 20 fK Tryz.sizeOf29 ?_
 intro jv fM
 refine C4 (bN (bN (Iq (Il (fw (vJ (b+1)) (Ir (e:=C3.wrap (((b:Nat):Int)+1)) yk f0) (Mz rfl (C4 ?_)))))))
 have fO:=fM.pf [1]
 exact II (b+1,z,B,j,l,n,o,p,r,s,t,u,C,E,F,W,R,f,X,S,T,g,none,0, []) ⟨rfl,rfl,rfl,rfl,rfl,trivial⟩ (I.2 ⟨fO,(show jm 6 ak aa a.aB.ls W R f∧jm 3 au ag aJ X S T∧s5 af.abs T=g∧jm 2 av ah a.ag.ls none 0 ([])∧(b+1)≤d.bX.ls.length∧j≤a.aU+(b+1)∧l≤a.ax+(b+1)∧n≤a.aX+(b+1)∧o≤a.eQ+(b+1)∧p≤a.bG+(b+1)∧r≤a.aF+(b+1)∧s≤a.eG+(b+1)∧t≤a.cZ+(b+1)∧u≤a.xN+(b+1)∧bV a d d.bX.ls a.dK a.fA a.aU a.ax a.aX a.eQ a.bG a.aF a.eG a.cZ a.xN a.fe a.cu.aJ a.cu.aR a.aB.ls a.ah.ls a.ag.ls=bV a d (r4 (b+1) d.bX.ls) z B j l n o p r s t u C E F f g ([]) from ⟨by exact K,by exact G,by exact J,by exact jm.nil,e6,e6,e6,e6,e6,e6,e6,e6,e6,e6,et (M) (et (congrArg (fun q=>bV a d q z B j l n o p r s t u C E F f g h) N) (et (iN P) (et (iN V) (et (iN Z) (et (iN ai) (et (iN ay) (et (iN aC) (et (iN aD) (et (iN aG) (et (iN aK) (et (iN aP) (et (iN aT) (ip aZ)))))))))))))⟩)⟩) (by show d.bX.ls.length - (b+1) < d.bX.ls.length - b; omega)
 refine jF (dF aZ) (sr (Kz (.bool (decide (y=12))) (An rfl ?_)))
 by_cases bn:y=12
 refine jT (dT bn) (Il (Kz (vP aF 5) ?_))
 have fQ:=O.pf [1]
 refine df [vI 0] 5 fQ Tryz.sizeOf3 ?_
 intro jw fU
 refine C4 (bN (bN (Iq (Il (fw (vJ (b+1)) (Ir (e:=C3.wrap (((b:Nat):Int)+1)) yk f0) (Mz rfl (C4 ?_)))))))
 have fV:=fU.pf [1]
 exact II (b+1,z,0,j,l,n,o,p,r,s,t,u,C,E,F,W,R,f,X,S,T,g,Y,U,h) ⟨rfl,rfl,rfl,rfl,rfl,trivial⟩ (I.2 ⟨fV,by exact K,by exact G,by exact J,by exact L,e6,e6,e6,e6,e6,e6,e6,e6,e6,e6,et (M) (et (congrArg (fun q=>bV a d q z B j l n o p r s t u C E F f g h) N) (et (iN P) (et (iN V) (et (iN Z) (et (iN ai) (et (iN ay) (et (iN aC) (et (iN aD) (et (iN aG) (et (iN aK) (et (iN aP) (et (iN aT) (et (iN aZ) (ip bn))))))))))))))⟩) (by show d.bX.ls.length - (b+1) < d.bX.ls.length - b; omega)
 refine jF (dF bn) (sr (Kz (.bool (decide (y=13))) (An rfl ?_)))
 by_cases bq:y=13
 refine jT (dT bq) (Il (Kz (.agg #[.string ⟨v6 ([])⟩, .string ⟨v6 ([])⟩]) (Kz (vP aF 16) ?_)))
 have fZ:=O.pf [1]
 refine df [.string ⟨v6 ([])⟩, .string ⟨v6 ([])⟩] 16 fZ Tryz.sizeOf38 ?_
 intro jy gm
 refine C4 (bN (bN (Iq (Il (fw (vJ (b+1)) (Ir (e:=C3.wrap (((b:Nat):Int)+1)) yk f0) (Mz rfl (C4 ?_)))))))
 have gp:=gm.pf [1]
 exact II (b+1,z,B,j,l,n,o,p,r,s,t,u,C, [], [],W,R,f,X,S,T,g,Y,U,h) ⟨rfl,rfl,rfl,rfl,rfl,trivial⟩ (I.2 ⟨gp,(show jm 6 ak aa a.aB.ls W R f∧jm 3 au ag aJ X S T∧s5 af.abs T=g∧jm 2 av ah a.ag.ls Y U h∧(b+1)≤d.bX.ls.length∧j≤a.aU+(b+1)∧l≤a.ax+(b+1)∧n≤a.aX+(b+1)∧o≤a.eQ+(b+1)∧p≤a.bG+(b+1)∧r≤a.aF+(b+1)∧s≤a.eG+(b+1)∧t≤a.cZ+(b+1)∧u≤a.xN+(b+1)∧bV a d d.bX.ls a.dK a.fA a.aU a.ax a.aX a.eQ a.bG a.aF a.eG a.cZ a.xN a.fe a.cu.aJ a.cu.aR a.aB.ls a.ah.ls a.ag.ls=bV a d (r4 (b+1) d.bX.ls) z B j l n o p r s t u C ([]) ([]) f g h from ⟨by exact K,by exact G,by exact J,by exact L,e6,e6,e6,e6,e6,e6,e6,e6,e6,e6,et (M) (et (congrArg (fun q=>bV a d q z B j l n o p r s t u C E F f g h) N) (et (iN P) (et (iN V) (et (iN Z) (et (iN ai) (et (iN ay) (et (iN aC) (et (iN aD) (et (iN aG) (et (iN aK) (et (iN aP) (et (iN aT) (et (iN aZ) (et (iN bn) (ip bq)))))))))))))))⟩)⟩) (by show d.bX.ls.length - (b+1) < d.bX.ls.length - b; omega)
 refine jF (dF bq) (sr (Kz (.bool (decide (y=14))) (An rfl ?_)))
 by_cases bC:y=14
 refine jT (dT bC) (Il (Kz (vP aF 13) ?_))
 have gq:=O.pf [1]
 refine df [.int .u64 0] 13 gq O0 ?_
 intro jA gu
 refine C4 (bN (bN (Iq (Il (fw (vJ (b+1)) (Ir (e:=C3.wrap (((b:Nat):Int)+1)) yk f0) (Mz rfl (C4 ?_)))))))
 have gy:=gu.pf [1]
 exact II (b+1,z,B,j,l,n,o,p,r,s,0,u,C,E,F,W,R,f,X,S,T,g,Y,U,h) ⟨rfl,rfl,rfl,rfl,rfl,trivial⟩ (I.2 ⟨gy,by exact K,by exact G,by exact J,by exact L,e6,e6,e6,e6,e6,e6,e6,e6,e6,e6,et (M) (et (congrArg (fun q=>bV a d q z B j l n o p r s t u C E F f g h) N) (et (iN P) (et (iN V) (et (iN Z) (et (iN ai) (et (iN ay) (et (iN aC) (et (iN aD) (et (iN aG) (et (iN aK) (et (iN aP) (et (iN aT) (et (iN aZ) (et (iN bn) (et (iN bq) (ip bC))))))))))))))))⟩) (by show d.bX.ls.length - (b+1) < d.bX.ls.length - b; omega)
 refine jF (dF bC) (sr (Kz (.bool (decide (y=15))) (An rfl ?_)))
 by_cases bF:y=15
 refine jT (dT bF) (Il (Kz (vP aF 14) ?_))
 have gz:=O.pf [1]
 refine df [.int .u64 0] 14 gz O0 ?_
 intro jB gB
 refine C4 (bN (bN (Iq (Il (fw (vJ (b+1)) (Ir (e:=C3.wrap (((b:Nat):Int)+1)) yk f0) (Mz rfl (C4 ?_)))))))
 have gD:=gB.pf [1]
 exact II (b+1,z,B,j,l,n,o,p,r,s,t,0,C,E,F,W,R,f,X,S,T,g,Y,U,h) ⟨rfl,rfl,rfl,rfl,rfl,trivial⟩ (I.2 ⟨gD,by exact K,by exact G,by exact J,by exact L,e6,e6,e6,e6,e6,e6,e6,e6,e6,e6,et (M) (et (congrArg (fun q=>bV a d q z B j l n o p r s t u C E F f g h) N) (et (iN P) (et (iN V) (et (iN Z) (et (iN ai) (et (iN ay) (et (iN aC) (et (iN aD) (et (iN aG) (et (iN aK) (et (iN aP) (et (iN aT) (et (iN aZ) (et (iN bn) (et (iN bq) (et (iN bC) (ip bF)))))))))))))))))⟩) (by show d.bX.ls.length - (b+1) < d.bX.ls.length - b; omega)
 refine jF (dF bF) (IU (bN (bN (Iq (Il (fw (vJ (b+1)) (Ir (e:=C3.wrap (((b:Nat):Int)+1)) yk f0) (Mz rfl (C4 ?_))))))))
 have gF:=O.pf []
 exact II (b+1,z,B,j,l,n,o,p,r,s,t,u,C,E,F,W,R,f,X,S,T,g,Y,U,h) ⟨rfl,rfl,rfl,rfl,rfl,trivial⟩ (I.2 ⟨gF,by exact K,by exact G,by exact J,by exact L,e6,e6,e6,e6,e6,e6,e6,e6,e6,e6,et (M) (et (congrArg (fun q=>bV a d q z B j l n o p r s t u C E F f g h) N) (et (iN P) (et (iN V) (et (iN Z) (et (iN ai) (et (iN ay) (et (iN aC) (et (iN aD) (et (iN aG) (et (iN aK) (et (iN aP) (et (iN aT) (et (iN aZ) (et (iN bn) (et (iN bq) (et (iN bC) (iN bF)))))))))))))))))⟩) (by show d.bX.ls.length - (b+1) < d.bX.ls.length - b; omega)
 refine jF (dF cO) (Wp.exit (IC ?_))
 have aU:bV a d d.bX.ls a.dK a.fA a.aU a.ax a.aX a.eQ a.bG a.aF a.eG a.cZ a.xN a.fe a.cu.aJ a.cu.aR a.aB.ls a.ah.ls a.ag.ls=(z,B,j,l,n,o,p,r,s,t,u,C,E,F,f,g,h):=et (M) (et (congrArg (fun q=>bV a d q z B j l n o p r s t u C E F f g h) (dZ (ls:=d.bX.ls) (i:=b) e6)) rfl)
 refine IC (IK (Iq (sr (La (iA a.av a.aI a.eO a.aP z B j l n o p r s t u C E F W f.length R X g.length S Y h.length U) O 1 N8 N9 ?_))))
 refine df (iA a.av a.aI a.eO a.aP z B j l n o p r s t u C E F W f.length R X g.length S Y h.length U) 0 O N9 ?_
 intro jC cZ
 refine nt (rt (Fin.res (oo rfl rfl (IJ (cs:=(iA a.av a.aI a.eO a.aP z B j l n o p r s t u C E F W f.length R X g.length S Y h.length U)) N8 N9 ((cZ.cls (i:=0) rfl).lit (k:=0) (m:=21) rfl))) ?_))
 obtain⟨bG,aR⟩:∃ q,qK (bW.mk a.av a.aI a.eO a.aP z B j l n o p r s t u C (aL.mk E F) (E0 f) (E0 g) (E0 h))=q:=⟨_,rfl⟩
 obtain⟨jD,dC,bA,dD,iR⟩:=Iu cZ
 refine pW (cn aB) Tryz.call51 (zu _ _ (bW.mk a.av a.aI a.eO a.aP z B j l n o p r s t u C (aL.mk E F) (E0 f) (E0 g) (E0 h)) W f.length R X g.length S T Y h.length U bG dC rfl (fun w9 h9=>jm.rds aN.len f2 K ((bA _ bM) w9 h9)) (show f.length≤R∧f.length≤9223372036854775807 from by omega) J rfl (fun w9 h9=>sZ (aA J) (jm.rds af.len f2 G (sZ (aA bu).symm ((bA _ bO) w9 h9)))) (show g.length≤S∧g.length≤9223372036854775807 from by omega) (fun x9 h9=>⟨bA _ ((fun x9 h9=>bv x9 (Kb G h9)) x9 h9).1,((fun x9 h9=>bv x9 (Kb G h9)) x9 h9).2⟩) rfl (fun w9 h9=>jm.rds aM.len f2 L ((bA _ bP) w9 h9)) (show h.length≤U∧h.length≤9223372036854775807 from by omega) i3 aR) ?_
 rintro _ jE ⟨rfl,dE⟩
 have bH:=dD _ _ dE
 refine Gz (.bool (!bG)) (cn aB) (fw (.bool (!bG)) (Io rfl (cn aB) rfl) (Mz rfl ?_))
 rcases Ls (bG) with Q | Q
 refine Ga (gK a ak aa au ag av ah) (cn Q) bH 4 N8 N9 (Gz (vP bD 2) (cn Q) (Gl (.slice bi d.bX.ls.length bz) (cn Q) bH 2 Tryz.isAgg126 ?_))
 obtain⟨bI,aV⟩:∃ q,p9 a d.bX.ls=q:=⟨_,rfl⟩
 obtain⟨jG,dG,bB,dH,dI⟩:=Iu bH
 refine pW (cn Q) Tryz.call53 (yJ _ _ a ak a.aB.ls.length aa au a.ah.ls.length ag aJ av a.ag.ls.length ah bi d.bX.ls.length bz d.bX.ls bI dG rfl (bB _ bM) (show a.aB.ls.length≤aa∧a.aB.ls.length≤9223372036854775807 from by omega) bu rfl (bB _ bO) (show a.ah.ls.length≤ag∧a.ah.ls.length≤9223372036854775807 from by omega) (fun x9 h9=>⟨bB _ (bv x9 h9).1,(bv x9 h9).2⟩) rfl (bB _ bP) (show a.ag.ls.length≤ah∧a.ag.ls.length≤9223372036854775807 from by omega) (dI _ 3 _ rfl aW) rfl e6 i3 aV) ?_
 rintro _ jH ⟨rfl,dJ⟩
 have di:=dH _ _ dJ
 refine Gz (.bool (!bI)) (cn Q) (fw (.bool (!bI)) (Io rfl (cn Q) rfl) (nt ?_))
 rcases Ls (bI) with bf | bf
 refine jF (cn bf) (sk (Ik (Ik ?_)))
 have bg:=di.pk [2,3,4]
 refine Il (Kz (vP bD 0) (Lz (vI d.mi) bg 0 N7 (Kz (.bool (decide (d.mi=1))) (Mz rfl ?_))))
 by_cases aI:d.mi=1
 refine Gz (vP bD 1) (dT aI) (Gl (vI d.o5) (dT aI) bg 0 N7 (Gz (.bool (decide (d.o5=1))) (dT aI) (fw (.bool (decide (d.o5=1))) (Iw rfl (dT aI) rfl) (Mz rfl ?_))))
 by_cases az:d.o5=1
 refine Gz (vP bL 1) (dT az) (Gl (vI a.aI) (dT az) bg 2 C2 (Gz (vP bL 2) (dT az) (Gl (vI a.eO) (dT az) bg 2 C2 (Gz (.bool (decide (a.aI=a.eO))) (dT az) (fw (.bool (decide (a.aI=a.eO))) (Iw rfl (dT az) rfl) (nt ?_))))))
 by_cases bK:a.aI=a.eO
 refine jT (dT bK) (Ik ?_)
 have gH:=bg.pk []
 refine Il (An rfl (rt (tR (rs ?_))))
 have gI:=gH.pk []
 obtain rfl:_=180:=hr.symm.trans (et (ae aO) (et (ip aj) (et (ae aS) (et (ip ax) (et (ae aX) (et (ip aB) (et (ae aU) (et (ae aR) (et (ip Q) (et (ae aV) (et (ip bf) (et (ip aI) (et (ip az) (ip bK))))))))))))))
 exact⟨rfl,gI⟩
 refine jF (dF bK) (sk (Ik ?_))
 have gJ:=bg.pk []
 refine Il (An rfl (rt (rs ?_)))
 have gL:=gJ.pk []
 obtain rfl:_=0:=hr.symm.trans (et (ae aO) (et (ip aj) (et (ae aS) (et (ip ax) (et (ae aX) (et (ip aB) (et (ae aU) (et (ae aR) (et (ip Q) (et (ae aV) (et (ip bf) (et (ip aI) (et (ip az) (iN bK))))))))))))))
 exact⟨rfl,gL⟩
 refine Sz (dF az) (Sz (dF az) (Sz (dF az) (Sz (dF az) (Sz (dF az) (fw (.bool false) (Io rfl (dF az) rfl) (nt (jf (sk (Ik ?_)))))))))
 have gM:=bg.pk []
 refine Il (An rfl (rt (rs ?_)))
 have gN:=gM.pk []
 obtain rfl:_=0:=hr.symm.trans (et (ae aO) (et (ip aj) (et (ae aS) (et (ip ax) (et (ae aX) (et (ip aB) (et (ae aU) (et (ae aR) (et (ip Q) (et (ae aV) (et (ip bf) (et (ip aI) (iN az)))))))))))))
 exact⟨rfl,gN⟩
 refine Sz (dF aI) (Sz (dF aI) (Sz (dF aI) (fw (.bool false) (Io rfl (dF aI) rfl) (Mz rfl (Sz rfl (Sz rfl (Sz rfl (Sz rfl (Sz rfl (fw (.bool false) (Io rfl rfl rfl) (nt (jf (sk (Ik ?_))))))))))))))
 have gP:=bg.pk []
 refine Il (An rfl (rt (rs ?_)))
 have gQ:=gP.pk []
 obtain rfl:_=0:=hr.symm.trans (et (ae aO) (et (ip aj) (et (ae aS) (et (ip ax) (et (ae aX) (et (ip aB) (et (ae aU) (et (ae aR) (et (ip Q) (et (ae aV) (et (ip bf) (iN aI))))))))))))
 exact⟨rfl,gQ⟩
 refine jT (cn bf) (Ik ?_)
 have gT:=di.pk [2,3,4]
 refine Il (An rfl (rt (tR (rs ?_))))
 have gU:=gT.pk []
 obtain rfl:_=180:=hr.symm.trans (et (ae aO) (et (ip aj) (et (ae aS) (et (ip ax) (et (ae aX) (et (ip aB) (et (ae aU) (et (ae aR) (et (ip Q) (et (ae aV) (fP bf)))))))))))
 exact⟨rfl,gU⟩
 refine Sz (cn Q) (Sz (cn Q) (Sz (cn Q) (Sz (cn Q) (Sz (cn Q) (fw (.bool true) (Iw rfl (cn Q) rfl) (nt (jt (Ik ?_))))))))
 have gV:=bH.pk [2,3,4]
 refine Il (An rfl (rt (tR (rs ?_))))
 have gW:=gV.pk []
 obtain rfl:_=180:=hr.symm.trans (et (ae aO) (et (ip aj) (et (ae aS) (et (ip ax) (et (ae aX) (et (ip aB) (et (ae aU) (et (ae aR) (fP Q)))))))))
 exact⟨rfl,gW⟩
 refine Sz (cn aB) (Sz (cn aB) (Sz (cn aB) (Sz (cn aB) (Sz (cn aB) (Sz (cn aB) (fw (.bool true) (Iw rfl (cn aB) rfl) (Mz rfl (Sz rfl (Sz rfl (Sz rfl (Sz rfl (Sz rfl (fw (.bool true) (Iw rfl rfl rfl) (nt (jt (sr (An rfl (rt (tR (rs ?_))))))))))))))))))))
 have gX:=bY.pk []
 obtain rfl:_=180:=hr.symm.trans (et (ae aO) (et (ip aj) (et (ae aS) (et (ip ax) (et (ae aX) (fP aB))))))
 exact⟨rfl,gX⟩
 refine Sz (cn ax) (Sz (cn ax) (Sz (cn ax) (Sz (cn ax) (Sz (cn ax) (Sz (cn ax) (fw (.bool true) (Iw rfl (cn ax) rfl) (Mz rfl (Sz rfl (Sz rfl (Sz rfl (Sz rfl (Sz rfl (Sz rfl (fw (.bool true) (Iw rfl rfl rfl) (Mz rfl (Sz rfl (Sz rfl (Sz rfl (Sz rfl (Sz rfl (fw (.bool true) (Iw rfl rfl rfl) (nt (jt (sr (An rfl (rt (tR (rs ?_))))))))))))))))))))))))))))
 have gY:=bU.pk []
 obtain rfl:_=180:=hr.symm.trans (et (ae aO) (et (ip aj) (et (ae aS) (fP ax))))
 exact⟨rfl,gY⟩
 refine Sz (cn aj) (Sz (cn aj) (Sz (cn aj) (Sz (cn aj) (Sz (cn aj) (Sz (cn aj) (fw (.bool true) (Iw rfl (cn aj) rfl) (Mz rfl (Sz rfl (Sz rfl (Sz rfl (Sz rfl (Sz rfl (Sz rfl (fw (.bool true) (Iw rfl rfl rfl) (Mz rfl (Sz rfl (Sz rfl (Sz rfl (Sz rfl (Sz rfl (Sz rfl (fw (.bool true) (Iw rfl rfl rfl) (Mz rfl (Sz rfl (Sz rfl (Sz rfl (Sz rfl (Sz rfl (fw (.bool true) (Iw rfl rfl rfl) (nt (jt (sr (An rfl (rt (tR ?_)))))))))))))))))))))))))))))))))))
 refine rs ?_
 have gZ:=bS.pk []
 obtain rfl:_=180:=hr.symm.trans (et (ae aO) (fP aj))
 exact⟨rfl,gZ⟩
end Go.Proofs.YtbkagebjhbphaaaGreat
