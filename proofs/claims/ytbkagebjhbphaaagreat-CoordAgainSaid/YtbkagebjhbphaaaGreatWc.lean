/-
 wire: the check of a message.
-/
import Derived.Test.YtbkagebjhbphaaaGreatWb
namespace Go.Proofs.YtbkagebjhbphaaaGreat
open IntKind renaming i64→C7
open List renaming drop→r6,flatMap→q6,map→s8,toArray→y6
open Ll renaming mk→E4
open _root_.Go.Proofs.Tryz renaming isAgg125→M3,isAgg3→C6,isAgg42→M4,sizeOf28→M6,sizeOf42→M5
open WL renaming nil→D0
set_option maxRecDepth 100000
open Go.RowKit
set_option linter.unusedVariables false
set_option linter.unusedSectionVars false
set_option linter.unusedSimpArgs false
def bY (u:bM) (s:fZ):List Int→Int→Int→Nat→Nat→Nat→Nat→Nat→Nat→Nat→Nat→Nat→Bool→List UInt8→List UInt8→List bv→List aS→List aW→Int × Int × Nat × Nat × Nat × Nat × Nat × Nat × Nat × Nat × Nat × Bool × (List UInt8) × (List UInt8) × (List bv) × (List aS) × (List aW)
  | [],b,c,d,e,f,g,h,i,j,k,l,m,n,o,p,q,r=>(b,c,d,e,f,g,h,i,j,k,l,m,n,o,p,q,r)
  | a::t,b,c,d,e,f,g,h,i,j,k,l,m,n,o,p,q,r=>if a=0 then bY u s t b c 0 e f g h i j k l m n o p q r else if a=1 then bY u s t b c d 0 f g h i j k l m n o p q r else if a=2 then bY u s t 0 c d e f g h i j k l m n o p q r else if a=3 then bY u s t b c d e f g h i j k l m n o p ([]) r else if a=4 then bY u s t b c d e 0 g h i j k l m n o p q r else if a=5 then bY u s t b c d e f 0 h i j k l m n o p q r else if a=6 then bY u s t b c d e f g h 0 j k l m n o p q r else if a=7 then bY u s t b c d e f g h i j k l m n o ([]) q r else if a=8 then bY u s t b c d e f g h i j k l false n o p q r else if a=9 then bY u s t b c d e f g 0 i j k l m n o p q r else if a=10 then bY u s t b c d e f g h i 0 k l m n o p q r else if a=11 then bY u s t b c d e f g h i j k l m n o p q ([]) else if a=12 then bY u s t b 0 d e f g h i j k l m n o p q r else if a=13 then bY u s t b c d e f g h i j k l m ([]) ([]) p q r else if a=14 then bY u s t b c d e f g h i j 0 l m n o p q r else if a=15 then bY u s t b c d e f g h i j k 0 m n o p q r else bY u s t b c d e f g h i j k l m n o p q r
def mf (a:bM):Int:=
 bnd (pU a.aG) fun b=>if b.2=true then bnd (lm b.1.lX a.aH) fun e=>if e=true then bnd (lm b.1.nC a.eP) fun f=>if f=true then bnd (bY a b.1 b.1.cK.ls a.cZ a.eu a.aO a.ay a.aU a.dW a.aX a.aL a.dH a.bZ a.xN a.d9 a.bT.bG a.bT.bU a.aF.ls a.ah.ls a.ag.ls) fun sLrbtbtbtL=>bnd (qI (bM.mk a.aG a.aH a.eP a.aN sLrbtbtbtL.1 sLrbtbtbtL.2.1 sLrbtbtbtL.2.2.1 sLrbtbtbtL.2.2.2.1 sLrbtbtbtL.2.2.2.2.1 sLrbtbtbtL.2.2.2.2.2.1 sLrbtbtbtL.2.2.2.2.2.2.1 sLrbtbtbtL.2.2.2.2.2.2.2.1 sLrbtbtbtL.2.2.2.2.2.2.2.2.1 sLrbtbtbtL.2.2.2.2.2.2.2.2.2.1 sLrbtbtbtL.2.2.2.2.2.2.2.2.2.2.1 sLrbtbtbtL.2.2.2.2.2.2.2.2.2.2.2.1 (bI.mk sLrbtbtbtL.2.2.2.2.2.2.2.2.2.2.2.2.1 sLrbtbtbtL.2.2.2.2.2.2.2.2.2.2.2.2.2.1) (E4 sLrbtbtbtL.2.2.2.2.2.2.2.2.2.2.2.2.2.2.1) (E4 sLrbtbtbtL.2.2.2.2.2.2.2.2.2.2.2.2.2.2.2.1) (E4 sLrbtbtbtL.2.2.2.2.2.2.2.2.2.2.2.2.2.2.2.2))) fun c=>if c=true then bnd (ru a b.1.cK.ls) fun d=>if d=true then if b.1.lX=1 then if b.1.nC=1 then if a.aH=a.eP then 180 else 0 else 0 else 0 else 180 else 180 else 180 else 180 else 180
set_option maxHeartbeats 8000000 in
theorem uT (w D) (a:bM) (ak cu aa au cz af aJ av cB ag r0) (H:Own w D w []) (dh:cu=a.aF.ls.length) (bL:Ro w D fun w'=>bA w' 6 ak a.aF.ls.length (q6 bv.cells a.aF.ls)) (ig:a.aF.ls.length≤aa∧a.aF.ls.length≤9223372036854775807) (bi:s8 ae.abs aJ=a.ah.ls) (di:cz=a.ah.ls.length) (bO:Ro w D fun w'=>bA w' 3 au a.ah.ls.length (q6 ae.cells aJ)) (ik:a.ah.ls.length≤af∧a.ah.ls.length≤9223372036854775807) (bn:∀ x ∈ aJ,Ro w D (fun w'=>bA w' 2 x.aj.A x.aj.ls.length (q6 aI.cells x.aj.ls))∧(x.aj.ls.length≤x.aj.c∧x.aj.ls.length≤9223372036854775807)) (dm:cB=a.ag.ls.length) (bP:Ro w D fun w'=>bA w' 2 av a.ag.ls.length (q6 aW.cells a.ag.ls)) (il:a.ag.ls.length≤ag∧a.ag.ls.length≤9223372036854775807) (jI:a.aF.ls.length≤140737488355328∧a.ah.ls.length≤140737488355328∧a.ag.ls.length≤140737488355328) (hr:mf a=r0):
    Calls Tryz.prog 21 #[.agg (gD a.aG a.aH a.eP a.aN a.cZ a.eu a.aO a.ay a.aU a.dW a.aX a.aL a.dH a.bZ a.xN a.d9 a.bT.bG a.bT.bU ak cu aa au cz af av cB ag).toArray] w (dR fun v w'=>v=vI r0∧Own w D w' []):=by
 subst dh di dm
 have ic:=az bi
 refine cb Tryz.func21 ?_
 refine sr ?_
 refine dM (gT a ak aa au af av ag) 42 H ?_
 intro bK jJ dG
 refine Ar rfl (Kz (vP bK 0) (Lz (vI a.aG) dG 0 C6 ?_))
 obtain⟨⟨d,bR⟩,aL⟩:∃ q:fZ × Bool,pU a.aG=q:=⟨_,rfl⟩
 obtain⟨jK,dH,iU,dI,iV⟩:=F3 dG
 refine cl Tryz.call49 (xc _ _ a.aG d bR dH aL) ?_
 rintro _ jL ⟨aZ,bq,rfl,dJ,cK⟩
 have dL:=dI _ _ dJ
 have iW:=dL.rowC (i:=0) rfl
 replace cK:d.cK.ls.length≤5:=cK
 refine Mz rfl (Kz (.agg #[vI d.lX,vI d.nC, .slice aZ d.cK.ls.length bq]) (Kz (.bool bR) ?_))
 refine dM [vI 0,vI 0, .slice none 0 0] 128 dL ?_
 intro bC jM iq
 refine dN [vI d.lX,vI d.nC, .slice aZ d.cK.ls.length bq] 0 iq Tryz.sizeOf128 ?_
 intro jN bS
 refine An rfl (FW (sr (Mz rfl (Kz (.bool (!bR)) (Mz rfl ?_)))))
 rcases JS (bR) with aj | aj
 refine Gz (vP bC 0) (cn aj) (Gl (vI d.lX) (cn aj) bS 0 M3 (Gz (vP bK 1) (cn aj) (Gl (vI a.aH) (cn aj) bS 2 C6 ?_)))
 obtain⟨bT,aO⟩:∃ q,lm d.lX a.aH=q:=⟨_,rfl⟩
 obtain⟨jO,dO,iX,dP,iY⟩:=F3 bS
 refine uZ (cn aj) Tryz.call50 (qH _ _ d.lX a.aH bT dO aO) ?_
 rintro _ jP ⟨rfl,dQ⟩
 have bU:=dP _ _ dQ
 refine Gz (.bool (!bT)) (cn aj) (fw (.bool (!bT)) (FZ rfl (cn aj) rfl) (Mz rfl ?_))
 rcases JS (bT) with ax | ax
 refine Gz (vP bC 1) (cn ax) (Gl (vI d.nC) (cn ax) bU 0 M3 (Gz (vP bK 2) (cn ax) (Gl (vI a.eP) (cn ax) bU 2 C6 ?_)))
 obtain⟨bV,aU⟩:∃ q,lm d.nC a.eP=q:=⟨_,rfl⟩
 obtain⟨jQ,dS,iZ,dU,ja⟩:=F3 bU
 refine uZ (cn ax) Tryz.call50 (qH _ _ d.nC a.eP bV dS aU) ?_
 rintro _ jR ⟨rfl,dV⟩
 have bW:=dU _ _ dV
 refine Gz (.bool (!bV)) (cn ax) (fw (.bool (!bV)) (FZ rfl (cn ax) rfl) (Mz rfl ?_))
 rcases JS (bV) with aB | aB
 refine Ga (gT a ak aa au af av ag) (cn aB) bW 2 M4 M5 (Gz (vP bC 2) (cn aB) (Gl (.slice aZ d.cK.ls.length bq) (cn aB) bW 0 Tryz.isAgg126 ?_))
 refine He rfl rfl (cn aB) rfl (Gg Tryz.call52 rfl ?_ (fun _ _ k=>k))
 refine cb Tryz.func52 ?_
 refine sr ?_
 refine dM (gT a ak aa au af av ag) 42 bW ?_
 intro aF jS iw
 refine dM (gD 0 0 0 0 0 0 0 0 0 0 0 0 0 0 0 false ([]) ([]) none 0 0 none 0 0 none 0 0) 42 iw ?_
 intro dn jU iy
 refine nt (FW (sr (Mz rfl (Kz (vJ d.cK.ls.length) (Mn rfl (bo ?_))))))
 have iA:=iy.pf []
 obtain⟨dW,I⟩:=FC fun (b:Nat) (z:Int) (B:Int) (j:Nat) (l:Nat) (n:Nat) (o:Nat) (p:Nat) (r:Nat) (s:Nat) (t:Nat) (u:Nat) C E F W (R:Nat) f X (S:Nat) T g Y (U:Nat) h w'=>Own w D w' [blk dn (gD 0 0 0 0 0 0 0 0 0 0 0 0 0 0 0 false ([]) ([]) none 0 0 none 0 0 none 0 0) 42,blk aF (gD a.aG a.aH a.eP a.aN z B j l n o p r s t u C E F W f.length R X g.length S Y h.length U) 42,blk bC [vI d.lX,vI d.nC, .slice aZ d.cK.ls.length bq] 128,row aZ d.cK.ls.length bq (q6 (eI .i64) d.cK.ls) 154 1,blk bK (gT a ak aa au af av ag) 42]∧jl 6 ak aa a.aF.ls W R f∧jl 3 au af aJ X S T∧s8 ae.abs T=g∧jl 2 av ag a.ag.ls Y U h∧b≤d.cK.ls.length∧j≤a.aO+b∧l≤a.ay+b∧n≤a.aU+b∧o≤a.dW+b∧p≤a.aX+b∧r≤a.aL+b∧s≤a.dH+b∧t≤a.bZ+b∧u≤a.xN+b∧bY a d d.cK.ls a.cZ a.eu a.aO a.ay a.aU a.dW a.aX a.aL a.dH a.bZ a.xN a.d9 a.bT.bG a.bT.bU a.aF.ls a.ah.ls a.ag.ls=bY a d (r6 b d.cK.ls) z B j l n o p r s t u C E F f g h
 refine Wp.loop (fun i:Nat × Int × Int × Nat × Nat × Nat × Nat × Nat × Nat × Nat × Nat × Nat × Bool × (List UInt8) × (List UInt8) × (Option Addr) × Nat × (List bv) × (Option Addr) × Nat × (List ae) × (List aS) × (Option Addr) × Nat × (List aW)=> [(9,vJ i.1),(8,vJ d.cK.ls.length),(7, .slice aZ d.cK.ls.length bq),(4,vP dn 0),(2,vP aF 0)]) dW (fun i=>d.cK.ls.length - i.1) (0,a.cZ,a.eu,a.aO,a.ay,a.aU,a.dW,a.aX,a.aL,a.dH,a.bZ,a.xN,a.d9,a.bT.bG,a.bT.bU,ak,aa,a.aF.ls,au,af,aJ,a.ah.ls,av,ag,a.ag.ls) ⟨rfl,rfl,rfl,rfl,rfl,trivial⟩ (I.2 ⟨iA,by exact(jl.refl e6),by exact(jl.refl e6),by exact bi,by exact(jl.refl e6),e6,e6,e6,e6,e6,e6,e6,e6,e6,e6,rfl⟩) ?_
 rintro ⟨b,z,B,j,l,n,o,p,r,s,t,u,C,E,F,W,R,f,X,S,T,g,Y,U,h⟩ jb dw
 obtain⟨O,K,G,J,L,iB,iC,iD,iE,iF,iG,iH,iJ,iK,iL,M⟩:=I.1 dw
 have iM:=(K).le
 have iO:=(G).le
 have iP:=az J
 have iQ:=(L).le
 refine sr (Kz (.bool (decide (((b:Nat):Int) < ((d.cK.ls.length:Nat):Int)))) (nt (FW ?_)))
 by_cases cO:((b:Nat):Int) < ((d.cK.ls.length:Nat):Int)
 obtain⟨y,bQ⟩:=dK (ls:=d.cK.ls) (i:=b) iI f3 (O.rds (i:=3) rfl) e9
 have N:=drop_at bQ
 refine jT (dT cO) (sk (FW (bo (sr (fw (.pointer (some ⟨ab aZ,ao aZ+b *1,none⟩)) (F4 (Dy) rfl rfl ((O.rds (i:=3) rfl).addr (i:=b) e6) e6) (fw (vI y) (F7 rfl (bX.one Tryz.isAgg154 (((O.rds (i:=3) rfl).elem iI bQ f3).at_ (k:=0) rfl))) (Ar rfl (Mn rfl (bo (sr (Kz (.bool (decide (y=0))) (An rfl ?_))))))))))))
 by_cases P:y=0
 refine jT (dT P) (FV (Kz (vP aF 6) ?_))
 have dX:=O.pf [1]
 refine dN [.int .u64 0] 6 dX M6 ?_
 intro jc dY
 refine D0 (bN (bN (FY (FV (fw (vJ (b+1)) (FX (e:=C7.wrap (((b:Nat):Int)+1)) yk f1) (Mz rfl (D0 ?_)))))))
 have dZ:=dY.pf [1]
 exact Gc (b+1,z,B,0,l,n,o,p,r,s,t,u,C,E,F,W,R,f,X,S,T,g,Y,U,h) ⟨rfl,rfl,rfl,rfl,rfl,trivial⟩ (I.2 ⟨dZ,by exact K,by exact G,by exact J,by exact L,e6,e6,e6,e6,e6,e6,e6,e6,e6,e6,et (M) (et (congrArg (fun q=>bY a d q z B j l n o p r s t u C E F f g h) N) (ip P))⟩) (by show d.cK.ls.length - (b+1) < d.cK.ls.length - b; omega)
 refine jF (dF P) (sr (Kz (.bool (decide (y=1))) (An rfl ?_)))
 by_cases V:y=1
 refine jT (dT V) (FV (Kz (vP aF 7) ?_))
 have d9:=O.pf [1]
 refine dN [.int .u64 0] 7 d9 M6 ?_
 intro jd ed
 refine D0 (bN (bN (FY (FV (fw (vJ (b+1)) (FX (e:=C7.wrap (((b:Nat):Int)+1)) yk f1) (Mz rfl (D0 ?_)))))))
 have ek:=ed.pf [1]
 exact Gc (b+1,z,B,j,0,n,o,p,r,s,t,u,C,E,F,W,R,f,X,S,T,g,Y,U,h) ⟨rfl,rfl,rfl,rfl,rfl,trivial⟩ (I.2 ⟨ek,by exact K,by exact G,by exact J,by exact L,e6,e6,e6,e6,e6,e6,e6,e6,e6,e6,et (M) (et (congrArg (fun q=>bY a d q z B j l n o p r s t u C E F f g h) N) (et (iN P) (ip V)))⟩) (by show d.cK.ls.length - (b+1) < d.cK.ls.length - b; omega)
 refine jF (dF V) (sr (Kz (.bool (decide (y=2))) (An rfl ?_)))
 by_cases Z:y=2
 refine jT (dT Z) (FV (Kz (vP aF 4) ?_))
 have eu:=O.pf [1]
 refine dN [vI 0] 4 eu Tryz.sizeOf3 ?_
 intro je eB
 refine D0 (bN (bN (FY (FV (fw (vJ (b+1)) (FX (e:=C7.wrap (((b:Nat):Int)+1)) yk f1) (Mz rfl (D0 ?_)))))))
 have eD:=eB.pf [1]
 exact Gc (b+1,0,B,j,l,n,o,p,r,s,t,u,C,E,F,W,R,f,X,S,T,g,Y,U,h) ⟨rfl,rfl,rfl,rfl,rfl,trivial⟩ (I.2 ⟨eD,by exact K,by exact G,by exact J,by exact L,e6,e6,e6,e6,e6,e6,e6,e6,e6,e6,et (M) (et (congrArg (fun q=>bY a d q z B j l n o p r s t u C E F f g h) N) (et (iN P) (et (iN V) (ip Z))))⟩) (by show d.cK.ls.length - (b+1) < d.cK.ls.length - b; omega)
 refine jF (dF Z) (sr (Kz (.bool (decide (y=3))) (An rfl ?_)))
 by_cases ah:y=3
 refine jT (dT ah) (FV (Kz (vP aF 19) ?_))
 have eF:=O.pf [1]
 refine dN [.slice none 0 0] 19 eF Tryz.sizeOf40 ?_
 intro jg eG
 refine D0 (bN (bN (FY (FV (fw (vJ (b+1)) (FX (e:=C7.wrap (((b:Nat):Int)+1)) yk f1) (Mz rfl (D0 ?_)))))))
 have eH:=eG.pf [1]
 exact Gc (b+1,z,B,j,l,n,o,p,r,s,t,u,C,E,F,W,R,f,none,0, [], [],Y,U,h) ⟨rfl,rfl,rfl,rfl,rfl,trivial⟩ (I.2 ⟨eH,(show jl 6 ak aa a.aF.ls W R f∧jl 3 au af aJ none 0 ([])∧s8 ae.abs ([])=([])∧jl 2 av ag a.ag.ls Y U h∧(b+1)≤d.cK.ls.length∧j≤a.aO+(b+1)∧l≤a.ay+(b+1)∧n≤a.aU+(b+1)∧o≤a.dW+(b+1)∧p≤a.aX+(b+1)∧r≤a.aL+(b+1)∧s≤a.dH+(b+1)∧t≤a.bZ+(b+1)∧u≤a.xN+(b+1)∧bY a d d.cK.ls a.cZ a.eu a.aO a.ay a.aU a.dW a.aX a.aL a.dH a.bZ a.xN a.d9 a.bT.bG a.bT.bU a.aF.ls a.ah.ls a.ag.ls=bY a d (r6 (b+1) d.cK.ls) z B j l n o p r s t u C E F f ([]) h from ⟨by exact K,by exact jl.nil,by exact rfl,by exact L,e6,e6,e6,e6,e6,e6,e6,e6,e6,e6,et (M) (et (congrArg (fun q=>bY a d q z B j l n o p r s t u C E F f g h) N) (et (iN P) (et (iN V) (et (iN Z) (ip ah)))))⟩)⟩) (by show d.cK.ls.length - (b+1) < d.cK.ls.length - b; omega)
 refine jF (dF ah) (sr (Kz (.bool (decide (y=4))) (An rfl ?_)))
 by_cases ay:y=4
 refine jT (dT ay) (FV (Kz (vP aF 8) ?_))
 have eO:=O.pf [1]
 refine dN [.int .u64 0] 8 eO M6 ?_
 intro jh eP
 refine D0 (bN (bN (FY (FV (fw (vJ (b+1)) (FX (e:=C7.wrap (((b:Nat):Int)+1)) yk f1) (Mz rfl (D0 ?_)))))))
 have eQ:=eP.pf [1]
 exact Gc (b+1,z,B,j,l,0,o,p,r,s,t,u,C,E,F,W,R,f,X,S,T,g,Y,U,h) ⟨rfl,rfl,rfl,rfl,rfl,trivial⟩ (I.2 ⟨eQ,by exact K,by exact G,by exact J,by exact L,e6,e6,e6,e6,e6,e6,e6,e6,e6,e6,et (M) (et (congrArg (fun q=>bY a d q z B j l n o p r s t u C E F f g h) N) (et (iN P) (et (iN V) (et (iN Z) (et (iN ah) (ip ay))))))⟩) (by show d.cK.ls.length - (b+1) < d.cK.ls.length - b; omega)
 refine jF (dF ay) (sr (Kz (.bool (decide (y=5))) (An rfl ?_)))
 by_cases aC:y=5
 refine jT (dT aC) (FV (Kz (vP aF 9) ?_))
 have eT:=O.pf [1]
 refine dN [.int .u64 0] 9 eT M6 ?_
 intro ji eU
 refine D0 (bN (bN (FY (FV (fw (vJ (b+1)) (FX (e:=C7.wrap (((b:Nat):Int)+1)) yk f1) (Mz rfl (D0 ?_)))))))
 have eX:=eU.pf [1]
 exact Gc (b+1,z,B,j,l,n,0,p,r,s,t,u,C,E,F,W,R,f,X,S,T,g,Y,U,h) ⟨rfl,rfl,rfl,rfl,rfl,trivial⟩ (I.2 ⟨eX,by exact K,by exact G,by exact J,by exact L,e6,e6,e6,e6,e6,e6,e6,e6,e6,e6,et (M) (et (congrArg (fun q=>bY a d q z B j l n o p r s t u C E F f g h) N) (et (iN P) (et (iN V) (et (iN Z) (et (iN ah) (et (iN ay) (ip aC)))))))⟩) (by show d.cK.ls.length - (b+1) < d.cK.ls.length - b; omega)
 refine jF (dF aC) (sr (Kz (.bool (decide (y=6))) (An rfl ?_)))
 by_cases aD:y=6
 refine jT (dT aD) (FV (Kz (vP aF 11) ?_))
 have eY:=O.pf [1]
 refine dN [.int .u64 0] 11 eY M6 ?_
 intro jk fe
 refine D0 (bN (bN (FY (FV (fw (vJ (b+1)) (FX (e:=C7.wrap (((b:Nat):Int)+1)) yk f1) (Mz rfl (D0 ?_)))))))
 have fo:=fe.pf [1]
 exact Gc (b+1,z,B,j,l,n,o,p,0,s,t,u,C,E,F,W,R,f,X,S,T,g,Y,U,h) ⟨rfl,rfl,rfl,rfl,rfl,trivial⟩ (I.2 ⟨fo,by exact K,by exact G,by exact J,by exact L,e6,e6,e6,e6,e6,e6,e6,e6,e6,e6,et (M) (et (congrArg (fun q=>bY a d q z B j l n o p r s t u C E F f g h) N) (et (iN P) (et (iN V) (et (iN Z) (et (iN ah) (et (iN ay) (et (iN aC) (ip aD))))))))⟩) (by show d.cK.ls.length - (b+1) < d.cK.ls.length - b; omega)
 refine jF (dF aD) (sr (Kz (.bool (decide (y=7))) (An rfl ?_)))
 by_cases aG:y=7
 refine jT (dT aG) (FV (Kz (vP aF 18) ?_))
 have fq:=O.pf [1]
 refine dN [.slice none 0 0] 18 fq Tryz.sizeOf39 ?_
 intro jm fu
 refine D0 (bN (bN (FY (FV (fw (vJ (b+1)) (FX (e:=C7.wrap (((b:Nat):Int)+1)) yk f1) (Mz rfl (D0 ?_)))))))
 have fA:=fu.pf [1]
 exact Gc (b+1,z,B,j,l,n,o,p,r,s,t,u,C,E,F,none,0, [],X,S,T,g,Y,U,h) ⟨rfl,rfl,rfl,rfl,rfl,trivial⟩ (I.2 ⟨fA,(show jl 6 ak aa a.aF.ls none 0 ([])∧jl 3 au af aJ X S T∧s8 ae.abs T=g∧jl 2 av ag a.ag.ls Y U h∧(b+1)≤d.cK.ls.length∧j≤a.aO+(b+1)∧l≤a.ay+(b+1)∧n≤a.aU+(b+1)∧o≤a.dW+(b+1)∧p≤a.aX+(b+1)∧r≤a.aL+(b+1)∧s≤a.dH+(b+1)∧t≤a.bZ+(b+1)∧u≤a.xN+(b+1)∧bY a d d.cK.ls a.cZ a.eu a.aO a.ay a.aU a.dW a.aX a.aL a.dH a.bZ a.xN a.d9 a.bT.bG a.bT.bU a.aF.ls a.ah.ls a.ag.ls=bY a d (r6 (b+1) d.cK.ls) z B j l n o p r s t u C E F ([]) g h from ⟨by exact jl.nil,by exact G,by exact J,by exact L,e6,e6,e6,e6,e6,e6,e6,e6,e6,e6,et (M) (et (congrArg (fun q=>bY a d q z B j l n o p r s t u C E F f g h) N) (et (iN P) (et (iN V) (et (iN Z) (et (iN ah) (et (iN ay) (et (iN aC) (et (iN aD) (ip aG)))))))))⟩)⟩) (by show d.cK.ls.length - (b+1) < d.cK.ls.length - b; omega)
 refine jF (dF aG) (sr (Kz (.bool (decide (y=8))) (An rfl ?_)))
 by_cases aK:y=8
 refine jT (dT aK) (FV (Kz (vP aF 15) ?_))
 have fB:=O.pf [1]
 refine dN [.bool false] 15 fB Tryz.sizeOf4 ?_
 intro jo fC
 refine D0 (bN (bN (FY (FV (fw (vJ (b+1)) (FX (e:=C7.wrap (((b:Nat):Int)+1)) yk f1) (Mz rfl (D0 ?_)))))))
 have fD:=fC.pf [1]
 exact Gc (b+1,z,B,j,l,n,o,p,r,s,t,u,false,E,F,W,R,f,X,S,T,g,Y,U,h) ⟨rfl,rfl,rfl,rfl,rfl,trivial⟩ (I.2 ⟨fD,(show jl 6 ak aa a.aF.ls W R f∧jl 3 au af aJ X S T∧s8 ae.abs T=g∧jl 2 av ag a.ag.ls Y U h∧(b+1)≤d.cK.ls.length∧j≤a.aO+(b+1)∧l≤a.ay+(b+1)∧n≤a.aU+(b+1)∧o≤a.dW+(b+1)∧p≤a.aX+(b+1)∧r≤a.aL+(b+1)∧s≤a.dH+(b+1)∧t≤a.bZ+(b+1)∧u≤a.xN+(b+1)∧bY a d d.cK.ls a.cZ a.eu a.aO a.ay a.aU a.dW a.aX a.aL a.dH a.bZ a.xN a.d9 a.bT.bG a.bT.bU a.aF.ls a.ah.ls a.ag.ls=bY a d (r6 (b+1) d.cK.ls) z B j l n o p r s t u false E F f g h from ⟨by exact K,by exact G,by exact J,by exact L,e6,e6,e6,e6,e6,e6,e6,e6,e6,e6,et (M) (et (congrArg (fun q=>bY a d q z B j l n o p r s t u C E F f g h) N) (et (iN P) (et (iN V) (et (iN Z) (et (iN ah) (et (iN ay) (et (iN aC) (et (iN aD) (et (iN aG) (ip aK))))))))))⟩)⟩) (by show d.cK.ls.length - (b+1) < d.cK.ls.length - b; omega)
 refine jF (dF aK) (sr (Kz (.bool (decide (y=9))) (An rfl ?_)))
 by_cases aM:y=9
 refine jT (dT aM) (FV (Kz (vP aF 10) ?_))
 have fE:=O.pf [1]
 refine dN [.int .u64 0] 10 fE M6 ?_
 intro jq fF
 refine D0 (bN (bN (FY (FV (fw (vJ (b+1)) (FX (e:=C7.wrap (((b:Nat):Int)+1)) yk f1) (Mz rfl (D0 ?_)))))))
 have fG:=fF.pf [1]
 exact Gc (b+1,z,B,j,l,n,o,0,r,s,t,u,C,E,F,W,R,f,X,S,T,g,Y,U,h) ⟨rfl,rfl,rfl,rfl,rfl,trivial⟩ (I.2 ⟨fG,by exact K,by exact G,by exact J,by exact L,e6,e6,e6,e6,e6,e6,e6,e6,e6,e6,et (M) (et (congrArg (fun q=>bY a d q z B j l n o p r s t u C E F f g h) N) (et (iN P) (et (iN V) (et (iN Z) (et (iN ah) (et (iN ay) (et (iN aC) (et (iN aD) (et (iN aG) (et (iN aK) (ip aM)))))))))))⟩) (by show d.cK.ls.length - (b+1) < d.cK.ls.length - b; omega)
 refine jF (dF aM) (sr (Kz (.bool (decide (y=10))) (An rfl ?_)))
 by_cases aQ:y=10
 refine jT (dT aQ) (FV (Kz (vP aF 12) ?_))
 have fH:=O.pf [1]
 refine dN [.int .u64 0] 12 fH M6 ?_
 intro jr fI
 refine D0 (bN (bN (FY (FV (fw (vJ (b+1)) (FX (e:=C7.wrap (((b:Nat):Int)+1)) yk f1) (Mz rfl (D0 ?_)))))))
 have fJ:=fI.pf [1]
 exact Gc (b+1,z,B,j,l,n,o,p,r,0,t,u,C,E,F,W,R,f,X,S,T,g,Y,U,h) ⟨rfl,rfl,rfl,rfl,rfl,trivial⟩ (I.2 ⟨fJ,by exact K,by exact G,by exact J,by exact L,e6,e6,e6,e6,e6,e6,e6,e6,e6,e6,et (M) (et (congrArg (fun q=>bY a d q z B j l n o p r s t u C E F f g h) N) (et (iN P) (et (iN V) (et (iN Z) (et (iN ah) (et (iN ay) (et (iN aC) (et (iN aD) (et (iN aG) (et (iN aK) (et (iN aM) (ip aQ))))))))))))⟩) (by show d.cK.ls.length - (b+1) < d.cK.ls.length - b; omega)
 refine jF (dF aQ) (sr (Kz (.bool (decide (y=11))) (An rfl ?_)))
 by_cases aV:y=11
 refine jT (dT aV) (FV (Kz (vP aF 20) ?_))
 have fK:=O.pf [1]
 refine dN [.slice none 0 0] 20 fK Tryz.sizeOf29 ?_
 intro jv fM
 refine D0 (bN (bN (FY (FV (fw (vJ (b+1)) (FX (e:=C7.wrap (((b:Nat):Int)+1)) yk f1) (Mz rfl (D0 ?_)))))))
 have fO:=fM.pf [1]
 exact Gc (b+1,z,B,j,l,n,o,p,r,s,t,u,C,E,F,W,R,f,X,S,T,g,none,0, []) ⟨rfl,rfl,rfl,rfl,rfl,trivial⟩ (I.2 ⟨fO,(show jl 6 ak aa a.aF.ls W R f∧jl 3 au af aJ X S T∧s8 ae.abs T=g∧jl 2 av ag a.ag.ls none 0 ([])∧(b+1)≤d.cK.ls.length∧j≤a.aO+(b+1)∧l≤a.ay+(b+1)∧n≤a.aU+(b+1)∧o≤a.dW+(b+1)∧p≤a.aX+(b+1)∧r≤a.aL+(b+1)∧s≤a.dH+(b+1)∧t≤a.bZ+(b+1)∧u≤a.xN+(b+1)∧bY a d d.cK.ls a.cZ a.eu a.aO a.ay a.aU a.dW a.aX a.aL a.dH a.bZ a.xN a.d9 a.bT.bG a.bT.bU a.aF.ls a.ah.ls a.ag.ls=bY a d (r6 (b+1) d.cK.ls) z B j l n o p r s t u C E F f g ([]) from ⟨by exact K,by exact G,by exact J,by exact jl.nil,e6,e6,e6,e6,e6,e6,e6,e6,e6,e6,et (M) (et (congrArg (fun q=>bY a d q z B j l n o p r s t u C E F f g h) N) (et (iN P) (et (iN V) (et (iN Z) (et (iN ah) (et (iN ay) (et (iN aC) (et (iN aD) (et (iN aG) (et (iN aK) (et (iN aM) (et (iN aQ) (ip aV)))))))))))))⟩)⟩) (by show d.cK.ls.length - (b+1) < d.cK.ls.length - b; omega)
 refine jF (dF aV) (sr (Kz (.bool (decide (y=12))) (An rfl ?_)))
 by_cases bf:y=12
 refine jT (dT bf) (FV (Kz (vP aF 5) ?_))
 have fP:=O.pf [1]
 refine dN [vI 0] 5 fP Tryz.sizeOf3 ?_
 intro jw fQ
 refine D0 (bN (bN (FY (FV (fw (vJ (b+1)) (FX (e:=C7.wrap (((b:Nat):Int)+1)) yk f1) (Mz rfl (D0 ?_)))))))
 have fT:=fQ.pf [1]
 exact Gc (b+1,z,0,j,l,n,o,p,r,s,t,u,C,E,F,W,R,f,X,S,T,g,Y,U,h) ⟨rfl,rfl,rfl,rfl,rfl,trivial⟩ (I.2 ⟨fT,by exact K,by exact G,by exact J,by exact L,e6,e6,e6,e6,e6,e6,e6,e6,e6,e6,et (M) (et (congrArg (fun q=>bY a d q z B j l n o p r s t u C E F f g h) N) (et (iN P) (et (iN V) (et (iN Z) (et (iN ah) (et (iN ay) (et (iN aC) (et (iN aD) (et (iN aG) (et (iN aK) (et (iN aM) (et (iN aQ) (et (iN aV) (ip bf))))))))))))))⟩) (by show d.cK.ls.length - (b+1) < d.cK.ls.length - b; omega)
 refine jF (dF bf) (sr (Kz (.bool (decide (y=13))) (An rfl ?_)))
 by_cases bg:y=13
 refine jT (dT bg) (FV (Kz (.agg #[.string ⟨y6 ([])⟩, .string ⟨y6 ([])⟩]) (Kz (vP aF 16) ?_)))
 have fU:=O.pf [1]
 refine dN [.string ⟨y6 ([])⟩, .string ⟨y6 ([])⟩] 16 fU Tryz.sizeOf38 ?_
 intro jy fV
 refine D0 (bN (bN (FY (FV (fw (vJ (b+1)) (FX (e:=C7.wrap (((b:Nat):Int)+1)) yk f1) (Mz rfl (D0 ?_)))))))
 have gm:=fV.pf [1]
 exact Gc (b+1,z,B,j,l,n,o,p,r,s,t,u,C, [], [],W,R,f,X,S,T,g,Y,U,h) ⟨rfl,rfl,rfl,rfl,rfl,trivial⟩ (I.2 ⟨gm,(show jl 6 ak aa a.aF.ls W R f∧jl 3 au af aJ X S T∧s8 ae.abs T=g∧jl 2 av ag a.ag.ls Y U h∧(b+1)≤d.cK.ls.length∧j≤a.aO+(b+1)∧l≤a.ay+(b+1)∧n≤a.aU+(b+1)∧o≤a.dW+(b+1)∧p≤a.aX+(b+1)∧r≤a.aL+(b+1)∧s≤a.dH+(b+1)∧t≤a.bZ+(b+1)∧u≤a.xN+(b+1)∧bY a d d.cK.ls a.cZ a.eu a.aO a.ay a.aU a.dW a.aX a.aL a.dH a.bZ a.xN a.d9 a.bT.bG a.bT.bU a.aF.ls a.ah.ls a.ag.ls=bY a d (r6 (b+1) d.cK.ls) z B j l n o p r s t u C ([]) ([]) f g h from ⟨by exact K,by exact G,by exact J,by exact L,e6,e6,e6,e6,e6,e6,e6,e6,e6,e6,et (M) (et (congrArg (fun q=>bY a d q z B j l n o p r s t u C E F f g h) N) (et (iN P) (et (iN V) (et (iN Z) (et (iN ah) (et (iN ay) (et (iN aC) (et (iN aD) (et (iN aG) (et (iN aK) (et (iN aM) (et (iN aQ) (et (iN aV) (et (iN bf) (ip bg)))))))))))))))⟩)⟩) (by show d.cK.ls.length - (b+1) < d.cK.ls.length - b; omega)
 refine jF (dF bg) (sr (Kz (.bool (decide (y=14))) (An rfl ?_)))
 by_cases bB:y=14
 refine jT (dT bB) (FV (Kz (vP aF 13) ?_))
 have gp:=O.pf [1]
 refine dN [.int .u64 0] 13 gp M6 ?_
 intro jA gq
 refine D0 (bN (bN (FY (FV (fw (vJ (b+1)) (FX (e:=C7.wrap (((b:Nat):Int)+1)) yk f1) (Mz rfl (D0 ?_)))))))
 have gu:=gq.pf [1]
 exact Gc (b+1,z,B,j,l,n,o,p,r,s,0,u,C,E,F,W,R,f,X,S,T,g,Y,U,h) ⟨rfl,rfl,rfl,rfl,rfl,trivial⟩ (I.2 ⟨gu,by exact K,by exact G,by exact J,by exact L,e6,e6,e6,e6,e6,e6,e6,e6,e6,e6,et (M) (et (congrArg (fun q=>bY a d q z B j l n o p r s t u C E F f g h) N) (et (iN P) (et (iN V) (et (iN Z) (et (iN ah) (et (iN ay) (et (iN aC) (et (iN aD) (et (iN aG) (et (iN aK) (et (iN aM) (et (iN aQ) (et (iN aV) (et (iN bf) (et (iN bg) (ip bB))))))))))))))))⟩) (by show d.cK.ls.length - (b+1) < d.cK.ls.length - b; omega)
 refine jF (dF bB) (sr (Kz (.bool (decide (y=15))) (An rfl ?_)))
 by_cases bE:y=15
 refine jT (dT bE) (FV (Kz (vP aF 14) ?_))
 have gy:=O.pf [1]
 refine dN [.int .u64 0] 14 gy M6 ?_
 intro jB gz
 refine D0 (bN (bN (FY (FV (fw (vJ (b+1)) (FX (e:=C7.wrap (((b:Nat):Int)+1)) yk f1) (Mz rfl (D0 ?_)))))))
 have gF:=gz.pf [1]
 exact Gc (b+1,z,B,j,l,n,o,p,r,s,t,0,C,E,F,W,R,f,X,S,T,g,Y,U,h) ⟨rfl,rfl,rfl,rfl,rfl,trivial⟩ (I.2 ⟨gF,by exact K,by exact G,by exact J,by exact L,e6,e6,e6,e6,e6,e6,e6,e6,e6,e6,et (M) (et (congrArg (fun q=>bY a d q z B j l n o p r s t u C E F f g h) N) (et (iN P) (et (iN V) (et (iN Z) (et (iN ah) (et (iN ay) (et (iN aC) (et (iN aD) (et (iN aG) (et (iN aK) (et (iN aM) (et (iN aQ) (et (iN aV) (et (iN bf) (et (iN bg) (et (iN bB) (ip bE)))))))))))))))))⟩) (by show d.cK.ls.length - (b+1) < d.cK.ls.length - b; omega)
 refine jF (dF bE) (Gn (bN (bN (FY (FV (fw (vJ (b+1)) (FX (e:=C7.wrap (((b:Nat):Int)+1)) yk f1) (Mz rfl (D0 ?_))))))))
 have gG:=O.pf []
 exact Gc (b+1,z,B,j,l,n,o,p,r,s,t,u,C,E,F,W,R,f,X,S,T,g,Y,U,h) ⟨rfl,rfl,rfl,rfl,rfl,trivial⟩ (I.2 ⟨gG,by exact K,by exact G,by exact J,by exact L,e6,e6,e6,e6,e6,e6,e6,e6,e6,e6,et (M) (et (congrArg (fun q=>bY a d q z B j l n o p r s t u C E F f g h) N) (et (iN P) (et (iN V) (et (iN Z) (et (iN ah) (et (iN ay) (et (iN aC) (et (iN aD) (et (iN aG) (et (iN aK) (et (iN aM) (et (iN aQ) (et (iN aV) (et (iN bf) (et (iN bg) (et (iN bB) (iN bE)))))))))))))))))⟩) (by show d.cK.ls.length - (b+1) < d.cK.ls.length - b; omega)
 refine jF (dF cO) (Wp.exit (F6 ?_))
 have aR:bY a d d.cK.ls a.cZ a.eu a.aO a.ay a.aU a.dW a.aX a.aL a.dH a.bZ a.xN a.d9 a.bT.bG a.bT.bU a.aF.ls a.ah.ls a.ag.ls=(z,B,j,l,n,o,p,r,s,t,u,C,E,F,f,g,h):=et (M) (et (congrArg (fun q=>bY a d q z B j l n o p r s t u C E F f g h) (eZ (ls:=d.cK.ls) (i:=b) e6)) rfl)
 refine F6 (Gi (FY (sr (La (gD a.aG a.aH a.eP a.aN z B j l n o p r s t u C E F W f.length R X g.length S Y h.length U) O 1 M4 M5 ?_))))
 refine dN (gD a.aG a.aH a.eP a.aN z B j l n o p r s t u C E F W f.length R X g.length S Y h.length U) 0 O M5 ?_
 intro jC cZ
 refine nt (rt (Fin.res (ni rfl rfl (Gf (cs:=(gD a.aG a.aH a.eP a.aN z B j l n o p r s t u C E F W f.length R X g.length S Y h.length U)) M4 M5 ((cZ.cls (i:=0) rfl).lit (k:=0) (m:=21) rfl))) ?_))
 obtain⟨bF,aN⟩:∃ q,qI (bM.mk a.aG a.aH a.eP a.aN z B j l n o p r s t u C (bI.mk E F) (E4 f) (E4 g) (E4 h))=q:=⟨_,rfl⟩
 obtain⟨jD,dx,bu,dz,iR⟩:=F3 cZ
 refine uZ (cn aB) Tryz.call51 (yZ _ _ (bM.mk a.aG a.aH a.eP a.aN z B j l n o p r s t u C (bI.mk E F) (E4 f) (E4 g) (E4 h)) W f.length R X g.length S T Y h.length U bF dx rfl (fun w9 h9=>jl.rds bv.len f3 K ((bu _ bL) w9 h9)) (show f.length≤R∧f.length≤9223372036854775807 from by omega) J rfl (fun w9 h9=>pg (az J) (jl.rds ae.len f3 G (pg (az bi).symm ((bu _ bO) w9 h9)))) (show g.length≤S∧g.length≤9223372036854775807 from by omega) (fun x9 h9=>⟨bu _ ((fun x9 h9=>bn x9 (IJ G h9)) x9 h9).1,((fun x9 h9=>bn x9 (IJ G h9)) x9 h9).2⟩) rfl (fun w9 h9=>jl.rds aW.len f3 L ((bu _ bP) w9 h9)) (show h.length≤U∧h.length≤9223372036854775807 from by omega) i3 aN) ?_
 rintro _ jE ⟨rfl,dA⟩
 have bG:=dz _ _ dA
 refine Gz (.bool (!bF)) (cn aB) (fw (.bool (!bF)) (FZ rfl (cn aB) rfl) (Mz rfl ?_))
 rcases JS (bF) with Q | Q
 refine Ga (gT a ak aa au af av ag) (cn Q) bG 4 M4 M5 (Gz (vP bC 2) (cn Q) (Gl (.slice aZ d.cK.ls.length bq) (cn Q) bG 2 Tryz.isAgg126 ?_))
 obtain⟨bH,aT⟩:∃ q,ru a d.cK.ls=q:=⟨_,rfl⟩
 obtain⟨jG,dB,bz,dC,dD⟩:=F3 bG
 refine uZ (cn Q) Tryz.call53 (yz _ _ a ak a.aF.ls.length aa au a.ah.ls.length af aJ av a.ag.ls.length ag aZ d.cK.ls.length bq d.cK.ls bH dB rfl (bz _ bL) (show a.aF.ls.length≤aa∧a.aF.ls.length≤9223372036854775807 from by omega) bi rfl (bz _ bO) (show a.ah.ls.length≤af∧a.ah.ls.length≤9223372036854775807 from by omega) (fun x9 h9=>⟨bz _ (bn x9 h9).1,(bn x9 h9).2⟩) rfl (bz _ bP) (show a.ag.ls.length≤ag∧a.ag.ls.length≤9223372036854775807 from by omega) (dD _ 3 _ rfl aP) rfl e6 i3 aT) ?_
 rintro _ jH ⟨rfl,dE⟩
 have df:=dC _ _ dE
 refine Gz (.bool (!bH)) (cn Q) (fw (.bool (!bH)) (FZ rfl (cn Q) rfl) (nt ?_))
 rcases JS (bH) with aX | aX
 refine jF (cn aX) (sk (FW (FW ?_)))
 have aY:=df.pk [2,3,4]
 refine FV (Kz (vP bC 0) (Lz (vI d.lX) aY 0 M3 (Kz (.bool (decide (d.lX=1))) (Mz rfl ?_))))
 by_cases aH:d.lX=1
 refine Gz (vP bC 1) (dT aH) (Gl (vI d.nC) (dT aH) aY 0 M3 (Gz (.bool (decide (d.nC=1))) (dT aH) (fw (.bool (decide (d.nC=1))) (Gd rfl (dT aH) rfl) (Mz rfl ?_))))
 by_cases aA:d.nC=1
 refine Gz (vP bK 1) (dT aA) (Gl (vI a.aH) (dT aA) aY 2 C6 (Gz (vP bK 2) (dT aA) (Gl (vI a.eP) (dT aA) aY 2 C6 (Gz (.bool (decide (a.aH=a.eP))) (dT aA) (fw (.bool (decide (a.aH=a.eP))) (Gd rfl (dT aA) rfl) (nt ?_))))))
 by_cases bJ:a.aH=a.eP
 refine jT (dT bJ) (FW ?_)
 have gI:=aY.pk []
 refine FV (An rfl (rt (tR (rs ?_))))
 have gJ:=gI.pk []
 obtain rfl:_=180:=hr.symm.trans (et (ai aL) (et (ip aj) (et (ai aO) (et (ip ax) (et (ai aU) (et (ip aB) (et (ai aR) (et (ai aN) (et (ip Q) (et (ai aT) (et (ip aX) (et (ip aH) (et (ip aA) (ip bJ))))))))))))))
 exact⟨rfl,gJ⟩
 refine jF (dF bJ) (sk (FW ?_))
 have gK:=aY.pk []
 refine FV (An rfl (rt (rs ?_)))
 have gL:=gK.pk []
 obtain rfl:_=0:=hr.symm.trans (et (ai aL) (et (ip aj) (et (ai aO) (et (ip ax) (et (ai aU) (et (ip aB) (et (ai aR) (et (ai aN) (et (ip Q) (et (ai aT) (et (ip aX) (et (ip aH) (et (ip aA) (iN bJ))))))))))))))
 exact⟨rfl,gL⟩
 refine Sz (dF aA) (Sz (dF aA) (Sz (dF aA) (Sz (dF aA) (Sz (dF aA) (fw (.bool false) (FZ rfl (dF aA) rfl) (nt (jf (sk (FW ?_)))))))))
 have gM:=aY.pk []
 refine FV (An rfl (rt (rs ?_)))
 have gN:=gM.pk []
 obtain rfl:_=0:=hr.symm.trans (et (ai aL) (et (ip aj) (et (ai aO) (et (ip ax) (et (ai aU) (et (ip aB) (et (ai aR) (et (ai aN) (et (ip Q) (et (ai aT) (et (ip aX) (et (ip aH) (iN aA)))))))))))))
 exact⟨rfl,gN⟩
 refine Sz (dF aH) (Sz (dF aH) (Sz (dF aH) (fw (.bool false) (FZ rfl (dF aH) rfl) (Mz rfl (Sz rfl (Sz rfl (Sz rfl (Sz rfl (Sz rfl (fw (.bool false) (FZ rfl rfl rfl) (nt (jf (sk (FW ?_))))))))))))))
 have gP:=aY.pk []
 refine FV (An rfl (rt (rs ?_)))
 have gQ:=gP.pk []
 obtain rfl:_=0:=hr.symm.trans (et (ai aL) (et (ip aj) (et (ai aO) (et (ip ax) (et (ai aU) (et (ip aB) (et (ai aR) (et (ai aN) (et (ip Q) (et (ai aT) (et (ip aX) (iN aH))))))))))))
 exact⟨rfl,gQ⟩
 refine jT (cn aX) (FW ?_)
 have gU:=df.pk [2,3,4]
 refine FV (An rfl (rt (tR (rs ?_))))
 have gV:=gU.pk []
 obtain rfl:_=180:=hr.symm.trans (et (ai aL) (et (ip aj) (et (ai aO) (et (ip ax) (et (ai aU) (et (ip aB) (et (ai aR) (et (ai aN) (et (ip Q) (et (ai aT) (gB aX)))))))))))
 exact⟨rfl,gV⟩
 refine Sz (cn Q) (Sz (cn Q) (Sz (cn Q) (Sz (cn Q) (Sz (cn Q) (fw (.bool true) (Gd rfl (cn Q) rfl) (nt (jt (FW ?_))))))))
 have gW:=bG.pk [2,3,4]
 refine FV (An rfl (rt (tR (rs ?_))))
 have gX:=gW.pk []
 obtain rfl:_=180:=hr.symm.trans (et (ai aL) (et (ip aj) (et (ai aO) (et (ip ax) (et (ai aU) (et (ip aB) (et (ai aR) (et (ai aN) (gB Q)))))))))
 exact⟨rfl,gX⟩
 refine Sz (cn aB) (Sz (cn aB) (Sz (cn aB) (Sz (cn aB) (Sz (cn aB) (Sz (cn aB) (fw (.bool true) (Gd rfl (cn aB) rfl) (Mz rfl (Sz rfl (Sz rfl (Sz rfl (Sz rfl (Sz rfl (fw (.bool true) (Gd rfl rfl rfl) (nt (jt (sr (An rfl (rt (tR (rs ?_))))))))))))))))))))
 have gY:=bW.pk []
 obtain rfl:_=180:=hr.symm.trans (et (ai aL) (et (ip aj) (et (ai aO) (et (ip ax) (et (ai aU) (gB aB))))))
 exact⟨rfl,gY⟩
 refine Sz (cn ax) (Sz (cn ax) (Sz (cn ax) (Sz (cn ax) (Sz (cn ax) (Sz (cn ax) (fw (.bool true) (Gd rfl (cn ax) rfl) (Mz rfl (Sz rfl (Sz rfl (Sz rfl (Sz rfl (Sz rfl (Sz rfl (fw (.bool true) (Gd rfl rfl rfl) (Mz rfl (Sz rfl (Sz rfl (Sz rfl (Sz rfl (Sz rfl (fw (.bool true) (Gd rfl rfl rfl) (nt (jt (sr (An rfl (rt (tR (rs ?_))))))))))))))))))))))))))))
 have gZ:=bU.pk []
 obtain rfl:_=180:=hr.symm.trans (et (ai aL) (et (ip aj) (et (ai aO) (gB ax))))
 exact⟨rfl,gZ⟩
 refine Sz (cn aj) (Sz (cn aj) (Sz (cn aj) (Sz (cn aj) (Sz (cn aj) (Sz (cn aj) (fw (.bool true) (Gd rfl (cn aj) rfl) (Mz rfl (Sz rfl (Sz rfl (Sz rfl (Sz rfl (Sz rfl (Sz rfl (fw (.bool true) (Gd rfl rfl rfl) (Mz rfl (Sz rfl (Sz rfl (Sz rfl (Sz rfl (Sz rfl (Sz rfl (fw (.bool true) (Gd rfl rfl rfl) (Mz rfl (Sz rfl (Sz rfl (Sz rfl (Sz rfl (Sz rfl (fw (.bool true) (Gd rfl rfl rfl) (nt (jt (sr (An rfl (rt (tR ?_)))))))))))))))))))))))))))))))))))
 refine rs ?_
 have ib:=bS.pk []
 obtain rfl:_=180:=hr.symm.trans (et (ai aL) (gB aj))
 exact⟨rfl,ib⟩
end Go.Proofs.YtbkagebjhbphaaaGreat
