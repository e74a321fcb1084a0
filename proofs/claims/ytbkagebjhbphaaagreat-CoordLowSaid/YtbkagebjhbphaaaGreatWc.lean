/-
 wire: the check of a message.
-/
import Derived.Test.YtbkagebjhbphaaaGreatWb
namespace Go.Proofs.YtbkagebjhbphaaaGreat
open IntKind renaming i64→C7
open List renaming drop→r6,flatMap→q6,map→s8,toArray→y6
open Ll renaming mk→E4
open _root_.Go.Proofs.Tryz renaming isAgg125→L8,isAgg3→C6,isAgg42→L9,sizeOf28→M1,sizeOf42→M0
open WL renaming nil→D0
set_option maxRecDepth 100000
open Go.RowKit
set_option linter.unusedVariables false
set_option linter.unusedSectionVars false
set_option linter.unusedSimpArgs false
def cO (u:bQ) (s:fQ):List Int→Int→Int→Nat→Nat→Nat→Nat→Nat→Nat→Nat→Nat→Nat→Bool→List UInt8→List UInt8→List bC→List aX→List bv→Int × Int × Nat × Nat × Nat × Nat × Nat × Nat × Nat × Nat × Nat × Bool × (List UInt8) × (List UInt8) × (List bC) × (List aX) × (List bv)
  | [],b,c,d,e,f,g,h,i,j,k,l,m,n,o,p,q,r=>(b,c,d,e,f,g,h,i,j,k,l,m,n,o,p,q,r)
  | a::t,b,c,d,e,f,g,h,i,j,k,l,m,n,o,p,q,r=>if a=0 then cO u s t b c 0 e f g h i j k l m n o p q r else if a=1 then cO u s t b c d 0 f g h i j k l m n o p q r else if a=2 then cO u s t 0 c d e f g h i j k l m n o p q r else if a=3 then cO u s t b c d e f g h i j k l m n o p ([]) r else if a=4 then cO u s t b c d e 0 g h i j k l m n o p q r else if a=5 then cO u s t b c d e f 0 h i j k l m n o p q r else if a=6 then cO u s t b c d e f g h 0 j k l m n o p q r else if a=7 then cO u s t b c d e f g h i j k l m n o ([]) q r else if a=8 then cO u s t b c d e f g h i j k l false n o p q r else if a=9 then cO u s t b c d e f g 0 i j k l m n o p q r else if a=10 then cO u s t b c d e f g h i 0 k l m n o p q r else if a=11 then cO u s t b c d e f g h i j k l m n o p q ([]) else if a=12 then cO u s t b 0 d e f g h i j k l m n o p q r else if a=13 then cO u s t b c d e f g h i j k l m ([]) ([]) p q r else if a=14 then cO u s t b c d e f g h i j 0 l m n o p q r else if a=15 then cO u s t b c d e f g h i j k 0 m n o p q r else cO u s t b c d e f g h i j k l m n o p q r
def l5 (a:bQ):Int:=
 bnd (pq a.aM) fun b=>if b.2=true then bnd (kX b.1.lS a.aP) fun e=>if e=true then bnd (kX b.1.oo a.fO) fun f=>if f=true then bnd (cO a b.1 b.1.dh.ls a.dJ a.d9 a.aY a.ax a.bf a.di a.bi a.aI a.dM a.cZ a.xN a.dY a.bW.bJ a.bW.bX a.aD.ls a.ai.ls a.ag.ls) fun sLrbtbtbtL=>bnd (qi (bQ.mk a.aM a.aP a.fO a.aS sLrbtbtbtL.1 sLrbtbtbtL.2.1 sLrbtbtbtL.2.2.1 sLrbtbtbtL.2.2.2.1 sLrbtbtbtL.2.2.2.2.1 sLrbtbtbtL.2.2.2.2.2.1 sLrbtbtbtL.2.2.2.2.2.2.1 sLrbtbtbtL.2.2.2.2.2.2.2.1 sLrbtbtbtL.2.2.2.2.2.2.2.2.1 sLrbtbtbtL.2.2.2.2.2.2.2.2.2.1 sLrbtbtbtL.2.2.2.2.2.2.2.2.2.2.1 sLrbtbtbtL.2.2.2.2.2.2.2.2.2.2.2.1 (bK.mk sLrbtbtbtL.2.2.2.2.2.2.2.2.2.2.2.2.1 sLrbtbtbtL.2.2.2.2.2.2.2.2.2.2.2.2.2.1) (E4 sLrbtbtbtL.2.2.2.2.2.2.2.2.2.2.2.2.2.2.1) (E4 sLrbtbtbtL.2.2.2.2.2.2.2.2.2.2.2.2.2.2.2.1) (E4 sLrbtbtbtL.2.2.2.2.2.2.2.2.2.2.2.2.2.2.2.2))) fun c=>if c=true then bnd (qN a b.1.dh.ls) fun d=>if d=true then if b.1.lS=1 then if b.1.oo=1 then if a.aP=a.fO then 180 else 0 else 0 else 0 else 180 else 180 else 180 else 180 else 180
set_option maxHeartbeats 8000000 in
theorem uE (w:World) (D:Nat→Prop) (a:bQ) (ak:Option Addr) (bY aa:Nat) (au:Option Addr) (cu ae:Nat) (aI:List af) (av:Option Addr) (cz ag:Nat) (r0:Int) (H:Own w D w []) (dh:bY=a.aD.ls.length) (bL:Ro w D fun w'=>bD w' 6 ak a.aD.ls.length (q6 bC.cells a.aD.ls)) (ig:a.aD.ls.length≤aa∧a.aD.ls.length≤9223372036854775807) (bg:s8 af.abs aI=a.ai.ls) (di:cu=a.ai.ls.length) (bM:Ro w D fun w'=>bD w' 3 au a.ai.ls.length (q6 af.cells aI)) (ik:a.ai.ls.length≤ae∧a.ai.ls.length≤9223372036854775807) (bi:∀ x ∈ aI,Ro w D (fun w'=>bD w' 2 x.au.A x.au.ls.length (q6 aJ.cells x.au.ls))∧(x.au.ls.length≤x.au.c∧x.au.ls.length≤9223372036854775807)) (dm:cz=a.ag.ls.length) (bO:Ro w D fun w'=>bD w' 2 av a.ag.ls.length (q6 bv.cells a.ag.ls)) (il:a.ag.ls.length≤ag∧a.ag.ls.length≤9223372036854775807) (jI:a.aD.ls.length≤140737488355328∧a.ai.ls.length≤140737488355328∧a.ag.ls.length≤140737488355328) (hr:l5 a=r0):
    Calls Tryz.prog 21 #[.agg (gH a.aM a.aP a.fO a.aS a.dJ a.d9 a.aY a.ax a.bf a.di a.bi a.aI a.dM a.cZ a.xN a.dY a.bW.bJ a.bW.bX ak bY aa au cu ae av cz ag).toArray] w (dS fun v w'=>v=vI r0∧Own w D w' []):=by
 subst dh di dm
 have ic:=az bg
 refine cb Tryz.func21 ?_
 refine sr ?_
 refine dK (gM a ak aa au ae av ag) 42 H ?_
 intro bJ jJ dH
 refine Ar rfl (Kz (vP bJ 0) (Lz (vI a.aM) dH 0 C6 ?_))
 obtain⟨⟨d,bR⟩,aL⟩:∃ q:fQ × Bool,pq a.aM=q:=⟨_,rfl⟩
 obtain⟨jK,dI,iU,dJ,iV⟩:=EU dH
 refine cl Tryz.call49 (wH _ _ a.aM d bR dI aL) ?_
 rintro _ jL ⟨aY,bn,rfl,dL,cB⟩
 have dM:=dJ _ _ dL
 have iW:=dM.rowC (i:=0) rfl
 replace cB:d.dh.ls.length≤5:=cB
 refine Mz rfl (Kz (.agg #[vI d.lS,vI d.oo, .slice aY d.dh.ls.length bn]) (Kz (.bool bR) ?_))
 refine dK [vI 0,vI 0, .slice none 0 0] 128 dM ?_
 intro bA jM iq
 refine dN [vI d.lS,vI d.oo, .slice aY d.dh.ls.length bn] 0 iq Tryz.sizeOf128 ?_
 intro jN bS
 refine An rfl (EP (sr (Mz rfl (Kz (.bool (!bR)) (Mz rfl ?_)))))
 rcases IW (bR) with aj | aj
 refine Gz (vP bA 0) (cn aj) (Gl (vI d.lS) (cn aj) bS 0 L8 (Gz (vP bJ 1) (cn aj) (Gl (vI a.aP) (cn aj) bS 2 C6 ?_)))
 obtain⟨bT,aO⟩:∃ q,kX d.lS a.aP=q:=⟨_,rfl⟩
 obtain⟨jO,dO,iX,dP,iY⟩:=EU bS
 refine uM (cn aj) Tryz.call50 (qh _ _ d.lS a.aP bT dO aO) ?_
 rintro _ jP ⟨rfl,dQ⟩
 have bU:=dP _ _ dQ
 refine Gz (.bool (!bT)) (cn aj) (fw (.bool (!bT)) (ES rfl (cn aj) rfl) (Mz rfl ?_))
 rcases IW (bT) with ax | ax
 refine Gz (vP bA 1) (cn ax) (Gl (vI d.oo) (cn ax) bU 0 L8 (Gz (vP bJ 2) (cn ax) (Gl (vI a.fO) (cn ax) bU 2 C6 ?_)))
 obtain⟨bV,aS⟩:∃ q,kX d.oo a.fO=q:=⟨_,rfl⟩
 obtain⟨jQ,dR,iZ,dU,ja⟩:=EU bU
 refine uM (cn ax) Tryz.call50 (qh _ _ d.oo a.fO bV dR aS) ?_
 rintro _ jR ⟨rfl,dV⟩
 have bW:=dU _ _ dV
 refine Gz (.bool (!bV)) (cn ax) (fw (.bool (!bV)) (ES rfl (cn ax) rfl) (Mz rfl ?_))
 rcases IW (bV) with aB | aB
 refine Ga (gM a ak aa au ae av ag) (cn aB) bW 2 L9 M0 (Gz (vP bA 2) (cn aB) (Gl (.slice aY d.dh.ls.length bn) (cn aB) bW 0 Tryz.isAgg126 ?_))
 refine F7 rfl rfl (cn aB) rfl (Fe Tryz.call52 rfl ?_ (fun _ _ k=>k))
 refine cb Tryz.func52 ?_
 refine sr ?_
 refine dK (gM a ak aa au ae av ag) 42 bW ?_
 intro aF jS iw
 refine dK (gH 0 0 0 0 0 0 0 0 0 0 0 0 0 0 0 false ([]) ([]) none 0 0 none 0 0 none 0 0) 42 iw ?_
 intro dn jU iy
 refine nt (EP (sr (Mz rfl (Kz (vJ d.dh.ls.length) (Mn rfl (bo ?_))))))
 have iA:=iy.pf []
 obtain⟨dW,I⟩:=Ew fun(b:Nat) (z:Int) (B:Int) (j:Nat) (l:Nat) (n:Nat) (o:Nat) (p:Nat) (r:Nat) (s:Nat) (t:Nat) (u:Nat) (C:Bool) (E:List UInt8) (F:List UInt8) (W:Option Addr) (R:Nat) (f:List bC) (X:Option Addr) (S:Nat) (T:List af) (g:List aX) (Y:Option Addr) (U:Nat) (h:List bv) (w':World)=>Own w D w' [blk dn (gH 0 0 0 0 0 0 0 0 0 0 0 0 0 0 0 false ([]) ([]) none 0 0 none 0 0 none 0 0) 42,blk aF (gH a.aM a.aP a.fO a.aS z B j l n o p r s t u C E F W f.length R X g.length S Y h.length U) 42,blk bA [vI d.lS,vI d.oo, .slice aY d.dh.ls.length bn] 128,row aY d.dh.ls.length bn (q6 (eI .i64) d.dh.ls) 154 1,blk bJ (gM a ak aa au ae av ag) 42]∧jg 6 ak aa a.aD.ls W R f∧jg 3 au ae aI X S T∧s8 af.abs T=g∧jg 2 av ag a.ag.ls Y U h∧b≤d.dh.ls.length∧j≤a.aY+b∧l≤a.ax+b∧n≤a.bf+b∧o≤a.di+b∧p≤a.bi+b∧r≤a.aI+b∧s≤a.dM+b∧t≤a.cZ+b∧u≤a.xN+b∧cO a d d.dh.ls a.dJ a.d9 a.aY a.ax a.bf a.di a.bi a.aI a.dM a.cZ a.xN a.dY a.bW.bJ a.bW.bX a.aD.ls a.ai.ls a.ag.ls=cO a d (r6 b d.dh.ls) z B j l n o p r s t u C E F f g h
 refine Wp.loop (fun i:Nat × Int × Int × Nat × Nat × Nat × Nat × Nat × Nat × Nat × Nat × Nat × Bool × (List UInt8) × (List UInt8) × (Option Addr) × Nat × (List bC) × (Option Addr) × Nat × (List af) × (List aX) × (Option Addr) × Nat × (List bv)=> [(9,vJ i.1),(8,vJ d.dh.ls.length),(7, .slice aY d.dh.ls.length bn),(4,vP dn 0),(2,vP aF 0)]) dW (fun i=>d.dh.ls.length - i.1) (0,a.dJ,a.d9,a.aY,a.ax,a.bf,a.di,a.bi,a.aI,a.dM,a.cZ,a.xN,a.dY,a.bW.bJ,a.bW.bX,ak,aa,a.aD.ls,au,ae,aI,a.ai.ls,av,ag,a.ag.ls) ⟨rfl,rfl,rfl,rfl,rfl,trivial⟩ (I.2 ⟨iA,by exact(jg.refl e6),by exact(jg.refl e6),by exact bg,by exact(jg.refl e6),e6,e6,e6,e6,e6,e6,e6,e6,e6,e6,rfl⟩) ?_
 rintro ⟨b,z,B,j,l,n,o,p,r,s,t,u,C,E,F,W,R,f,X,S,T,g,Y,U,h⟩ jb dw
 obtain⟨O,K,G,J,L,iB,iC,iD,iE,iF,iG,iI,iJ,iK,iL,M⟩:=I.1 dw
 have iM:=(K).le
 have iO:=(G).le
 have iP:=az J
 have iQ:=(L).le
 refine sr (Kz (.bool (decide (((b:Nat):Int) < ((d.dh.ls.length:Nat):Int)))) (nt (EP ?_)))
 by_cases cK:((b:Nat):Int) < ((d.dh.ls.length:Nat):Int)
 obtain⟨y,bP⟩:=dG (ls:=d.dh.ls) (i:=b) iH f3 (O.rds (i:=3) rfl) e9
 have N:=drop_at bP
 refine jT (dT cK) (sk (EP (bo (sr (fw (.pointer (some ⟨ab aY,ao aY+b *1,none⟩)) (ET (CK) rfl rfl ((O.rds (i:=3) rfl).addr (i:=b) e6) e6) (fw (vI y) (EY rfl (bZ.one Tryz.isAgg154 (((O.rds (i:=3) rfl).elem iH bP f3).at_ (k:=0) rfl))) (Ar rfl (Mn rfl (bo (sr (Kz (.bool (decide (y=0))) (An rfl ?_))))))))))))
 by_cases P:y=0
 refine jT (dT P) (EO (Kz (vP aF 6) ?_))
 have dX:=O.pf [1]
 refine dN [.int .u64 0] 6 dX M1 ?_
 intro jc dY
 refine D0 (bN (bN (ER (EO (fw (vJ (b+1)) (EQ (e:=C7.wrap (((b:Nat):Int)+1)) yk f1) (Mz rfl (D0 ?_)))))))
 have dZ:=dY.pf [1]
 exact E8 (b+1,z,B,0,l,n,o,p,r,s,t,u,C,E,F,W,R,f,X,S,T,g,Y,U,h) ⟨rfl,rfl,rfl,rfl,rfl,trivial⟩ (I.2 ⟨dZ,by exact K,by exact G,by exact J,by exact L,e6,e6,e6,e6,e6,e6,e6,e6,e6,e6,et (M) (et (congrArg (fun q=>cO a d q z B j l n o p r s t u C E F f g h) N) (ip P))⟩) (by show d.dh.ls.length - (b+1) < d.dh.ls.length - b; omega)
 refine jF (dF P) (sr (Kz (.bool (decide (y=1))) (An rfl ?_)))
 by_cases V:y=1
 refine jT (dT V) (EO (Kz (vP aF 7) ?_))
 have d9:=O.pf [1]
 refine dN [.int .u64 0] 7 d9 M1 ?_
 intro jd ed
 refine D0 (bN (bN (ER (EO (fw (vJ (b+1)) (EQ (e:=C7.wrap (((b:Nat):Int)+1)) yk f1) (Mz rfl (D0 ?_)))))))
 have ek:=ed.pf [1]
 exact E8 (b+1,z,B,j,0,n,o,p,r,s,t,u,C,E,F,W,R,f,X,S,T,g,Y,U,h) ⟨rfl,rfl,rfl,rfl,rfl,trivial⟩ (I.2 ⟨ek,by exact K,by exact G,by exact J,by exact L,e6,e6,e6,e6,e6,e6,e6,e6,e6,e6,et (M) (et (congrArg (fun q=>cO a d q z B j l n o p r s t u C E F f g h) N) (et (iN P) (ip V)))⟩) (by show d.dh.ls.length - (b+1) < d.dh.ls.length - b; omega)
 refine jF (dF V) (sr (Kz (.bool (decide (y=2))) (An rfl ?_)))
 by_cases Z:y=2
 refine jT (dT Z) (EO (Kz (vP aF 4) ?_))
 have eu:=O.pf [1]
 refine dN [vI 0] 4 eu Tryz.sizeOf3 ?_
 intro je eB
 refine D0 (bN (bN (ER (EO (fw (vJ (b+1)) (EQ (e:=C7.wrap (((b:Nat):Int)+1)) yk f1) (Mz rfl (D0 ?_)))))))
 have eF:=eB.pf [1]
 exact E8 (b+1,0,B,j,l,n,o,p,r,s,t,u,C,E,F,W,R,f,X,S,T,g,Y,U,h) ⟨rfl,rfl,rfl,rfl,rfl,trivial⟩ (I.2 ⟨eF,by exact K,by exact G,by exact J,by exact L,e6,e6,e6,e6,e6,e6,e6,e6,e6,e6,et (M) (et (congrArg (fun q=>cO a d q z B j l n o p r s t u C E F f g h) N) (et (iN P) (et (iN V) (ip Z))))⟩) (by show d.dh.ls.length - (b+1) < d.dh.ls.length - b; omega)
 refine jF (dF Z) (sr (Kz (.bool (decide (y=3))) (An rfl ?_)))
 by_cases ai:y=3
 refine jT (dT ai) (EO (Kz (vP aF 19) ?_))
 have eG:=O.pf [1]
 refine dN [.slice none 0 0] 19 eG Tryz.sizeOf40 ?_
 intro jh eH
 refine D0 (bN (bN (ER (EO (fw (vJ (b+1)) (EQ (e:=C7.wrap (((b:Nat):Int)+1)) yk f1) (Mz rfl (D0 ?_)))))))
 have eO:=eH.pf [1]
 exact E8 (b+1,z,B,j,l,n,o,p,r,s,t,u,C,E,F,W,R,f,none,0, [], [],Y,U,h) ⟨rfl,rfl,rfl,rfl,rfl,trivial⟩ (I.2 ⟨eO,(show jg 6 ak aa a.aD.ls W R f∧jg 3 au ae aI none 0 ([])∧s8 af.abs ([])=([])∧jg 2 av ag a.ag.ls Y U h∧(b+1)≤d.dh.ls.length∧j≤a.aY+(b+1)∧l≤a.ax+(b+1)∧n≤a.bf+(b+1)∧o≤a.di+(b+1)∧p≤a.bi+(b+1)∧r≤a.aI+(b+1)∧s≤a.dM+(b+1)∧t≤a.cZ+(b+1)∧u≤a.xN+(b+1)∧cO a d d.dh.ls a.dJ a.d9 a.aY a.ax a.bf a.di a.bi a.aI a.dM a.cZ a.xN a.dY a.bW.bJ a.bW.bX a.aD.ls a.ai.ls a.ag.ls=cO a d (r6 (b+1) d.dh.ls) z B j l n o p r s t u C E F f ([]) h from ⟨by exact K,by exact jg.nil,by exact rfl,by exact L,e6,e6,e6,e6,e6,e6,e6,e6,e6,e6,et (M) (et (congrArg (fun q=>cO a d q z B j l n o p r s t u C E F f g h) N) (et (iN P) (et (iN V) (et (iN Z) (ip ai)))))⟩)⟩) (by show d.dh.ls.length - (b+1) < d.dh.ls.length - b; omega)
 refine jF (dF ai) (sr (Kz (.bool (decide (y=4))) (An rfl ?_)))
 by_cases ay:y=4
 refine jT (dT ay) (EO (Kz (vP aF 8) ?_))
 have eP:=O.pf [1]
 refine dN [.int .u64 0] 8 eP M1 ?_
 intro ji eQ
 refine D0 (bN (bN (ER (EO (fw (vJ (b+1)) (EQ (e:=C7.wrap (((b:Nat):Int)+1)) yk f1) (Mz rfl (D0 ?_)))))))
 have eT:=eQ.pf [1]
 exact E8 (b+1,z,B,j,l,0,o,p,r,s,t,u,C,E,F,W,R,f,X,S,T,g,Y,U,h) ⟨rfl,rfl,rfl,rfl,rfl,trivial⟩ (I.2 ⟨eT,by exact K,by exact G,by exact J,by exact L,e6,e6,e6,e6,e6,e6,e6,e6,e6,e6,et (M) (et (congrArg (fun q=>cO a d q z B j l n o p r s t u C E F f g h) N) (et (iN P) (et (iN V) (et (iN Z) (et (iN ai) (ip ay))))))⟩) (by show d.dh.ls.length - (b+1) < d.dh.ls.length - b; omega)
 refine jF (dF ay) (sr (Kz (.bool (decide (y=5))) (An rfl ?_)))
 by_cases aC:y=5
 refine jT (dT aC) (EO (Kz (vP aF 9) ?_))
 have eU:=O.pf [1]
 refine dN [.int .u64 0] 9 eU M1 ?_
 intro jk eX
 refine D0 (bN (bN (ER (EO (fw (vJ (b+1)) (EQ (e:=C7.wrap (((b:Nat):Int)+1)) yk f1) (Mz rfl (D0 ?_)))))))
 have eY:=eX.pf [1]
 exact E8 (b+1,z,B,j,l,n,0,p,r,s,t,u,C,E,F,W,R,f,X,S,T,g,Y,U,h) ⟨rfl,rfl,rfl,rfl,rfl,trivial⟩ (I.2 ⟨eY,by exact K,by exact G,by exact J,by exact L,e6,e6,e6,e6,e6,e6,e6,e6,e6,e6,et (M) (et (congrArg (fun q=>cO a d q z B j l n o p r s t u C E F f g h) N) (et (iN P) (et (iN V) (et (iN Z) (et (iN ai) (et (iN ay) (ip aC)))))))⟩) (by show d.dh.ls.length - (b+1) < d.dh.ls.length - b; omega)
 refine jF (dF aC) (sr (Kz (.bool (decide (y=6))) (An rfl ?_)))
 by_cases aD:y=6
 refine jT (dT aD) (EO (Kz (vP aF 11) ?_))
 have eZ:=O.pf [1]
 refine dN [.int .u64 0] 11 eZ M1 ?_
 intro jl fe
 refine D0 (bN (bN (ER (EO (fw (vJ (b+1)) (EQ (e:=C7.wrap (((b:Nat):Int)+1)) yk f1) (Mz rfl (D0 ?_)))))))
 have fo:=fe.pf [1]
 exact E8 (b+1,z,B,j,l,n,o,p,0,s,t,u,C,E,F,W,R,f,X,S,T,g,Y,U,h) ⟨rfl,rfl,rfl,rfl,rfl,trivial⟩ (I.2 ⟨fo,by exact K,by exact G,by exact J,by exact L,e6,e6,e6,e6,e6,e6,e6,e6,e6,e6,et (M) (et (congrArg (fun q=>cO a d q z B j l n o p r s t u C E F f g h) N) (et (iN P) (et (iN V) (et (iN Z) (et (iN ai) (et (iN ay) (et (iN aC) (ip aD))))))))⟩) (by show d.dh.ls.length - (b+1) < d.dh.ls.length - b; omega)
 refine jF (dF aD) (sr (Kz (.bool (decide (y=7))) (An rfl ?_)))
 by_cases aG:y=7
 refine jT (dT aG) (EO (Kz (vP aF 18) ?_))
 have fq:=O.pf [1]
 refine dN [.slice none 0 0] 18 fq Tryz.sizeOf39 ?_
 intro jm fu
 refine D0 (bN (bN (ER (EO (fw (vJ (b+1)) (EQ (e:=C7.wrap (((b:Nat):Int)+1)) yk f1) (Mz rfl (D0 ?_)))))))
 have fA:=fu.pf [1]
 exact E8 (b+1,z,B,j,l,n,o,p,r,s,t,u,C,E,F,none,0, [],X,S,T,g,Y,U,h) ⟨rfl,rfl,rfl,rfl,rfl,trivial⟩ (I.2 ⟨fA,(show jg 6 ak aa a.aD.ls none 0 ([])∧jg 3 au ae aI X S T∧s8 af.abs T=g∧jg 2 av ag a.ag.ls Y U h∧(b+1)≤d.dh.ls.length∧j≤a.aY+(b+1)∧l≤a.ax+(b+1)∧n≤a.bf+(b+1)∧o≤a.di+(b+1)∧p≤a.bi+(b+1)∧r≤a.aI+(b+1)∧s≤a.dM+(b+1)∧t≤a.cZ+(b+1)∧u≤a.xN+(b+1)∧cO a d d.dh.ls a.dJ a.d9 a.aY a.ax a.bf a.di a.bi a.aI a.dM a.cZ a.xN a.dY a.bW.bJ a.bW.bX a.aD.ls a.ai.ls a.ag.ls=cO a d (r6 (b+1) d.dh.ls) z B j l n o p r s t u C E F ([]) g h from ⟨by exact jg.nil,by exact G,by exact J,by exact L,e6,e6,e6,e6,e6,e6,e6,e6,e6,e6,et (M) (et (congrArg (fun q=>cO a d q z B j l n o p r s t u C E F f g h) N) (et (iN P) (et (iN V) (et (iN Z) (et (iN ai) (et (iN ay) (et (iN aC) (et (iN aD) (ip aG)))))))))⟩)⟩) (by show d.dh.ls.length - (b+1) < d.dh.ls.length - b; omega)
 refine jF (dF aG) (sr (Kz (.bool (decide (y=8))) (An rfl ?_)))
 by_cases aK:y=8
 refine jT (dT aK) (EO (Kz (vP aF 15) ?_))
 have fB:=O.pf [1]
 refine dN [.bool false] 15 fB Tryz.sizeOf4 ?_
 intro jo fC
 refine D0 (bN (bN (ER (EO (fw (vJ (b+1)) (EQ (e:=C7.wrap (((b:Nat):Int)+1)) yk f1) (Mz rfl (D0 ?_)))))))
 have fD:=fC.pf [1]
 exact E8 (b+1,z,B,j,l,n,o,p,r,s,t,u,false,E,F,W,R,f,X,S,T,g,Y,U,h) ⟨rfl,rfl,rfl,rfl,rfl,trivial⟩ (I.2 ⟨fD,(show jg 6 ak aa a.aD.ls W R f∧jg 3 au ae aI X S T∧s8 af.abs T=g∧jg 2 av ag a.ag.ls Y U h∧(b+1)≤d.dh.ls.length∧j≤a.aY+(b+1)∧l≤a.ax+(b+1)∧n≤a.bf+(b+1)∧o≤a.di+(b+1)∧p≤a.bi+(b+1)∧r≤a.aI+(b+1)∧s≤a.dM+(b+1)∧t≤a.cZ+(b+1)∧u≤a.xN+(b+1)∧cO a d d.dh.ls a.dJ a.d9 a.aY a.ax a.bf a.di a.bi a.aI a.dM a.cZ a.xN a.dY a.bW.bJ a.bW.bX a.aD.ls a.ai.ls a.ag.ls=cO a d (r6 (b+1) d.dh.ls) z B j l n o p r s t u false E F f g h from ⟨by exact K,by exact G,by exact J,by exact L,e6,e6,e6,e6,e6,e6,e6,e6,e6,e6,et (M) (et (congrArg (fun q=>cO a d q z B j l n o p r s t u C E F f g h) N) (et (iN P) (et (iN V) (et (iN Z) (et (iN ai) (et (iN ay) (et (iN aC) (et (iN aD) (et (iN aG) (ip aK))))))))))⟩)⟩) (by show d.dh.ls.length - (b+1) < d.dh.ls.length - b; omega)
 refine jF (dF aK) (sr (Kz (.bool (decide (y=9))) (An rfl ?_)))
 by_cases aM:y=9
 refine jT (dT aM) (EO (Kz (vP aF 10) ?_))
 have fE:=O.pf [1]
 refine dN [.int .u64 0] 10 fE M1 ?_
 intro jq fF
 refine D0 (bN (bN (ER (EO (fw (vJ (b+1)) (EQ (e:=C7.wrap (((b:Nat):Int)+1)) yk f1) (Mz rfl (D0 ?_)))))))
 have fG:=fF.pf [1]
 exact E8 (b+1,z,B,j,l,n,o,0,r,s,t,u,C,E,F,W,R,f,X,S,T,g,Y,U,h) ⟨rfl,rfl,rfl,rfl,rfl,trivial⟩ (I.2 ⟨fG,by exact K,by exact G,by exact J,by exact L,e6,e6,e6,e6,e6,e6,e6,e6,e6,e6,et (M) (et (congrArg (fun q=>cO a d q z B j l n o p r s t u C E F f g h) N) (et (iN P) (et (iN V) (et (iN Z) (et (iN ai) (et (iN ay) (et (iN aC) (et (iN aD) (et (iN aG) (et (iN aK) (ip aM)))))))))))⟩) (by show d.dh.ls.length - (b+1) < d.dh.ls.length - b; omega)
 refine jF (dF aM) (sr (Kz (.bool (decide (y=10))) (An rfl ?_)))
 by_cases aP:y=10
 refine jT (dT aP) (EO (Kz (vP aF 12) ?_))
 have fH:=O.pf [1]
 refine dN [.int .u64 0] 12 fH M1 ?_
 intro jr fI
 refine D0 (bN (bN (ER (EO (fw (vJ (b+1)) (EQ (e:=C7.wrap (((b:Nat):Int)+1)) yk f1) (Mz rfl (D0 ?_)))))))
 have fJ:=fI.pf [1]
 exact E8 (b+1,z,B,j,l,n,o,p,r,0,t,u,C,E,F,W,R,f,X,S,T,g,Y,U,h) ⟨rfl,rfl,rfl,rfl,rfl,trivial⟩ (I.2 ⟨fJ,by exact K,by exact G,by exact J,by exact L,e6,e6,e6,e6,e6,e6,e6,e6,e6,e6,et (M) (et (congrArg (fun q=>cO a d q z B j l n o p r s t u C E F f g h) N) (et (iN P) (et (iN V) (et (iN Z) (et (iN ai) (et (iN ay) (et (iN aC) (et (iN aD) (et (iN aG) (et (iN aK) (et (iN aM) (ip aP))))))))))))⟩) (by show d.dh.ls.length - (b+1) < d.dh.ls.length - b; omega)
 refine jF (dF aP) (sr (Kz (.bool (decide (y=11))) (An rfl ?_)))
 by_cases aU:y=11
 refine jT (dT aU) (EO (Kz (vP aF 20) ?_))
 have fK:=O.pf [1]
 refine dN [.slice none 0 0] 20 fK Tryz.sizeOf29 ?_
 intro jv fM
 refine D0 (bN (bN (ER (EO (fw (vJ (b+1)) (EQ (e:=C7.wrap (((b:Nat):Int)+1)) yk f1) (Mz rfl (D0 ?_)))))))
 have fO:=fM.pf [1]
 exact E8 (b+1,z,B,j,l,n,o,p,r,s,t,u,C,E,F,W,R,f,X,S,T,g,none,0, []) ⟨rfl,rfl,rfl,rfl,rfl,trivial⟩ (I.2 ⟨fO,(show jg 6 ak aa a.aD.ls W R f∧jg 3 au ae aI X S T∧s8 af.abs T=g∧jg 2 av ag a.ag.ls none 0 ([])∧(b+1)≤d.dh.ls.length∧j≤a.aY+(b+1)∧l≤a.ax+(b+1)∧n≤a.bf+(b+1)∧o≤a.di+(b+1)∧p≤a.bi+(b+1)∧r≤a.aI+(b+1)∧s≤a.dM+(b+1)∧t≤a.cZ+(b+1)∧u≤a.xN+(b+1)∧cO a d d.dh.ls a.dJ a.d9 a.aY a.ax a.bf a.di a.bi a.aI a.dM a.cZ a.xN a.dY a.bW.bJ a.bW.bX a.aD.ls a.ai.ls a.ag.ls=cO a d (r6 (b+1) d.dh.ls) z B j l n o p r s t u C E F f g ([]) from ⟨by exact K,by exact G,by exact J,by exact jg.nil,e6,e6,e6,e6,e6,e6,e6,e6,e6,e6,et (M) (et (congrArg (fun q=>cO a d q z B j l n o p r s t u C E F f g h) N) (et (iN P) (et (iN V) (et (iN Z) (et (iN ai) (et (iN ay) (et (iN aC) (et (iN aD) (et (iN aG) (et (iN aK) (et (iN aM) (et (iN aP) (ip aU)))))))))))))⟩)⟩) (by show d.dh.ls.length - (b+1) < d.dh.ls.length - b; omega)
 refine jF (dF aU) (sr (Kz (.bool (decide (y=12))) (An rfl ?_)))
 by_cases aZ:y=12
 refine jT (dT aZ) (EO (Kz (vP aF 5) ?_))
 have fP:=O.pf [1]
 refine dN [vI 0] 5 fP Tryz.sizeOf3 ?_
 intro jw fT
 refine D0 (bN (bN (ER (EO (fw (vJ (b+1)) (EQ (e:=C7.wrap (((b:Nat):Int)+1)) yk f1) (Mz rfl (D0 ?_)))))))
 have fV:=fT.pf [1]
 exact E8 (b+1,z,0,j,l,n,o,p,r,s,t,u,C,E,F,W,R,f,X,S,T,g,Y,U,h) ⟨rfl,rfl,rfl,rfl,rfl,trivial⟩ (I.2 ⟨fV,by exact K,by exact G,by exact J,by exact L,e6,e6,e6,e6,e6,e6,e6,e6,e6,e6,et (M) (et (congrArg (fun q=>cO a d q z B j l n o p r s t u C E F f g h) N) (et (iN P) (et (iN V) (et (iN Z) (et (iN ai) (et (iN ay) (et (iN aC) (et (iN aD) (et (iN aG) (et (iN aK) (et (iN aM) (et (iN aP) (et (iN aU) (ip aZ))))))))))))))⟩) (by show d.dh.ls.length - (b+1) < d.dh.ls.length - b; omega)
 refine jF (dF aZ) (sr (Kz (.bool (decide (y=13))) (An rfl ?_)))
 by_cases bf:y=13
 refine jT (dT bf) (EO (Kz (.agg #[.string ⟨y6 ([])⟩, .string ⟨y6 ([])⟩]) (Kz (vP aF 16) ?_)))
 have fZ:=O.pf [1]
 refine dN [.string ⟨y6 ([])⟩, .string ⟨y6 ([])⟩] 16 fZ Tryz.sizeOf38 ?_
 intro jy gm
 refine D0 (bN (bN (ER (EO (fw (vJ (b+1)) (EQ (e:=C7.wrap (((b:Nat):Int)+1)) yk f1) (Mz rfl (D0 ?_)))))))
 have gp:=gm.pf [1]
 exact E8 (b+1,z,B,j,l,n,o,p,r,s,t,u,C, [], [],W,R,f,X,S,T,g,Y,U,h) ⟨rfl,rfl,rfl,rfl,rfl,trivial⟩ (I.2 ⟨gp,(show jg 6 ak aa a.aD.ls W R f∧jg 3 au ae aI X S T∧s8 af.abs T=g∧jg 2 av ag a.ag.ls Y U h∧(b+1)≤d.dh.ls.length∧j≤a.aY+(b+1)∧l≤a.ax+(b+1)∧n≤a.bf+(b+1)∧o≤a.di+(b+1)∧p≤a.bi+(b+1)∧r≤a.aI+(b+1)∧s≤a.dM+(b+1)∧t≤a.cZ+(b+1)∧u≤a.xN+(b+1)∧cO a d d.dh.ls a.dJ a.d9 a.aY a.ax a.bf a.di a.bi a.aI a.dM a.cZ a.xN a.dY a.bW.bJ a.bW.bX a.aD.ls a.ai.ls a.ag.ls=cO a d (r6 (b+1) d.dh.ls) z B j l n o p r s t u C ([]) ([]) f g h from ⟨by exact K,by exact G,by exact J,by exact L,e6,e6,e6,e6,e6,e6,e6,e6,e6,e6,et (M) (et (congrArg (fun q=>cO a d q z B j l n o p r s t u C E F f g h) N) (et (iN P) (et (iN V) (et (iN Z) (et (iN ai) (et (iN ay) (et (iN aC) (et (iN aD) (et (iN aG) (et (iN aK) (et (iN aM) (et (iN aP) (et (iN aU) (et (iN aZ) (ip bf)))))))))))))))⟩)⟩) (by show d.dh.ls.length - (b+1) < d.dh.ls.length - b; omega)
 refine jF (dF bf) (sr (Kz (.bool (decide (y=14))) (An rfl ?_)))
 by_cases bz:y=14
 refine jT (dT bz) (EO (Kz (vP aF 13) ?_))
 have gq:=O.pf [1]
 refine dN [.int .u64 0] 13 gq M1 ?_
 intro jA gu
 refine D0 (bN (bN (ER (EO (fw (vJ (b+1)) (EQ (e:=C7.wrap (((b:Nat):Int)+1)) yk f1) (Mz rfl (D0 ?_)))))))
 have gy:=gu.pf [1]
 exact E8 (b+1,z,B,j,l,n,o,p,r,s,0,u,C,E,F,W,R,f,X,S,T,g,Y,U,h) ⟨rfl,rfl,rfl,rfl,rfl,trivial⟩ (I.2 ⟨gy,by exact K,by exact G,by exact J,by exact L,e6,e6,e6,e6,e6,e6,e6,e6,e6,e6,et (M) (et (congrArg (fun q=>cO a d q z B j l n o p r s t u C E F f g h) N) (et (iN P) (et (iN V) (et (iN Z) (et (iN ai) (et (iN ay) (et (iN aC) (et (iN aD) (et (iN aG) (et (iN aK) (et (iN aM) (et (iN aP) (et (iN aU) (et (iN aZ) (et (iN bf) (ip bz))))))))))))))))⟩) (by show d.dh.ls.length - (b+1) < d.dh.ls.length - b; omega)
 refine jF (dF bz) (sr (Kz (.bool (decide (y=15))) (An rfl ?_)))
 by_cases bE:y=15
 refine jT (dT bE) (EO (Kz (vP aF 14) ?_))
 have gz:=O.pf [1]
 refine dN [.int .u64 0] 14 gz M1 ?_
 intro jB gB
 refine D0 (bN (bN (ER (EO (fw (vJ (b+1)) (EQ (e:=C7.wrap (((b:Nat):Int)+1)) yk f1) (Mz rfl (D0 ?_)))))))
 have gD:=gB.pf [1]
 exact E8 (b+1,z,B,j,l,n,o,p,r,s,t,0,C,E,F,W,R,f,X,S,T,g,Y,U,h) ⟨rfl,rfl,rfl,rfl,rfl,trivial⟩ (I.2 ⟨gD,by exact K,by exact G,by exact J,by exact L,e6,e6,e6,e6,e6,e6,e6,e6,e6,e6,et (M) (et (congrArg (fun q=>cO a d q z B j l n o p r s t u C E F f g h) N) (et (iN P) (et (iN V) (et (iN Z) (et (iN ai) (et (iN ay) (et (iN aC) (et (iN aD) (et (iN aG) (et (iN aK) (et (iN aM) (et (iN aP) (et (iN aU) (et (iN aZ) (et (iN bf) (et (iN bz) (ip bE)))))))))))))))))⟩) (by show d.dh.ls.length - (b+1) < d.dh.ls.length - b; omega)
 refine jF (dF bE) (Fq (bN (bN (ER (EO (fw (vJ (b+1)) (EQ (e:=C7.wrap (((b:Nat):Int)+1)) yk f1) (Mz rfl (D0 ?_))))))))
 have gF:=O.pf []
 exact E8 (b+1,z,B,j,l,n,o,p,r,s,t,u,C,E,F,W,R,f,X,S,T,g,Y,U,h) ⟨rfl,rfl,rfl,rfl,rfl,trivial⟩ (I.2 ⟨gF,by exact K,by exact G,by exact J,by exact L,e6,e6,e6,e6,e6,e6,e6,e6,e6,e6,et (M) (et (congrArg (fun q=>cO a d q z B j l n o p r s t u C E F f g h) N) (et (iN P) (et (iN V) (et (iN Z) (et (iN ai) (et (iN ay) (et (iN aC) (et (iN aD) (et (iN aG) (et (iN aK) (et (iN aM) (et (iN aP) (et (iN aU) (et (iN aZ) (et (iN bf) (et (iN bz) (iN bE)))))))))))))))))⟩) (by show d.dh.ls.length - (b+1) < d.dh.ls.length - b; omega)
 refine jF (dF cK) (Wp.exit (EX ?_))
 have aQ:cO a d d.dh.ls a.dJ a.d9 a.aY a.ax a.bf a.di a.bi a.aI a.dM a.cZ a.xN a.dY a.bW.bJ a.bW.bX a.aD.ls a.ai.ls a.ag.ls=(z,B,j,l,n,o,p,r,s,t,u,C,E,F,f,g,h):=et (M) (et (congrArg (fun q=>cO a d q z B j l n o p r s t u C E F f g h) (eD (ls:=d.dh.ls) (i:=b) e6)) rfl)
 refine EX (Fg (ER (sr (La (gH a.aM a.aP a.fO a.aS z B j l n o p r s t u C E F W f.length R X g.length S Y h.length U) O 1 L9 M0 ?_))))
 refine dN (gH a.aM a.aP a.fO a.aS z B j l n o p r s t u C E F W f.length R X g.length S Y h.length U) 0 O M0 ?_
 intro jC cZ
 refine nt (rt (Fin.res (mP rfl rfl (Fb (cs:=(gH a.aM a.aP a.fO a.aS z B j l n o p r s t u C E F W f.length R X g.length S Y h.length U)) L9 M0 ((cZ.cls (i:=0) rfl).lit (k:=0) (m:=21) rfl))) ?_))
 obtain⟨bF,aN⟩:∃ q,qi (bQ.mk a.aM a.aP a.fO a.aS z B j l n o p r s t u C (bK.mk E F) (E4 f) (E4 g) (E4 h))=q:=⟨_,rfl⟩
 obtain⟨jD,dx,bq,dz,iR⟩:=EU cZ
 refine uM (cn aB) Tryz.call51 (yx _ _ (bQ.mk a.aM a.aP a.fO a.aS z B j l n o p r s t u C (bK.mk E F) (E4 f) (E4 g) (E4 h)) W f.length R X g.length S T Y h.length U bF dx rfl (fun w9 h9=>jg.rds bC.len f3 K ((bq _ bL) w9 h9)) (show f.length≤R∧f.length≤9223372036854775807 from by omega) J rfl (fun w9 h9=>oD (az J) (jg.rds af.len f3 G (oD (az bg).symm ((bq _ bM) w9 h9)))) (show g.length≤S∧g.length≤9223372036854775807 from by omega) (fun x9 h9=>⟨bq _ ((fun x9 h9=>bi x9 (G6 G h9)) x9 h9).1,((fun x9 h9=>bi x9 (G6 G h9)) x9 h9).2⟩) rfl (fun w9 h9=>jg.rds bv.len f3 L ((bq _ bO) w9 h9)) (show h.length≤U∧h.length≤9223372036854775807 from by omega) i3 aN) ?_
 rintro _ jE ⟨rfl,dA⟩
 have bG:=dz _ _ dA
 refine Gz (.bool (!bF)) (cn aB) (fw (.bool (!bF)) (ES rfl (cn aB) rfl) (Mz rfl ?_))
 rcases IW (bF) with Q | Q
 refine Ga (gM a ak aa au ae av ag) (cn Q) bG 4 L9 M0 (Gz (vP bA 2) (cn Q) (Gl (.slice aY d.dh.ls.length bn) (cn Q) bG 2 Tryz.isAgg126 ?_))
 obtain⟨bH,aR⟩:∃ q,qN a d.dh.ls=q:=⟨_,rfl⟩
 obtain⟨jG,dB,bu,dC,dD⟩:=EU bG
 refine uM (cn Q) Tryz.call53 (xL _ _ a ak a.aD.ls.length aa au a.ai.ls.length ae aI av a.ag.ls.length ag aY d.dh.ls.length bn d.dh.ls bH dB rfl (bu _ bL) (show a.aD.ls.length≤aa∧a.aD.ls.length≤9223372036854775807 from by omega) bg rfl (bu _ bM) (show a.ai.ls.length≤ae∧a.ai.ls.length≤9223372036854775807 from by omega) (fun x9 h9=>⟨bu _ (bi x9 h9).1,(bi x9 h9).2⟩) rfl (bu _ bO) (show a.ag.ls.length≤ag∧a.ag.ls.length≤9223372036854775807 from by omega) (dD _ 3 _ rfl aT) rfl e6 i3 aR) ?_
 rintro _ jH ⟨rfl,dE⟩
 have df:=dC _ _ dE
 refine Gz (.bool (!bH)) (cn Q) (fw (.bool (!bH)) (ES rfl (cn Q) rfl) (nt ?_))
 rcases IW (bH) with aV | aV
 refine jF (cn aV) (sk (EP (EP ?_)))
 have aW:=df.pk [2,3,4]
 refine EO (Kz (vP bA 0) (Lz (vI d.lS) aW 0 L8 (Kz (.bool (decide (d.lS=1))) (Mz rfl ?_))))
 by_cases aH:d.lS=1
 refine Gz (vP bA 1) (dT aH) (Gl (vI d.oo) (dT aH) aW 0 L8 (Gz (.bool (decide (d.oo=1))) (dT aH) (fw (.bool (decide (d.oo=1))) (Fa rfl (dT aH) rfl) (Mz rfl ?_))))
 by_cases aA:d.oo=1
 refine Gz (vP bJ 1) (dT aA) (Gl (vI a.aP) (dT aA) aW 2 C6 (Gz (vP bJ 2) (dT aA) (Gl (vI a.fO) (dT aA) aW 2 C6 (Gz (.bool (decide (a.aP=a.fO))) (dT aA) (fw (.bool (decide (a.aP=a.fO))) (Fa rfl (dT aA) rfl) (nt ?_))))))
 by_cases bI:a.aP=a.fO
 refine jT (dT bI) (EP ?_)
 have gI:=aW.pk []
 refine EO (An rfl (rt (tR (rs ?_))))
 have gJ:=gI.pk []
 obtain rfl:_=180:=hr.symm.trans (et (ah aL) (et (ip aj) (et (ah aO) (et (ip ax) (et (ah aS) (et (ip aB) (et (ah aQ) (et (ah aN) (et (ip Q) (et (ah aR) (et (ip aV) (et (ip aH) (et (ip aA) (ip bI))))))))))))))
 exact⟨rfl,gJ⟩
 refine jF (dF bI) (sk (EP ?_))
 have gK:=aW.pk []
 refine EO (An rfl (rt (rs ?_)))
 have gL:=gK.pk []
 obtain rfl:_=0:=hr.symm.trans (et (ah aL) (et (ip aj) (et (ah aO) (et (ip ax) (et (ah aS) (et (ip aB) (et (ah aQ) (et (ah aN) (et (ip Q) (et (ah aR) (et (ip aV) (et (ip aH) (et (ip aA) (iN bI))))))))))))))
 exact⟨rfl,gL⟩
 refine Sz (dF aA) (Sz (dF aA) (Sz (dF aA) (Sz (dF aA) (Sz (dF aA) (fw (.bool false) (ES rfl (dF aA) rfl) (nt (jf (sk (EP ?_)))))))))
 have gN:=aW.pk []
 refine EO (An rfl (rt (rs ?_)))
 have gP:=gN.pk []
 obtain rfl:_=0:=hr.symm.trans (et (ah aL) (et (ip aj) (et (ah aO) (et (ip ax) (et (ah aS) (et (ip aB) (et (ah aQ) (et (ah aN) (et (ip Q) (et (ah aR) (et (ip aV) (et (ip aH) (iN aA)))))))))))))
 exact⟨rfl,gP⟩
 refine Sz (dF aH) (Sz (dF aH) (Sz (dF aH) (fw (.bool false) (ES rfl (dF aH) rfl) (Mz rfl (Sz rfl (Sz rfl (Sz rfl (Sz rfl (Sz rfl (fw (.bool false) (ES rfl rfl rfl) (nt (jf (sk (EP ?_))))))))))))))
 have gQ:=aW.pk []
 refine EO (An rfl (rt (rs ?_)))
 have gT:=gQ.pk []
 obtain rfl:_=0:=hr.symm.trans (et (ah aL) (et (ip aj) (et (ah aO) (et (ip ax) (et (ah aS) (et (ip aB) (et (ah aQ) (et (ah aN) (et (ip Q) (et (ah aR) (et (ip aV) (iN aH))))))))))))
 exact⟨rfl,gT⟩
 refine jT (cn aV) (EP ?_)
 have gU:=df.pk [2,3,4]
 refine EO (An rfl (rt (tR (rs ?_))))
 have gV:=gU.pk []
 obtain rfl:_=180:=hr.symm.trans (et (ah aL) (et (ip aj) (et (ah aO) (et (ip ax) (et (ah aS) (et (ip aB) (et (ah aQ) (et (ah aN) (et (ip Q) (et (ah aR) (fU aV)))))))))))
 exact⟨rfl,gV⟩
 refine Sz (cn Q) (Sz (cn Q) (Sz (cn Q) (Sz (cn Q) (Sz (cn Q) (fw (.bool true) (Fa rfl (cn Q) rfl) (nt (jt (EP ?_))))))))
 have gW:=bG.pk [2,3,4]
 refine EO (An rfl (rt (tR (rs ?_))))
 have gX:=gW.pk []
 obtain rfl:_=180:=hr.symm.trans (et (ah aL) (et (ip aj) (et (ah aO) (et (ip ax) (et (ah aS) (et (ip aB) (et (ah aQ) (et (ah aN) (fU Q)))))))))
 exact⟨rfl,gX⟩
 refine Sz (cn aB) (Sz (cn aB) (Sz (cn aB) (Sz (cn aB) (Sz (cn aB) (Sz (cn aB) (fw (.bool true) (Fa rfl (cn aB) rfl) (Mz rfl (Sz rfl (Sz rfl (Sz rfl (Sz rfl (Sz rfl (fw (.bool true) (Fa rfl rfl rfl) (nt (jt (sr (An rfl (rt (tR (rs ?_))))))))))))))))))))
 have gY:=bW.pk []
 obtain rfl:_=180:=hr.symm.trans (et (ah aL) (et (ip aj) (et (ah aO) (et (ip ax) (et (ah aS) (fU aB))))))
 exact⟨rfl,gY⟩
 refine Sz (cn ax) (Sz (cn ax) (Sz (cn ax) (Sz (cn ax) (Sz (cn ax) (Sz (cn ax) (fw (.bool true) (Fa rfl (cn ax) rfl) (Mz rfl (Sz rfl (Sz rfl (Sz rfl (Sz rfl (Sz rfl (Sz rfl (fw (.bool true) (Fa rfl rfl rfl) (Mz rfl (Sz rfl (Sz rfl (Sz rfl (Sz rfl (Sz rfl (fw (.bool true) (Fa rfl rfl rfl) (nt (jt (sr (An rfl (rt (tR (rs ?_))))))))))))))))))))))))))))
 have gZ:=bU.pk []
 obtain rfl:_=180:=hr.symm.trans (et (ah aL) (et (ip aj) (et (ah aO) (fU ax))))
 exact⟨rfl,gZ⟩
 refine Sz (cn aj) (Sz (cn aj) (Sz (cn aj) (Sz (cn aj) (Sz (cn aj) (Sz (cn aj) (fw (.bool true) (Fa rfl (cn aj) rfl) (Mz rfl (Sz rfl (Sz rfl (Sz rfl (Sz rfl (Sz rfl (Sz rfl (fw (.bool true) (Fa rfl rfl rfl) (Mz rfl (Sz rfl (Sz rfl (Sz rfl (Sz rfl (Sz rfl (Sz rfl (fw (.bool true) (Fa rfl rfl rfl) (Mz rfl (Sz rfl (Sz rfl (Sz rfl (Sz rfl (Sz rfl (fw (.bool true) (Fa rfl rfl rfl) (nt (jt (sr (An rfl (rt (tR ?_)))))))))))))))))))))))))))))))))))
 refine rs ?_
 have ib:=bS.pk []
 obtain rfl:_=180:=hr.symm.trans (et (ah aL) (fU aj))
 exact⟨rfl,ib⟩
end Go.Proofs.YtbkagebjhbphaaaGreat
