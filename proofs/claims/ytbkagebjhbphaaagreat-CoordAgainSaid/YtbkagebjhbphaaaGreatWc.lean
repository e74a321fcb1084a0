/-
 wire: the check of a message.
-/
import Derived.Test.YtbkagebjhbphaaaGreatWb
namespace Go.Proofs.YtbkagebjhbphaaaGreat
open IntKind renaming i64→C7
open List renaming drop→r6,flatMap→q6,map→s8,toArray→y6
open Ll renaming mk→E4
open _root_.Go.Proofs.Tryz renaming isAgg125→M4,isAgg3→C6,isAgg42→M5,sizeOf28→M7,sizeOf42→M6
open WL renaming nil→D0
set_option maxRecDepth 100000
open Go.RowKit
set_option linter.unusedVariables false
set_option linter.unusedSectionVars false
set_option linter.unusedSimpArgs false
def cO (u:bQ) (s:fZ):List Int→Int→Int→Nat→Nat→Nat→Nat→Nat→Nat→Nat→Nat→Nat→Bool→List UInt8→List UInt8→List bC→List aY→List bv→Int × Int × Nat × Nat × Nat × Nat × Nat × Nat × Nat × Nat × Nat × Bool × (List UInt8) × (List UInt8) × (List bC) × (List aY) × (List bv)
  | [],b,c,d,e,f,g,h,i,j,k,l,m,n,o,p,q,r=>(b,c,d,e,f,g,h,i,j,k,l,m,n,o,p,q,r)
  | a::t,b,c,d,e,f,g,h,i,j,k,l,m,n,o,p,q,r=>if a=0 then cO u s t b c 0 e f g h i j k l m n o p q r else if a=1 then cO u s t b c d 0 f g h i j k l m n o p q r else if a=2 then cO u s t 0 c d e f g h i j k l m n o p q r else if a=3 then cO u s t b c d e f g h i j k l m n o p ([]) r else if a=4 then cO u s t b c d e 0 g h i j k l m n o p q r else if a=5 then cO u s t b c d e f 0 h i j k l m n o p q r else if a=6 then cO u s t b c d e f g h 0 j k l m n o p q r else if a=7 then cO u s t b c d e f g h i j k l m n o ([]) q r else if a=8 then cO u s t b c d e f g h i j k l false n o p q r else if a=9 then cO u s t b c d e f g 0 i j k l m n o p q r else if a=10 then cO u s t b c d e f g h i 0 k l m n o p q r else if a=11 then cO u s t b c d e f g h i j k l m n o p q ([]) else if a=12 then cO u s t b 0 d e f g h i j k l m n o p q r else if a=13 then cO u s t b c d e f g h i j k l m ([]) ([]) p q r else if a=14 then cO u s t b c d e f g h i j 0 l m n o p q r else if a=15 then cO u s t b c d e f g h i j k 0 m n o p q r else cO u s t b c d e f g h i j k l m n o p q r
def mf (a:bQ):Int:=
 bnd (pQ a.aH) fun b=>if b.2=true then bnd (lm b.1.lX a.aJ) fun e=>if e=true then bnd (lm b.1.ny a.eO) fun f=>if f=true then bnd (cO a b.1 b.1.dn.ls a.dz a.eu a.aU a.ax a.bi a.dW a.bf a.aK a.dI a.cZ a.xN a.d9 a.bV.bK a.bV.bW a.aG.ls a.ah.ls a.ag.ls) fun sLrbtbtbtL=>bnd (qG (bQ.mk a.aH a.aJ a.eO a.aS sLrbtbtbtL.1 sLrbtbtbtL.2.1 sLrbtbtbtL.2.2.1 sLrbtbtbtL.2.2.2.1 sLrbtbtbtL.2.2.2.2.1 sLrbtbtbtL.2.2.2.2.2.1 sLrbtbtbtL.2.2.2.2.2.2.1 sLrbtbtbtL.2.2.2.2.2.2.2.1 sLrbtbtbtL.2.2.2.2.2.2.2.2.1 sLrbtbtbtL.2.2.2.2.2.2.2.2.2.1 sLrbtbtbtL.2.2.2.2.2.2.2.2.2.2.1 sLrbtbtbtL.2.2.2.2.2.2.2.2.2.2.2.1 (bL.mk sLrbtbtbtL.2.2.2.2.2.2.2.2.2.2.2.2.1 sLrbtbtbtL.2.2.2.2.2.2.2.2.2.2.2.2.2.1) (E4 sLrbtbtbtL.2.2.2.2.2.2.2.2.2.2.2.2.2.2.1) (E4 sLrbtbtbtL.2.2.2.2.2.2.2.2.2.2.2.2.2.2.2.1) (E4 sLrbtbtbtL.2.2.2.2.2.2.2.2.2.2.2.2.2.2.2.2))) fun c=>if c=true then bnd (rf a b.1.dn.ls) fun d=>if d=true then if b.1.lX=1 then if b.1.ny=1 then if a.aJ=a.eO then 180 else 0 else 0 else 0 else 180 else 180 else 180 else 180 else 180
set_option maxHeartbeats 8000000 in
theorem uR (w:World) (D:Nat→Prop) (a:bQ) (ak:Option Addr) (bY aa:Nat) (au:Option Addr) (cu ae:Nat) (aI:List af) (av:Option Addr) (cz ag:Nat) (r0:Int) (H:Own w D w []) (dh:bY=a.aG.ls.length) (bK:Ro w D fun w'=>bD w' 6 ak a.aG.ls.length (q6 bC.cells a.aG.ls)) (ig:a.aG.ls.length≤aa∧a.aG.ls.length≤9223372036854775807) (bg:s8 af.abs aI=a.ah.ls) (di:cu=a.ah.ls.length) (bM:Ro w D fun w'=>bD w' 3 au a.ah.ls.length (q6 af.cells aI)) (ik:a.ah.ls.length≤ae∧a.ah.ls.length≤9223372036854775807) (bi:∀ x ∈ aI,Ro w D (fun w'=>bD w' 2 x.au.A x.au.ls.length (q6 aL.cells x.au.ls))∧(x.au.ls.length≤x.au.c∧x.au.ls.length≤9223372036854775807)) (dm:cz=a.ag.ls.length) (bO:Ro w D fun w'=>bD w' 2 av a.ag.ls.length (q6 bv.cells a.ag.ls)) (il:a.ag.ls.length≤ag∧a.ag.ls.length≤9223372036854775807) (jI:a.aG.ls.length≤140737488355328∧a.ah.ls.length≤140737488355328∧a.ag.ls.length≤140737488355328) (hr:mf a=r0):
    Calls Tryz.prog 21 #[.agg (gD a.aH a.aJ a.eO a.aS a.dz a.eu a.aU a.ax a.bi a.dW a.bf a.aK a.dI a.cZ a.xN a.d9 a.bV.bK a.bV.bW ak bY aa au cu ae av cz ag).toArray] w (dR fun v w'=>v=vI r0∧Own w D w' []):=by
 subst dh di dm
 have ic:=az bg
 refine cb Tryz.func21 ?_
 refine sr ?_
 refine dM (gT a ak aa au ae av ag) 42 H ?_
 intro bJ jJ dG
 refine Ar rfl (Kz (vP bJ 0) (Lz (vI a.aH) dG 0 C6 ?_))
 obtain⟨⟨d,bR⟩,aK⟩:∃ q:fZ × Bool,pQ a.aH=q:=⟨_,rfl⟩
 obtain⟨jK,dH,iU,dI,iV⟩:=FY dG
 refine cl Tryz.call49 (wY _ _ a.aH d bR dH aK) ?_
 rintro _ jL ⟨aX,bn,rfl,dJ,cB⟩
 have dL:=dI _ _ dJ
 have iW:=dL.rowC (i:=0) rfl
 replace cB:d.dn.ls.length≤5:=cB
 refine Mz rfl (Kz (.agg #[vI d.lX,vI d.ny, .slice aX d.dn.ls.length bn]) (Kz (.bool bR) ?_))
 refine dM [vI 0,vI 0, .slice none 0 0] 128 dL ?_
 intro bA jM iq
 refine dN [vI d.lX,vI d.ny, .slice aX d.dn.ls.length bn] 0 iq Tryz.sizeOf128 ?_
 intro jN bS
 refine An rfl (FU (sr (Mz rfl (Kz (.bool (!bR)) (Mz rfl ?_)))))
 rcases JQ (bR) with aj | aj
 refine Gz (vP bA 0) (cn aj) (Gl (vI d.lX) (cn aj) bS 0 M4 (Gz (vP bJ 1) (cn aj) (Gl (vI a.aJ) (cn aj) bS 2 C6 ?_)))
 obtain⟨bT,aO⟩:∃ q,lm d.lX a.aJ=q:=⟨_,rfl⟩
 obtain⟨jO,dO,iX,dP,iY⟩:=FY bS
 refine uX (cn aj) Tryz.call50 (qF _ _ d.lX a.aJ bT dO aO) ?_
 rintro _ jP ⟨rfl,dQ⟩
 have bU:=dP _ _ dQ
 refine Gz (.bool (!bT)) (cn aj) (fw (.bool (!bT)) (FX rfl (cn aj) rfl) (Mz rfl ?_))
 rcases JQ (bT) with ax | ax
 refine Gz (vP bA 1) (cn ax) (Gl (vI d.ny) (cn ax) bU 0 M4 (Gz (vP bJ 2) (cn ax) (Gl (vI a.eO) (cn ax) bU 2 C6 ?_)))
 obtain⟨bV,aS⟩:∃ q,lm d.ny a.eO=q:=⟨_,rfl⟩
 obtain⟨jQ,dS,iZ,dU,ja⟩:=FY bU
 refine uX (cn ax) Tryz.call50 (qF _ _ d.ny a.eO bV dS aS) ?_
 rintro _ jR ⟨rfl,dV⟩
 have bW:=dU _ _ dV
 refine Gz (.bool (!bV)) (cn ax) (fw (.bool (!bV)) (FX rfl (cn ax) rfl) (Mz rfl ?_))
 rcases JQ (bV) with aB | aB
 refine Ga (gT a ak aa au ae av ag) (cn aB) bW 2 M5 M6 (Gz (vP bA 2) (cn aB) (Gl (.slice aX d.dn.ls.length bn) (cn aB) bW 0 Tryz.isAgg126 ?_))
 refine Ha rfl rfl (cn aB) rfl (Gd Tryz.call52 rfl ?_ (fun _ _ k=>k))
 refine cb Tryz.func52 ?_
 refine sr ?_
 refine dM (gT a ak aa au ae av ag) 42 bW ?_
 intro aF jS iw
 refine dM (gD 0 0 0 0 0 0 0 0 0 0 0 0 0 0 0 false ([]) ([]) none 0 0 none 0 0 none 0 0) 42 iw ?_
 intro dn jU iy
 refine nt (FU (sr (Mz rfl (Kz (vJ d.dn.ls.length) (Mn rfl (bo ?_))))))
 have iA:=iy.pf []
 obtain⟨dW,I⟩:=Fz fun(b:Nat) (z:Int) (B:Int) (j:Nat) (l:Nat) (n:Nat) (o:Nat) (p:Nat) (r:Nat) (s:Nat) (t:Nat) (u:Nat) (C:Bool) (E:List UInt8) (F:List UInt8) (W:Option Addr) (R:Nat) (f:List bC) (X:Option Addr) (S:Nat) (T:List af) (g:List aY) (Y:Option Addr) (U:Nat) (h:List bv) (w':World)=>Own w D w' [blk dn (gD 0 0 0 0 0 0 0 0 0 0 0 0 0 0 0 false ([]) ([]) none 0 0 none 0 0 none 0 0) 42,blk aF (gD a.aH a.aJ a.eO a.aS z B j l n o p r s t u C E F W f.length R X g.length S Y h.length U) 42,blk bA [vI d.lX,vI d.ny, .slice aX d.dn.ls.length bn] 128,row aX d.dn.ls.length bn (q6 (eI .i64) d.dn.ls) 154 1,blk bJ (gT a ak aa au ae av ag) 42]∧jl 6 ak aa a.aG.ls W R f∧jl 3 au ae aI X S T∧s8 af.abs T=g∧jl 2 av ag a.ag.ls Y U h∧b≤d.dn.ls.length∧j≤a.aU+b∧l≤a.ax+b∧n≤a.bi+b∧o≤a.dW+b∧p≤a.bf+b∧r≤a.aK+b∧s≤a.dI+b∧t≤a.cZ+b∧u≤a.xN+b∧cO a d d.dn.ls a.dz a.eu a.aU a.ax a.bi a.dW a.bf a.aK a.dI a.cZ a.xN a.d9 a.bV.bK a.bV.bW a.aG.ls a.ah.ls a.ag.ls=cO a d (r6 b d.dn.ls) z B j l n o p r s t u C E F f g h
 refine Wp.loop (fun i:Nat × Int × Int × Nat × Nat × Nat × Nat × Nat × Nat × Nat × Nat × Nat × Bool × (List UInt8) × (List UInt8) × (Option Addr) × Nat × (List bC) × (Option Addr) × Nat × (List af) × (List aY) × (Option Addr) × Nat × (List bv)=> [(9,vJ i.1),(8,vJ d.dn.ls.length),(7, .slice aX d.dn.ls.length bn),(4,vP dn 0),(2,vP aF 0)]) dW (fun i=>d.dn.ls.length - i.1) (0,a.dz,a.eu,a.aU,a.ax,a.bi,a.dW,a.bf,a.aK,a.dI,a.cZ,a.xN,a.d9,a.bV.bK,a.bV.bW,ak,aa,a.aG.ls,au,ae,aI,a.ah.ls,av,ag,a.ag.ls) ⟨rfl,rfl,rfl,rfl,rfl,trivial⟩ (I.2 ⟨iA,by exact(jl.refl e6),by exact(jl.refl e6),by exact bg,by exact(jl.refl e6),e6,e6,e6,e6,e6,e6,e6,e6,e6,e6,rfl⟩) ?_
 rintro ⟨b,z,B,j,l,n,o,p,r,s,t,u,C,E,F,W,R,f,X,S,T,g,Y,U,h⟩ jb dw
 obtain⟨O,K,G,J,L,iB,iC,iD,iE,iF,iG,iH,iJ,iK,iL,M⟩:=I.1 dw
 have iM:=(K).le
 have iO:=(G).le
 have iP:=az J
 have iQ:=(L).le
 refine sr (Kz (.bool (decide (((b:Nat):Int) < ((d.dn.ls.length:Nat):Int)))) (nt (FU ?_)))
 by_cases cK:((b:Nat):Int) < ((d.dn.ls.length:Nat):Int)
 obtain⟨y,bP⟩:=dK (ls:=d.dn.ls) (i:=b) iI f3 (O.rds (i:=3) rfl) e9
 have N:=drop_at bP
 refine jT (dT cK) (sk (FU (bo (sr (fw (.pointer (some ⟨ab aX,ao aX+b *1,none⟩)) (FZ (Dw) rfl rfl ((O.rds (i:=3) rfl).addr (i:=b) e6) e6) (fw (vI y) (F5 rfl (bZ.one Tryz.isAgg154 (((O.rds (i:=3) rfl).elem iI bP f3).at_ (k:=0) rfl))) (Ar rfl (Mn rfl (bo (sr (Kz (.bool (decide (y=0))) (An rfl ?_))))))))))))
 by_cases P:y=0
 refine jT (dT P) (FT (Kz (vP aF 6) ?_))
 have dX:=O.pf [1]
 refine dN [.int .u64 0] 6 dX M7 ?_
 intro jc dY
 refine D0 (bN (bN (FW (FT (fw (vJ (b+1)) (FV (e:=C7.wrap (((b:Nat):Int)+1)) yk f1) (Mz rfl (D0 ?_)))))))
 have dZ:=dY.pf [1]
 exact F9 (b+1,z,B,0,l,n,o,p,r,s,t,u,C,E,F,W,R,f,X,S,T,g,Y,U,h) ⟨rfl,rfl,rfl,rfl,rfl,trivial⟩ (I.2 ⟨dZ,by exact K,by exact G,by exact J,by exact L,e6,e6,e6,e6,e6,e6,e6,e6,e6,e6,et (M) (et (congrArg (fun q=>cO a d q z B j l n o p r s t u C E F f g h) N) (ip P))⟩) (by show d.dn.ls.length - (b+1) < d.dn.ls.length - b; omega)
 refine jF (dF P) (sr (Kz (.bool (decide (y=1))) (An rfl ?_)))
 by_cases V:y=1
 refine jT (dT V) (FT (Kz (vP aF 7) ?_))
 have d9:=O.pf [1]
 refine dN [.int .u64 0] 7 d9 M7 ?_
 intro jd ed
 refine D0 (bN (bN (FW (FT (fw (vJ (b+1)) (FV (e:=C7.wrap (((b:Nat):Int)+1)) yk f1) (Mz rfl (D0 ?_)))))))
 have ek:=ed.pf [1]
 exact F9 (b+1,z,B,j,0,n,o,p,r,s,t,u,C,E,F,W,R,f,X,S,T,g,Y,U,h) ⟨rfl,rfl,rfl,rfl,rfl,trivial⟩ (I.2 ⟨ek,by exact K,by exact G,by exact J,by exact L,e6,e6,e6,e6,e6,e6,e6,e6,e6,e6,et (M) (et (congrArg (fun q=>cO a d q z B j l n o p r s t u C E F f g h) N) (et (iN P) (ip V)))⟩) (by show d.dn.ls.length - (b+1) < d.dn.ls.length - b; omega)
 refine jF (dF V) (sr (Kz (.bool (decide (y=2))) (An rfl ?_)))
 by_cases Z:y=2
 refine jT (dT Z) (FT (Kz (vP aF 4) ?_))
 have eu:=O.pf [1]
 refine dN [vI 0] 4 eu Tryz.sizeOf3 ?_
 intro je eB
 refine D0 (bN (bN (FW (FT (fw (vJ (b+1)) (FV (e:=C7.wrap (((b:Nat):Int)+1)) yk f1) (Mz rfl (D0 ?_)))))))
 have eD:=eB.pf [1]
 exact F9 (b+1,0,B,j,l,n,o,p,r,s,t,u,C,E,F,W,R,f,X,S,T,g,Y,U,h) ⟨rfl,rfl,rfl,rfl,rfl,trivial⟩ (I.2 ⟨eD,by exact K,by exact G,by exact J,by exact L,e6,e6,e6,e6,e6,e6,e6,e6,e6,e6,et (M) (et (congrArg (fun q=>cO a d q z B j l n o p r s t u C E F f g h) N) (et (iN P) (et (iN V) (ip Z))))⟩) (by show d.dn.ls.length - (b+1) < d.dn.ls.length - b; omega)
 refine jF (dF Z) (sr (Kz (.bool (decide (y=3))) (An rfl ?_)))
 by_cases ah:y=3
 refine jT (dT ah) (FT (Kz (vP aF 19) ?_))
 have eF:=O.pf [1]
 refine dN [.slice none 0 0] 19 eF Tryz.sizeOf40 ?_
 intro jg eG
 refine D0 (bN (bN (FW (FT (fw (vJ (b+1)) (FV (e:=C7.wrap (((b:Nat):Int)+1)) yk f1) (Mz rfl (D0 ?_)))))))
 have eH:=eG.pf [1]
 exact F9 (b+1,z,B,j,l,n,o,p,r,s,t,u,C,E,F,W,R,f,none,0, [], [],Y,U,h) ⟨rfl,rfl,rfl,rfl,rfl,trivial⟩ (I.2 ⟨eH,(show jl 6 ak aa a.aG.ls W R f∧jl 3 au ae aI none 0 ([])∧s8 af.abs ([])=([])∧jl 2 av ag a.ag.ls Y U h∧(b+1)≤d.dn.ls.length∧j≤a.aU+(b+1)∧l≤a.ax+(b+1)∧n≤a.bi+(b+1)∧o≤a.dW+(b+1)∧p≤a.bf+(b+1)∧r≤a.aK+(b+1)∧s≤a.dI+(b+1)∧t≤a.cZ+(b+1)∧u≤a.xN+(b+1)∧cO a d d.dn.ls a.dz a.eu a.aU a.ax a.bi a.dW a.bf a.aK a.dI a.cZ a.xN a.d9 a.bV.bK a.bV.bW a.aG.ls a.ah.ls a.ag.ls=cO a d (r6 (b+1) d.dn.ls) z B j l n o p r s t u C E F f ([]) h from ⟨by exact K,by exact jl.nil,by exact rfl,by exact L,e6,e6,e6,e6,e6,e6,e6,e6,e6,e6,et (M) (et (congrArg (fun q=>cO a d q z B j l n o p r s t u C E F f g h) N) (et (iN P) (et (iN V) (et (iN Z) (ip ah)))))⟩)⟩) (by show d.dn.ls.length - (b+1) < d.dn.ls.length - b; omega)
 refine jF (dF ah) (sr (Kz (.bool (decide (y=4))) (An rfl ?_)))
 by_cases ay:y=4
 refine jT (dT ay) (FT (Kz (vP aF 8) ?_))
 have eO:=O.pf [1]
 refine dN [.int .u64 0] 8 eO M7 ?_
 intro jh eP
 refine D0 (bN (bN (FW (FT (fw (vJ (b+1)) (FV (e:=C7.wrap (((b:Nat):Int)+1)) yk f1) (Mz rfl (D0 ?_)))))))
 have eQ:=eP.pf [1]
 exact F9 (b+1,z,B,j,l,0,o,p,r,s,t,u,C,E,F,W,R,f,X,S,T,g,Y,U,h) ⟨rfl,rfl,rfl,rfl,rfl,trivial⟩ (I.2 ⟨eQ,by exact K,by exact G,by exact J,by exact L,e6,e6,e6,e6,e6,e6,e6,e6,e6,e6,et (M) (et (congrArg (fun q=>cO a d q z B j l n o p r s t u C E F f g h) N) (et (iN P) (et (iN V) (et (iN Z) (et (iN ah) (ip ay))))))⟩) (by show d.dn.ls.length - (b+1) < d.dn.ls.length - b; omega)
 refine jF (dF ay) (sr (Kz (.bool (decide (y=5))) (An rfl ?_)))
 by_cases aC:y=5
 refine jT (dT aC) (FT (Kz (vP aF 9) ?_))
 have eT:=O.pf [1]
 refine dN [.int .u64 0] 9 eT M7 ?_
 intro ji eU
 refine D0 (bN (bN (FW (FT (fw (vJ (b+1)) (FV (e:=C7.wrap (((b:Nat):Int)+1)) yk f1) (Mz rfl (D0 ?_)))))))
 have eX:=eU.pf [1]
 exact F9 (b+1,z,B,j,l,n,0,p,r,s,t,u,C,E,F,W,R,f,X,S,T,g,Y,U,h) ⟨rfl,rfl,rfl,rfl,rfl,trivial⟩ (I.2 ⟨eX,by exact K,by exact G,by exact J,by exact L,e6,e6,e6,e6,e6,e6,e6,e6,e6,e6,et (M) (et (congrArg (fun q=>cO a d q z B j l n o p r s t u C E F f g h) N) (et (iN P) (et (iN V) (et (iN Z) (et (iN ah) (et (iN ay) (ip aC)))))))⟩) (by show d.dn.ls.length - (b+1) < d.dn.ls.length - b; omega)
 refine jF (dF aC) (sr (Kz (.bool (decide (y=6))) (An rfl ?_)))
 by_cases aD:y=6
 refine jT (dT aD) (FT (Kz (vP aF 11) ?_))
 have eY:=O.pf [1]
 refine dN [.int .u64 0] 11 eY M7 ?_
 intro jk fe
 refine D0 (bN (bN (FW (FT (fw (vJ (b+1)) (FV (e:=C7.wrap (((b:Nat):Int)+1)) yk f1) (Mz rfl (D0 ?_)))))))
 have fo:=fe.pf [1]
 exact F9 (b+1,z,B,j,l,n,o,p,0,s,t,u,C,E,F,W,R,f,X,S,T,g,Y,U,h) ⟨rfl,rfl,rfl,rfl,rfl,trivial⟩ (I.2 ⟨fo,by exact K,by exact G,by exact J,by exact L,e6,e6,e6,e6,e6,e6,e6,e6,e6,e6,et (M) (et (congrArg (fun q=>cO a d q z B j l n o p r s t u C E F f g h) N) (et (iN P) (et (iN V) (et (iN Z) (et (iN ah) (et (iN ay) (et (iN aC) (ip aD))))))))⟩) (by show d.dn.ls.length - (b+1) < d.dn.ls.length - b; omega)
 refine jF (dF aD) (sr (Kz (.bool (decide (y=7))) (An rfl ?_)))
 by_cases aG:y=7
 refine jT (dT aG) (FT (Kz (vP aF 18) ?_))
 have fq:=O.pf [1]
 refine dN [.slice none 0 0] 18 fq Tryz.sizeOf39 ?_
 intro jm fu
 refine D0 (bN (bN (FW (FT (fw (vJ (b+1)) (FV (e:=C7.wrap (((b:Nat):Int)+1)) yk f1) (Mz rfl (D0 ?_)))))))
 have fA:=fu.pf [1]
 exact F9 (b+1,z,B,j,l,n,o,p,r,s,t,u,C,E,F,none,0, [],X,S,T,g,Y,U,h) ⟨rfl,rfl,rfl,rfl,rfl,trivial⟩ (I.2 ⟨fA,(show jl 6 ak aa a.aG.ls none 0 ([])∧jl 3 au ae aI X S T∧s8 af.abs T=g∧jl 2 av ag a.ag.ls Y U h∧(b+1)≤d.dn.ls.length∧j≤a.aU+(b+1)∧l≤a.ax+(b+1)∧n≤a.bi+(b+1)∧o≤a.dW+(b+1)∧p≤a.bf+(b+1)∧r≤a.aK+(b+1)∧s≤a.dI+(b+1)∧t≤a.cZ+(b+1)∧u≤a.xN+(b+1)∧cO a d d.dn.ls a.dz a.eu a.aU a.ax a.bi a.dW a.bf a.aK a.dI a.cZ a.xN a.d9 a.bV.bK a.bV.bW a.aG.ls a.ah.ls a.ag.ls=cO a d (r6 (b+1) d.dn.ls) z B j l n o p r s t u C E F ([]) g h from ⟨by exact jl.nil,by exact G,by exact J,by exact L,e6,e6,e6,e6,e6,e6,e6,e6,e6,e6,et (M) (et (congrArg (fun q=>cO a d q z B j l n o p r s t u C E F f g h) N) (et (iN P) (et (iN V) (et (iN Z) (et (iN ah) (et (iN ay) (et (iN aC) (et (iN aD) (ip aG)))))))))⟩)⟩) (by show d.dn.ls.length - (b+1) < d.dn.ls.length - b; omega)
 refine jF (dF aG) (sr (Kz (.bool (decide (y=8))) (An rfl ?_)))
 by_cases aJ:y=8
 refine jT (dT aJ) (FT (Kz (vP aF 15) ?_))
 have fB:=O.pf [1]
 refine dN [.bool false] 15 fB Tryz.sizeOf4 ?_
 intro jo fC
 refine D0 (bN (bN (FW (FT (fw (vJ (b+1)) (FV (e:=C7.wrap (((b:Nat):Int)+1)) yk f1) (Mz rfl (D0 ?_)))))))
 have fD:=fC.pf [1]
 exact F9 (b+1,z,B,j,l,n,o,p,r,s,t,u,false,E,F,W,R,f,X,S,T,g,Y,U,h) ⟨rfl,rfl,rfl,rfl,rfl,trivial⟩ (I.2 ⟨fD,(show jl 6 ak aa a.aG.ls W R f∧jl 3 au ae aI X S T∧s8 af.abs T=g∧jl 2 av ag a.ag.ls Y U h∧(b+1)≤d.dn.ls.length∧j≤a.aU+(b+1)∧l≤a.ax+(b+1)∧n≤a.bi+(b+1)∧o≤a.dW+(b+1)∧p≤a.bf+(b+1)∧r≤a.aK+(b+1)∧s≤a.dI+(b+1)∧t≤a.cZ+(b+1)∧u≤a.xN+(b+1)∧cO a d d.dn.ls a.dz a.eu a.aU a.ax a.bi a.dW a.bf a.aK a.dI a.cZ a.xN a.d9 a.bV.bK a.bV.bW a.aG.ls a.ah.ls a.ag.ls=cO a d (r6 (b+1) d.dn.ls) z B j l n o p r s t u false E F f g h from ⟨by exact K,by exact G,by exact J,by exact L,e6,e6,e6,e6,e6,e6,e6,e6,e6,e6,et (M) (et (congrArg (fun q=>cO a d q z B j l n o p r s t u C E F f g h) N) (et (iN P) (et (iN V) (et (iN Z) (et (iN ah) (et (iN ay) (et (iN aC) (et (iN aD) (et (iN aG) (ip aJ))))))))))⟩)⟩) (by show d.dn.ls.length - (b+1) < d.dn.ls.length - b; omega)
 refine jF (dF aJ) (sr (Kz (.bool (decide (y=9))) (An rfl ?_)))
 by_cases aM:y=9
 refine jT (dT aM) (FT (Kz (vP aF 10) ?_))
 have fE:=O.pf [1]
 refine dN [.int .u64 0] 10 fE M7 ?_
 intro jq fF
 refine D0 (bN (bN (FW (FT (fw (vJ (b+1)) (FV (e:=C7.wrap (((b:Nat):Int)+1)) yk f1) (Mz rfl (D0 ?_)))))))
 have fG:=fF.pf [1]
 exact F9 (b+1,z,B,j,l,n,o,0,r,s,t,u,C,E,F,W,R,f,X,S,T,g,Y,U,h) ⟨rfl,rfl,rfl,rfl,rfl,trivial⟩ (I.2 ⟨fG,by exact K,by exact G,by exact J,by exact L,e6,e6,e6,e6,e6,e6,e6,e6,e6,e6,et (M) (et (congrArg (fun q=>cO a d q z B j l n o p r s t u C E F f g h) N) (et (iN P) (et (iN V) (et (iN Z) (et (iN ah) (et (iN ay) (et (iN aC) (et (iN aD) (et (iN aG) (et (iN aJ) (ip aM)))))))))))⟩) (by show d.dn.ls.length - (b+1) < d.dn.ls.length - b; omega)
 refine jF (dF aM) (sr (Kz (.bool (decide (y=10))) (An rfl ?_)))
 by_cases aP:y=10
 refine jT (dT aP) (FT (Kz (vP aF 12) ?_))
 have fH:=O.pf [1]
 refine dN [.int .u64 0] 12 fH M7 ?_
 intro jr fI
 refine D0 (bN (bN (FW (FT (fw (vJ (b+1)) (FV (e:=C7.wrap (((b:Nat):Int)+1)) yk f1) (Mz rfl (D0 ?_)))))))
 have fJ:=fI.pf [1]
 exact F9 (b+1,z,B,j,l,n,o,p,r,0,t,u,C,E,F,W,R,f,X,S,T,g,Y,U,h) ⟨rfl,rfl,rfl,rfl,rfl,trivial⟩ (I.2 ⟨fJ,by exact K,by exact G,by exact J,by exact L,e6,e6,e6,e6,e6,e6,e6,e6,e6,e6,et (M) (et (congrArg (fun q=>cO a d q z B j l n o p r s t u C E F f g h) N) (et (iN P) (et (iN V) (et (iN Z) (et (iN ah) (et (iN ay) (et (iN aC) (et (iN aD) (et (iN aG) (et (iN aJ) (et (iN aM) (ip aP))))))))))))⟩) (by show d.dn.ls.length - (b+1) < d.dn.ls.length - b; omega)
 refine jF (dF aP) (sr (Kz (.bool (decide (y=11))) (An rfl ?_)))
 by_cases aT:y=11
 refine jT (dT aT) (FT (Kz (vP aF 20) ?_))
 have fK:=O.pf [1]
 refine dN [.slice none 0 0] 20 fK Tryz.sizeOf29 ?_
 intro jv fM
 refine D0 (bN (bN (FW (FT (fw (vJ (b+1)) (FV (e:=C7.wrap (((b:Nat):Int)+1)) yk f1) (Mz rfl (D0 ?_)))))))
 have fO:=fM.pf [1]
 exact F9 (b+1,z,B,j,l,n,o,p,r,s,t,u,C,E,F,W,R,f,X,S,T,g,none,0, []) ⟨rfl,rfl,rfl,rfl,rfl,trivial⟩ (I.2 ⟨fO,(show jl 6 ak aa a.aG.ls W R f∧jl 3 au ae aI X S T∧s8 af.abs T=g∧jl 2 av ag a.ag.ls none 0 ([])∧(b+1)≤d.dn.ls.length∧j≤a.aU+(b+1)∧l≤a.ax+(b+1)∧n≤a.bi+(b+1)∧o≤a.dW+(b+1)∧p≤a.bf+(b+1)∧r≤a.aK+(b+1)∧s≤a.dI+(b+1)∧t≤a.cZ+(b+1)∧u≤a.xN+(b+1)∧cO a d d.dn.ls a.dz a.eu a.aU a.ax a.bi a.dW a.bf a.aK a.dI a.cZ a.xN a.d9 a.bV.bK a.bV.bW a.aG.ls a.ah.ls a.ag.ls=cO a d (r6 (b+1) d.dn.ls) z B j l n o p r s t u C E F f g ([]) from ⟨by exact K,by exact G,by exact J,by exact jl.nil,e6,e6,e6,e6,e6,e6,e6,e6,e6,e6,et (M) (et (congrArg (fun q=>cO a d q z B j l n o p r s t u C E F f g h) N) (et (iN P) (et (iN V) (et (iN Z) (et (iN ah) (et (iN ay) (et (iN aC) (et (iN aD) (et (iN aG) (et (iN aJ) (et (iN aM) (et (iN aP) (ip aT)))))))))))))⟩)⟩) (by show d.dn.ls.length - (b+1) < d.dn.ls.length - b; omega)
 refine jF (dF aT) (sr (Kz (.bool (decide (y=12))) (An rfl ?_)))
 by_cases aZ:y=12
 refine jT (dT aZ) (FT (Kz (vP aF 5) ?_))
 have fP:=O.pf [1]
 refine dN [vI 0] 5 fP Tryz.sizeOf3 ?_
 intro jw fQ
 refine D0 (bN (bN (FW (FT (fw (vJ (b+1)) (FV (e:=C7.wrap (((b:Nat):Int)+1)) yk f1) (Mz rfl (D0 ?_)))))))
 have fT:=fQ.pf [1]
 exact F9 (b+1,z,0,j,l,n,o,p,r,s,t,u,C,E,F,W,R,f,X,S,T,g,Y,U,h) ⟨rfl,rfl,rfl,rfl,rfl,trivial⟩ (I.2 ⟨fT,by exact K,by exact G,by exact J,by exact L,e6,e6,e6,e6,e6,e6,e6,e6,e6,e6,et (M) (et (congrArg (fun q=>cO a d q z B j l n o p r s t u C E F f g h) N) (et (iN P) (et (iN V) (et (iN Z) (et (iN ah) (et (iN ay) (et (iN aC) (et (iN aD) (et (iN aG) (et (iN aJ) (et (iN aM) (et (iN aP) (et (iN aT) (ip aZ))))))))))))))⟩) (by show d.dn.ls.length - (b+1) < d.dn.ls.length - b; omega)
 refine jF (dF aZ) (sr (Kz (.bool (decide (y=13))) (An rfl ?_)))
 by_cases bf:y=13
 refine jT (dT bf) (FT (Kz (.agg #[.string ⟨y6 ([])⟩, .string ⟨y6 ([])⟩]) (Kz (vP aF 16) ?_)))
 have fU:=O.pf [1]
 refine dN [.string ⟨y6 ([])⟩, .string ⟨y6 ([])⟩] 16 fU Tryz.sizeOf38 ?_
 intro jy fV
 refine D0 (bN (bN (FW (FT (fw (vJ (b+1)) (FV (e:=C7.wrap (((b:Nat):Int)+1)) yk f1) (Mz rfl (D0 ?_)))))))
 have gm:=fV.pf [1]
 exact F9 (b+1,z,B,j,l,n,o,p,r,s,t,u,C, [], [],W,R,f,X,S,T,g,Y,U,h) ⟨rfl,rfl,rfl,rfl,rfl,trivial⟩ (I.2 ⟨gm,(show jl 6 ak aa a.aG.ls W R f∧jl 3 au ae aI X S T∧s8 af.abs T=g∧jl 2 av ag a.ag.ls Y U h∧(b+1)≤d.dn.ls.length∧j≤a.aU+(b+1)∧l≤a.ax+(b+1)∧n≤a.bi+(b+1)∧o≤a.dW+(b+1)∧p≤a.bf+(b+1)∧r≤a.aK+(b+1)∧s≤a.dI+(b+1)∧t≤a.cZ+(b+1)∧u≤a.xN+(b+1)∧cO a d d.dn.ls a.dz a.eu a.aU a.ax a.bi a.dW a.bf a.aK a.dI a.cZ a.xN a.d9 a.bV.bK a.bV.bW a.aG.ls a.ah.ls a.ag.ls=cO a d (r6 (b+1) d.dn.ls) z B j l n o p r s t u C ([]) ([]) f g h from ⟨by exact K,by exact G,by exact J,by exact L,e6,e6,e6,e6,e6,e6,e6,e6,e6,e6,et (M) (et (congrArg (fun q=>cO a d q z B j l n o p r s t u C E F f g h) N) (et (iN P) (et (iN V) (et (iN Z) (et (iN ah) (et (iN ay) (et (iN aC) (et (iN aD) (et (iN aG) (et (iN aJ) (et (iN aM) (et (iN aP) (et (iN aT) (et (iN aZ) (ip bf)))))))))))))))⟩)⟩) (by show d.dn.ls.length - (b+1) < d.dn.ls.length - b; omega)
 refine jF (dF bf) (sr (Kz (.bool (decide (y=14))) (An rfl ?_)))
 by_cases bz:y=14
 refine jT (dT bz) (FT (Kz (vP aF 13) ?_))
 have gp:=O.pf [1]
 refine dN [.int .u64 0] 13 gp M7 ?_
 intro jA gq
 refine D0 (bN (bN (FW (FT (fw (vJ (b+1)) (FV (e:=C7.wrap (((b:Nat):Int)+1)) yk f1) (Mz rfl (D0 ?_)))))))
 have gu:=gq.pf [1]
 exact F9 (b+1,z,B,j,l,n,o,p,r,s,0,u,C,E,F,W,R,f,X,S,T,g,Y,U,h) ⟨rfl,rfl,rfl,rfl,rfl,trivial⟩ (I.2 ⟨gu,by exact K,by exact G,by exact J,by exact L,e6,e6,e6,e6,e6,e6,e6,e6,e6,e6,et (M) (et (congrArg (fun q=>cO a d q z B j l n o p r s t u C E F f g h) N) (et (iN P) (et (iN V) (et (iN Z) (et (iN ah) (et (iN ay) (et (iN aC) (et (iN aD) (et (iN aG) (et (iN aJ) (et (iN aM) (et (iN aP) (et (iN aT) (et (iN aZ) (et (iN bf) (ip bz))))))))))))))))⟩) (by show d.dn.ls.length - (b+1) < d.dn.ls.length - b; omega)
 refine jF (dF bz) (sr (Kz (.bool (decide (y=15))) (An rfl ?_)))
 by_cases bE:y=15
 refine jT (dT bE) (FT (Kz (vP aF 14) ?_))
 have gy:=O.pf [1]
 refine dN [.int .u64 0] 14 gy M7 ?_
 intro jB gz
 refine D0 (bN (bN (FW (FT (fw (vJ (b+1)) (FV (e:=C7.wrap (((b:Nat):Int)+1)) yk f1) (Mz rfl (D0 ?_)))))))
 have gF:=gz.pf [1]
 exact F9 (b+1,z,B,j,l,n,o,p,r,s,t,0,C,E,F,W,R,f,X,S,T,g,Y,U,h) ⟨rfl,rfl,rfl,rfl,rfl,trivial⟩ (I.2 ⟨gF,by exact K,by exact G,by exact J,by exact L,e6,e6,e6,e6,e6,e6,e6,e6,e6,e6,et (M) (et (congrArg (fun q=>cO a d q z B j l n o p r s t u C E F f g h) N) (et (iN P) (et (iN V) (et (iN Z) (et (iN ah) (et (iN ay) (et (iN aC) (et (iN aD) (et (iN aG) (et (iN aJ) (et (iN aM) (et (iN aP) (et (iN aT) (et (iN aZ) (et (iN bf) (et (iN bz) (ip bE)))))))))))))))))⟩) (by show d.dn.ls.length - (b+1) < d.dn.ls.length - b; omega)
 refine jF (dF bE) (Gj (bN (bN (FW (FT (fw (vJ (b+1)) (FV (e:=C7.wrap (((b:Nat):Int)+1)) yk f1) (Mz rfl (D0 ?_))))))))
 have gG:=O.pf []
 exact F9 (b+1,z,B,j,l,n,o,p,r,s,t,u,C,E,F,W,R,f,X,S,T,g,Y,U,h) ⟨rfl,rfl,rfl,rfl,rfl,trivial⟩ (I.2 ⟨gG,by exact K,by exact G,by exact J,by exact L,e6,e6,e6,e6,e6,e6,e6,e6,e6,e6,et (M) (et (congrArg (fun q=>cO a d q z B j l n o p r s t u C E F f g h) N) (et (iN P) (et (iN V) (et (iN Z) (et (iN ah) (et (iN ay) (et (iN aC) (et (iN aD) (et (iN aG) (et (iN aJ) (et (iN aM) (et (iN aP) (et (iN aT) (et (iN aZ) (et (iN bf) (et (iN bz) (iN bE)))))))))))))))))⟩) (by show d.dn.ls.length - (b+1) < d.dn.ls.length - b; omega)
 refine jF (dF cK) (Wp.exit (F4 ?_))
 have aQ:cO a d d.dn.ls a.dz a.eu a.aU a.ax a.bi a.dW a.bf a.aK a.dI a.cZ a.xN a.d9 a.bV.bK a.bV.bW a.aG.ls a.ah.ls a.ag.ls=(z,B,j,l,n,o,p,r,s,t,u,C,E,F,f,g,h):=et (M) (et (congrArg (fun q=>cO a d q z B j l n o p r s t u C E F f g h) (eZ (ls:=d.dn.ls) (i:=b) e6)) rfl)
 refine F4 (Gg (FW (sr (La (gD a.aH a.aJ a.eO a.aS z B j l n o p r s t u C E F W f.length R X g.length S Y h.length U) O 1 M5 M6 ?_))))
 refine dN (gD a.aH a.aJ a.eO a.aS z B j l n o p r s t u C E F W f.length R X g.length S Y h.length U) 0 O M6 ?_
 intro jC cZ
 refine nt (rt (Fin.res (mZ rfl rfl (Gc (cs:=(gD a.aH a.aJ a.eO a.aS z B j l n o p r s t u C E F W f.length R X g.length S Y h.length U)) M5 M6 ((cZ.cls (i:=0) rfl).lit (k:=0) (m:=21) rfl))) ?_))
 obtain⟨bF,aN⟩:∃ q,qG (bQ.mk a.aH a.aJ a.eO a.aS z B j l n o p r s t u C (bL.mk E F) (E4 f) (E4 g) (E4 h))=q:=⟨_,rfl⟩
 obtain⟨jD,dx,bq,dz,iR⟩:=FY cZ
 refine uX (cn aB) Tryz.call51 (yX _ _ (bQ.mk a.aH a.aJ a.eO a.aS z B j l n o p r s t u C (bL.mk E F) (E4 f) (E4 g) (E4 h)) W f.length R X g.length S T Y h.length U bF dx rfl (fun w9 h9=>jl.rds bC.len f3 K ((bq _ bK) w9 h9)) (show f.length≤R∧f.length≤9223372036854775807 from by omega) J rfl (fun w9 h9=>o8 (az J) (jl.rds af.len f3 G (o8 (az bg).symm ((bq _ bM) w9 h9)))) (show g.length≤S∧g.length≤9223372036854775807 from by omega) (fun x9 h9=>⟨bq _ ((fun x9 h9=>bi x9 (IG G h9)) x9 h9).1,((fun x9 h9=>bi x9 (IG G h9)) x9 h9).2⟩) rfl (fun w9 h9=>jl.rds bv.len f3 L ((bq _ bO) w9 h9)) (show h.length≤U∧h.length≤9223372036854775807 from by omega) i3 aN) ?_
 rintro _ jE ⟨rfl,dA⟩
 have bG:=dz _ _ dA
 refine Gz (.bool (!bF)) (cn aB) (fw (.bool (!bF)) (FX rfl (cn aB) rfl) (Mz rfl ?_))
 rcases JQ (bF) with Q | Q
 refine Ga (gT a ak aa au ae av ag) (cn Q) bG 4 M5 M6 (Gz (vP bA 2) (cn Q) (Gl (.slice aX d.dn.ls.length bn) (cn Q) bG 2 Tryz.isAgg126 ?_))
 obtain⟨bH,aR⟩:∃ q,rf a d.dn.ls=q:=⟨_,rfl⟩
 obtain⟨jG,dB,bu,dC,dD⟩:=FY bG
 refine uX (cn Q) Tryz.call53 (yw _ _ a ak a.aG.ls.length aa au a.ah.ls.length ae aI av a.ag.ls.length ag aX d.dn.ls.length bn d.dn.ls bH dB rfl (bu _ bK) (show a.aG.ls.length≤aa∧a.aG.ls.length≤9223372036854775807 from by omega) bg rfl (bu _ bM) (show a.ah.ls.length≤ae∧a.ah.ls.length≤9223372036854775807 from by omega) (fun x9 h9=>⟨bu _ (bi x9 h9).1,(bi x9 h9).2⟩) rfl (bu _ bO) (show a.ag.ls.length≤ag∧a.ag.ls.length≤9223372036854775807 from by omega) (dD _ 3 _ rfl aV) rfl e6 i3 aR) ?_
 rintro _ jH ⟨rfl,dE⟩
 have df:=dC _ _ dE
 refine Gz (.bool (!bH)) (cn Q) (fw (.bool (!bH)) (FX rfl (cn Q) rfl) (nt ?_))
 rcases JQ (bH) with aU | aU
 refine jF (cn aU) (sk (FU (FU ?_)))
 have aW:=df.pk [2,3,4]
 refine FT (Kz (vP bA 0) (Lz (vI d.lX) aW 0 M4 (Kz (.bool (decide (d.lX=1))) (Mz rfl ?_))))
 by_cases aH:d.lX=1
 refine Gz (vP bA 1) (dT aH) (Gl (vI d.ny) (dT aH) aW 0 M4 (Gz (.bool (decide (d.ny=1))) (dT aH) (fw (.bool (decide (d.ny=1))) (Gb rfl (dT aH) rfl) (Mz rfl ?_))))
 by_cases aA:d.ny=1
 refine Gz (vP bJ 1) (dT aA) (Gl (vI a.aJ) (dT aA) aW 2 C6 (Gz (vP bJ 2) (dT aA) (Gl (vI a.eO) (dT aA) aW 2 C6 (Gz (.bool (decide (a.aJ=a.eO))) (dT aA) (fw (.bool (decide (a.aJ=a.eO))) (Gb rfl (dT aA) rfl) (nt ?_))))))
 by_cases bI:a.aJ=a.eO
 refine jT (dT bI) (FU ?_)
 have gI:=aW.pk []
 refine FT (An rfl (rt (tR (rs ?_))))
 have gJ:=gI.pk []
 obtain rfl:_=180:=hr.symm.trans (et (ai aK) (et (ip aj) (et (ai aO) (et (ip ax) (et (ai aS) (et (ip aB) (et (ai aQ) (et (ai aN) (et (ip Q) (et (ai aR) (et (ip aU) (et (ip aH) (et (ip aA) (ip bI))))))))))))))
 exact⟨rfl,gJ⟩
 refine jF (dF bI) (sk (FU ?_))
 have gK:=aW.pk []
 refine FT (An rfl (rt (rs ?_)))
 have gL:=gK.pk []
 obtain rfl:_=0:=hr.symm.trans (et (ai aK) (et (ip aj) (et (ai aO) (et (ip ax) (et (ai aS) (et (ip aB) (et (ai aQ) (et (ai aN) (et (ip Q) (et (ai aR) (et (ip aU) (et (ip aH) (et (ip aA) (iN bI))))))))))))))
 exact⟨rfl,gL⟩
 refine Sz (dF aA) (Sz (dF aA) (Sz (dF aA) (Sz (dF aA) (Sz (dF aA) (fw (.bool false) (FX rfl (dF aA) rfl) (nt (jf (sk (FU ?_)))))))))
 have gM:=aW.pk []
 refine FT (An rfl (rt (rs ?_)))
 have gN:=gM.pk []
 obtain rfl:_=0:=hr.symm.trans (et (ai aK) (et (ip aj) (et (ai aO) (et (ip ax) (et (ai aS) (et (ip aB) (et (ai aQ) (et (ai aN) (et (ip Q) (et (ai aR) (et (ip aU) (et (ip aH) (iN aA)))))))))))))
 exact⟨rfl,gN⟩
 refine Sz (dF aH) (Sz (dF aH) (Sz (dF aH) (fw (.bool false) (FX rfl (dF aH) rfl) (Mz rfl (Sz rfl (Sz rfl (Sz rfl (Sz rfl (Sz rfl (fw (.bool false) (FX rfl rfl rfl) (nt (jf (sk (FU ?_))))))))))))))
 have gP:=aW.pk []
 refine FT (An rfl (rt (rs ?_)))
 have gQ:=gP.pk []
 obtain rfl:_=0:=hr.symm.trans (et (ai aK) (et (ip aj) (et (ai aO) (et (ip ax) (et (ai aS) (et (ip aB) (et (ai aQ) (et (ai aN) (et (ip Q) (et (ai aR) (et (ip aU) (iN aH))))))))))))
 exact⟨rfl,gQ⟩
 refine jT (cn aU) (FU ?_)
 have gU:=df.pk [2,3,4]
 refine FT (An rfl (rt (tR (rs ?_))))
 have gV:=gU.pk []
 obtain rfl:_=180:=hr.symm.trans (et (ai aK) (et (ip aj) (et (ai aO) (et (ip ax) (et (ai aS) (et (ip aB) (et (ai aQ) (et (ai aN) (et (ip Q) (et (ai aR) (gB aU)))))))))))
 exact⟨rfl,gV⟩
 refine Sz (cn Q) (Sz (cn Q) (Sz (cn Q) (Sz (cn Q) (Sz (cn Q) (fw (.bool true) (Gb rfl (cn Q) rfl) (nt (jt (FU ?_))))))))
 have gW:=bG.pk [2,3,4]
 refine FT (An rfl (rt (tR (rs ?_))))
 have gX:=gW.pk []
 obtain rfl:_=180:=hr.symm.trans (et (ai aK) (et (ip aj) (et (ai aO) (et (ip ax) (et (ai aS) (et (ip aB) (et (ai aQ) (et (ai aN) (gB Q)))))))))
 exact⟨rfl,gX⟩
 refine Sz (cn aB) (Sz (cn aB) (Sz (cn aB) (Sz (cn aB) (Sz (cn aB) (Sz (cn aB) (fw (.bool true) (Gb rfl (cn aB) rfl) (Mz rfl (Sz rfl (Sz rfl (Sz rfl (Sz rfl (Sz rfl (fw (.bool true) (Gb rfl rfl rfl) (nt (jt (sr (An rfl (rt (tR (rs ?_))))))))))))))))))))
 have gY:=bW.pk []
 obtain rfl:_=180:=hr.symm.trans (et (ai aK) (et (ip aj) (et (ai aO) (et (ip ax) (et (ai aS) (gB aB))))))
 exact⟨rfl,gY⟩
 refine Sz (cn ax) (Sz (cn ax) (Sz (cn ax) (Sz (cn ax) (Sz (cn ax) (Sz (cn ax) (fw (.bool true) (Gb rfl (cn ax) rfl) (Mz rfl (Sz rfl (Sz rfl (Sz rfl (Sz rfl (Sz rfl (Sz rfl (fw (.bool true) (Gb rfl rfl rfl) (Mz rfl (Sz rfl (Sz rfl (Sz rfl (Sz rfl (Sz rfl (fw (.bool true) (Gb rfl rfl rfl) (nt (jt (sr (An rfl (rt (tR (rs ?_))))))))))))))))))))))))))))
 have gZ:=bU.pk []
 obtain rfl:_=180:=hr.symm.trans (et (ai aK) (et (ip aj) (et (ai aO) (gB ax))))
 exact⟨rfl,gZ⟩
 refine Sz (cn aj) (Sz (cn aj) (Sz (cn aj) (Sz (cn aj) (Sz (cn aj) (Sz (cn aj) (fw (.bool true) (Gb rfl (cn aj) rfl) (Mz rfl (Sz rfl (Sz rfl (Sz rfl (Sz rfl (Sz rfl (Sz rfl (fw (.bool true) (Gb rfl rfl rfl) (Mz rfl (Sz rfl (Sz rfl (Sz rfl (Sz rfl (Sz rfl (Sz rfl (fw (.bool true) (Gb rfl rfl rfl) (Mz rfl (Sz rfl (Sz rfl (Sz rfl (Sz rfl (Sz rfl (fw (.bool true) (Gb rfl rfl rfl) (nt (jt (sr (An rfl (rt (tR ?_)))))))))))))))))))))))))))))))))))
 refine rs ?_
 have ib:=bS.pk []
 obtain rfl:_=180:=hr.symm.trans (et (ai aK) (gB aj))
 exact⟨rfl,ib⟩
end Go.Proofs.YtbkagebjhbphaaaGreat
