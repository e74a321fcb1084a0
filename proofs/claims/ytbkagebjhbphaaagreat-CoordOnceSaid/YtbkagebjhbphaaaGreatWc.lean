/-
 wire: the check of a message.
-/
import Derived.Test.YtbkagebjhbphaaaGreatWb
namespace Go.Proofs.YtbkagebjhbphaaaGreat
open IntKind renaming i64→C5
open List renaming drop→r3,flatMap→q3,map→s5,toArray→v9
open Ll renaming mk→E2
open _root_.Go.Proofs.Tryz renaming isAgg125→N4,isAgg3→C4,isAgg42→N5,sizeOf28→N7,sizeOf42→N6
open WL renaming nil→C6
set_option maxRecDepth 100000
open Go.RowKit
set_option linter.unusedVariables false
set_option linter.unusedSectionVars false
set_option linter.unusedSimpArgs false
def cB (u:bL) (s:gZ):List Int→Int→Int→Nat→Nat→Nat→Nat→Nat→Nat→Nat→Nat→Nat→Bool→List UInt8→List UInt8→List bi→List aQ→List aY→Int × Int × Nat × Nat × Nat × Nat × Nat × Nat × Nat × Nat × Nat × Bool × (List UInt8) × (List UInt8) × (List bi) × (List aQ) × (List aY)
  | [],b,c,d,e,f,g,h,i,j,k,l,m,n,o,p,q,r=>(b,c,d,e,f,g,h,i,j,k,l,m,n,o,p,q,r)
  | a::t,b,c,d,e,f,g,h,i,j,k,l,m,n,o,p,q,r=>if a=0 then cB u s t b c 0 e f g h i j k l m n o p q r else if a=1 then cB u s t b c d 0 f g h i j k l m n o p q r else if a=2 then cB u s t 0 c d e f g h i j k l m n o p q r else if a=3 then cB u s t b c d e f g h i j k l m n o p ([]) r else if a=4 then cB u s t b c d e 0 g h i j k l m n o p q r else if a=5 then cB u s t b c d e f 0 h i j k l m n o p q r else if a=6 then cB u s t b c d e f g h 0 j k l m n o p q r else if a=7 then cB u s t b c d e f g h i j k l m n o ([]) q r else if a=8 then cB u s t b c d e f g h i j k l false n o p q r else if a=9 then cB u s t b c d e f g 0 i j k l m n o p q r else if a=10 then cB u s t b c d e f g h i 0 k l m n o p q r else if a=11 then cB u s t b c d e f g h i j k l m n o p q ([]) else if a=12 then cB u s t b 0 d e f g h i j k l m n o p q r else if a=13 then cB u s t b c d e f g h i j k l m ([]) ([]) p q r else if a=14 then cB u s t b c d e f g h i j 0 l m n o p q r else if a=15 then cB u s t b c d e f g h i j k 0 m n o p q r else cB u s t b c d e f g h i j k l m n o p q r
def lQ (a:bL):Int:=
 bnd (pu a.aD) fun b=>if b.2=true then bnd (lN b.1.mG a.aJ) fun e=>if e=true then bnd (lN b.1.pM a.fI) fun f=>if f=true then bnd (cB a b.1 b.1.cK.ls a.dz a.eH a.aP a.av a.aN a.dY a.aV a.aL a.dL a.cu a.xN a.cz a.bU.bF a.bU.bT a.aH.ls a.ai.ls a.ag.ls) fun sLrbtbtbtL=>bnd (ru (bL.mk a.aD a.aJ a.fI a.aK sLrbtbtbtL.1 sLrbtbtbtL.2.1 sLrbtbtbtL.2.2.1 sLrbtbtbtL.2.2.2.1 sLrbtbtbtL.2.2.2.2.1 sLrbtbtbtL.2.2.2.2.2.1 sLrbtbtbtL.2.2.2.2.2.2.1 sLrbtbtbtL.2.2.2.2.2.2.2.1 sLrbtbtbtL.2.2.2.2.2.2.2.2.1 sLrbtbtbtL.2.2.2.2.2.2.2.2.2.1 sLrbtbtbtL.2.2.2.2.2.2.2.2.2.2.1 sLrbtbtbtL.2.2.2.2.2.2.2.2.2.2.2.1 (bC.mk sLrbtbtbtL.2.2.2.2.2.2.2.2.2.2.2.2.1 sLrbtbtbtL.2.2.2.2.2.2.2.2.2.2.2.2.2.1) (E2 sLrbtbtbtL.2.2.2.2.2.2.2.2.2.2.2.2.2.2.1) (E2 sLrbtbtbtL.2.2.2.2.2.2.2.2.2.2.2.2.2.2.2.1) (E2 sLrbtbtbtL.2.2.2.2.2.2.2.2.2.2.2.2.2.2.2.2))) fun c=>if c=true then bnd (qC a b.1.cK.ls) fun d=>if d=true then if b.1.mG=1 then if b.1.pM=1 then if a.aJ=a.fI then 180 else 0 else 0 else 0 else 180 else 180 else 180 else 180 else 180
set_option maxHeartbeats 8000000 in
theorem vK (w D) (a:bL) (ak bY aa au cu af aJ av cz ag r0) (H:Own w D w []) (dh:bY=a.aH.ls.length) (bM:Ro w D fun w'=>bE w' 6 ak a.aH.ls.length (q3 bi.cells a.aH.ls)) (ic:a.aH.ls.length≤aa∧a.aH.ls.length≤9223372036854775807) (bn:s5 ae.abs aJ=a.ai.ls) (di:cu=a.ai.ls.length) (bO:Ro w D fun w'=>bE w' 3 au a.ai.ls.length (q3 ae.cells aJ)) (ig:a.ai.ls.length≤af∧a.ai.ls.length≤9223372036854775807) (bq:∀ x ∈ aJ,Ro w D (fun w'=>bE w' 2 x.ak.A x.ak.ls.length (q3 aI.cells x.ak.ls))∧(x.ak.ls.length≤x.ak.c∧x.ak.ls.length≤9223372036854775807)) (dm:cz=a.ag.ls.length) (bP:Ro w D fun w'=>bE w' 2 av a.ag.ls.length (q3 aY.cells a.ag.ls)) (ik:a.ag.ls.length≤ag∧a.ag.ls.length≤9223372036854775807) (jH:a.aH.ls.length≤140737488355328∧a.ai.ls.length≤140737488355328∧a.ag.ls.length≤140737488355328) (hr:lQ a=r0):
    Calls Tryz.prog 21 #[.agg (gU a.aD a.aJ a.fI a.aK a.dz a.eH a.aP a.av a.aN a.dY a.aV a.aL a.dL a.cu a.xN a.cz a.bU.bF a.bU.bT ak bY aa au cu af av cz ag).toArray] w (d9 fun v w'=>v=vI r0∧Own w D w' []):=by
 subst dh di dm
 have ib:=aB bn
 refine cb Tryz.func21 ?_
 refine sr ?_
 refine dV (iH a ak aa au af av ag) 42 H ?_
 intro bK jI dG
 refine Ar rfl (Kz (vP bK 0) (Lz (vI a.aD) dG 0 C4 ?_))
 obtain⟨⟨d,bR⟩,aL⟩:∃ q:gZ × Bool,pu a.aD=q:=⟨_,rfl⟩
 obtain⟨jJ,dH,iT,dI,iU⟩:=Ii dG
 refine cl Tryz.call49 (xL _ _ a.aD d bR dH aL) ?_
 rintro _ jK ⟨aZ,bu,rfl,dJ,cK⟩
 have dK:=dI _ _ dJ
 have iV:=dK.rowC (i:=0) rfl
 replace cK:d.cK.ls.length≤5:=cK
 refine Mz rfl (Kz (.agg #[vI d.mG,vI d.pM, .slice aZ d.cK.ls.length bu]) (Kz (.bool bR) ?_))
 refine dV [vI 0,vI 0, .slice none 0 0] 128 dK ?_
 intro bB jM il
 refine dS [vI d.mG,vI d.pM, .slice aZ d.cK.ls.length bu] 0 il Tryz.sizeOf128 ?_
 intro jN bS
 refine An rfl (Ic (sr (Mz rfl (Kz (.bool (!bR)) (Mz rfl ?_)))))
 rcases Li (bR) with aj | aj
 refine Gz (vP bB 0) (cn aj) (Gl (vI d.mG) (cn aj) bS 0 N4 (Gz (vP bK 1) (cn aj) (Gl (vI a.aJ) (cn aj) bS 2 C4 ?_)))
 obtain⟨bT,aP⟩:∃ q,lN d.mG a.aJ=q:=⟨_,rfl⟩
 obtain⟨jO,dL,iW,dM,iX⟩:=Ii bS
 refine vR (cn aj) Tryz.call50 (rq _ _ d.mG a.aJ bT dL aP) ?_
 rintro _ jP ⟨rfl,dO⟩
 have bU:=dM _ _ dO
 refine Gz (.bool (!bT)) (cn aj) (fw (.bool (!bT)) (Ih rfl (cn aj) rfl) (Mz rfl ?_))
 rcases Li (bT) with ax | ax
 refine Gz (vP bB 1) (cn ax) (Gl (vI d.pM) (cn ax) bU 0 N4 (Gz (vP bK 2) (cn ax) (Gl (vI a.fI) (cn ax) bU 2 C4 ?_)))
 obtain⟨bV,aU⟩:∃ q,lN d.pM a.fI=q:=⟨_,rfl⟩
 obtain⟨jQ,dP,iY,dQ,iZ⟩:=Ii bU
 refine vR (cn ax) Tryz.call50 (rq _ _ d.pM a.fI bV dP aU) ?_
 rintro _ jR ⟨rfl,dR⟩
 have bW:=dQ _ _ dR
 refine Gz (.bool (!bV)) (cn ax) (fw (.bool (!bV)) (Ih rfl (cn ax) rfl) (Mz rfl ?_))
 rcases Li (bV) with aA | aA
 refine Ga (iH a ak aa au af av ag) (cn aA) bW 2 N5 N6 (Gz (vP bB 2) (cn aA) (Gl (.slice aZ d.cK.ls.length bu) (cn aA) bW 0 Tryz.isAgg126 ?_))
 refine Jm rfl rfl (cn aA) rfl (Iz Tryz.call52 rfl ?_ (fun _ _ k=>k))
 refine cb Tryz.func52 ?_
 refine sr ?_
 refine dV (iH a ak aa au af av ag) 42 bW ?_
 intro aF jS iq
 refine dV (gU 0 0 0 0 0 0 0 0 0 0 0 0 0 0 0 false ([]) ([]) none 0 0 none 0 0 none 0 0) 42 iq ?_
 intro dn jU iw
 refine nt (Ic (sr (Mz rfl (Kz (vJ d.cK.ls.length) (Mn rfl (bo ?_))))))
 have iy:=iw.pf []
 obtain⟨dU,I⟩:=G6 fun (b:Nat) (z:Int) (B:Int) (j:Nat) (l:Nat) (n:Nat) (o:Nat) (p:Nat) (r:Nat) (s:Nat) (t:Nat) (u:Nat) C E F W (R:Nat) f X (S:Nat) T g Y (U:Nat) h w'=>Own w D w' [blk dn (gU 0 0 0 0 0 0 0 0 0 0 0 0 0 0 0 false ([]) ([]) none 0 0 none 0 0 none 0 0) 42,blk aF (gU a.aD a.aJ a.fI a.aK z B j l n o p r s t u C E F W f.length R X g.length S Y h.length U) 42,blk bB [vI d.mG,vI d.pM, .slice aZ d.cK.ls.length bu] 128,row aZ d.cK.ls.length bu (q3 (eI .i64) d.cK.ls) 154 1,blk bK (iH a ak aa au af av ag) 42]∧jL 6 ak aa a.aH.ls W R f∧jL 3 au af aJ X S T∧s5 ae.abs T=g∧jL 2 av ag a.ag.ls Y U h∧b≤d.cK.ls.length∧j≤a.aP+b∧l≤a.av+b∧n≤a.aN+b∧o≤a.dY+b∧p≤a.aV+b∧r≤a.aL+b∧s≤a.dL+b∧t≤a.cu+b∧u≤a.xN+b∧cB a d d.cK.ls a.dz a.eH a.aP a.av a.aN a.dY a.aV a.aL a.dL a.cu a.xN a.cz a.bU.bF a.bU.bT a.aH.ls a.ai.ls a.ag.ls=cB a d (r3 b d.cK.ls) z B j l n o p r s t u C E F f g h
 refine Wp.loop (fun i:Nat × Int × Int × Nat × Nat × Nat × Nat × Nat × Nat × Nat × Nat × Nat × Bool × (List UInt8) × (List UInt8) × (Option Addr) × Nat × (List bi) × (Option Addr) × Nat × (List ae) × (List aQ) × (Option Addr) × Nat × (List aY)=> [(9,vJ i.1),(8,vJ d.cK.ls.length),(7, .slice aZ d.cK.ls.length bu),(4,vP dn 0),(2,vP aF 0)]) dU (fun i=>d.cK.ls.length - i.1) (0,a.dz,a.eH,a.aP,a.av,a.aN,a.dY,a.aV,a.aL,a.dL,a.cu,a.xN,a.cz,a.bU.bF,a.bU.bT,ak,aa,a.aH.ls,au,af,aJ,a.ai.ls,av,ag,a.ag.ls) ⟨rfl,rfl,rfl,rfl,rfl,trivial⟩ (I.2 ⟨iy,by exact(jL.refl e6),by exact(jL.refl e6),by exact bn,by exact(jL.refl e6),e6,e6,e6,e6,e6,e6,e6,e6,e6,e6,rfl⟩) ?_
 rintro ⟨b,z,B,j,l,n,o,p,r,s,t,u,C,E,F,W,R,f,X,S,T,g,Y,U,h⟩ ja dw
 obtain⟨O,K,G,J,L,iA,iB,iC,iD,iE,iF,iG,iI,iJ,iK,M⟩:=I.1 dw
 have iL:=(K).le
 have iM:=(G).le
 have iO:=aB J
 have iP:=(L).le
 refine sr (Kz (.bool (decide (((b:Nat):Int) < ((d.cK.ls.length:Nat):Int)))) (nt (Ic ?_)))
 by_cases cO:((b:Nat):Int) < ((d.cK.ls.length:Nat):Int)
 obtain⟨y,bQ⟩:=dN (ls:=d.cK.ls) (i:=b) jd f4 (O.rds (i:=3) rfl) e9
 have N:=drop_at bQ
 refine jT (dT cO) (sk (Ic (bo (sr (fw (.pointer (some ⟨ab aZ,ao aZ+b *1,none⟩)) (Ij (Ev) rfl rfl ((O.rds (i:=3) rfl).addr (i:=b) e6) e6) (fw (vI y) (Io rfl (bZ.one Tryz.isAgg154 (((O.rds (i:=3) rfl).elem jd bQ f4).at_ (k:=0) rfl))) (Ar rfl (Mn rfl (bo (sr (Kz (.bool (decide (y=0))) (An rfl ?_))))))))))))
 by_cases P:y=0
 refine jT (dT P) (Ib (Kz (vP aF 6) ?_))
 have dW:=O.pf [1]
 refine dS [.int .u64 0] 6 dW N7 ?_
 intro jb dX
 refine C6 (bN (bN (Ig (Ib (fw (vJ (b+1)) (Ie (e:=C5.wrap (((b:Nat):Int)+1)) yk f0) (Mz rfl (C6 ?_)))))))
 have dY:=dX.pf [1]
 exact Ir (b+1,z,B,0,l,n,o,p,r,s,t,u,C,E,F,W,R,f,X,S,T,g,Y,U,h) ⟨rfl,rfl,rfl,rfl,rfl,trivial⟩ (I.2 ⟨dY,by exact K,by exact G,by exact J,by exact L,e6,e6,e6,e6,e6,e6,e6,e6,e6,e6,et (M) (et (congrArg (fun q=>cB a d q z B j l n o p r s t u C E F f g h) N) (ip P))⟩) (by show d.cK.ls.length - (b+1) < d.cK.ls.length - b; omega)
 refine jF (dF P) (sr (Kz (.bool (decide (y=1))) (An rfl ?_)))
 by_cases V:y=1
 refine jT (dT V) (Ib (Kz (vP aF 7) ?_))
 have dZ:=O.pf [1]
 refine dS [.int .u64 0] 7 dZ N7 ?_
 intro jc ed
 refine C6 (bN (bN (Ig (Ib (fw (vJ (b+1)) (Ie (e:=C5.wrap (((b:Nat):Int)+1)) yk f0) (Mz rfl (C6 ?_)))))))
 have ek:=ed.pf [1]
 exact Ir (b+1,z,B,j,0,n,o,p,r,s,t,u,C,E,F,W,R,f,X,S,T,g,Y,U,h) ⟨rfl,rfl,rfl,rfl,rfl,trivial⟩ (I.2 ⟨ek,by exact K,by exact G,by exact J,by exact L,e6,e6,e6,e6,e6,e6,e6,e6,e6,e6,et (M) (et (congrArg (fun q=>cB a d q z B j l n o p r s t u C E F f g h) N) (et (iN P) (ip V)))⟩) (by show d.cK.ls.length - (b+1) < d.cK.ls.length - b; omega)
 refine jF (dF V) (sr (Kz (.bool (decide (y=2))) (An rfl ?_)))
 by_cases Z:y=2
 refine jT (dT Z) (Ib (Kz (vP aF 4) ?_))
 have eu:=O.pf [1]
 refine dS [vI 0] 4 eu Tryz.sizeOf3 ?_
 intro je eB
 refine C6 (bN (bN (Ig (Ib (fw (vJ (b+1)) (Ie (e:=C5.wrap (((b:Nat):Int)+1)) yk f0) (Mz rfl (C6 ?_)))))))
 have eD:=eB.pf [1]
 exact Ir (b+1,0,B,j,l,n,o,p,r,s,t,u,C,E,F,W,R,f,X,S,T,g,Y,U,h) ⟨rfl,rfl,rfl,rfl,rfl,trivial⟩ (I.2 ⟨eD,by exact K,by exact G,by exact J,by exact L,e6,e6,e6,e6,e6,e6,e6,e6,e6,e6,et (M) (et (congrArg (fun q=>cB a d q z B j l n o p r s t u C E F f g h) N) (et (iN P) (et (iN V) (ip Z))))⟩) (by show d.cK.ls.length - (b+1) < d.cK.ls.length - b; omega)
 refine jF (dF Z) (sr (Kz (.bool (decide (y=3))) (An rfl ?_)))
 by_cases ai:y=3
 refine jT (dT ai) (Ib (Kz (vP aF 19) ?_))
 have eF:=O.pf [1]
 refine dS [.slice none 0 0] 19 eF Tryz.sizeOf40 ?_
 intro jg eG
 refine C6 (bN (bN (Ig (Ib (fw (vJ (b+1)) (Ie (e:=C5.wrap (((b:Nat):Int)+1)) yk f0) (Mz rfl (C6 ?_)))))))
 have eH:=eG.pf [1]
 exact Ir (b+1,z,B,j,l,n,o,p,r,s,t,u,C,E,F,W,R,f,none,0, [], [],Y,U,h) ⟨rfl,rfl,rfl,rfl,rfl,trivial⟩ (I.2 ⟨eH,(show jL 6 ak aa a.aH.ls W R f∧jL 3 au af aJ none 0 ([])∧s5 ae.abs ([])=([])∧jL 2 av ag a.ag.ls Y U h∧(b+1)≤d.cK.ls.length∧j≤a.aP+(b+1)∧l≤a.av+(b+1)∧n≤a.aN+(b+1)∧o≤a.dY+(b+1)∧p≤a.aV+(b+1)∧r≤a.aL+(b+1)∧s≤a.dL+(b+1)∧t≤a.cu+(b+1)∧u≤a.xN+(b+1)∧cB a d d.cK.ls a.dz a.eH a.aP a.av a.aN a.dY a.aV a.aL a.dL a.cu a.xN a.cz a.bU.bF a.bU.bT a.aH.ls a.ai.ls a.ag.ls=cB a d (r3 (b+1) d.cK.ls) z B j l n o p r s t u C E F f ([]) h from ⟨by exact K,by exact jL.nil,by exact rfl,by exact L,e6,e6,e6,e6,e6,e6,e6,e6,e6,e6,et (M) (et (congrArg (fun q=>cB a d q z B j l n o p r s t u C E F f g h) N) (et (iN P) (et (iN V) (et (iN Z) (ip ai)))))⟩)⟩) (by show d.cK.ls.length - (b+1) < d.cK.ls.length - b; omega)
 refine jF (dF ai) (sr (Kz (.bool (decide (y=4))) (An rfl ?_)))
 by_cases ay:y=4
 refine jT (dT ay) (Ib (Kz (vP aF 8) ?_))
 have eO:=O.pf [1]
 refine dS [.int .u64 0] 8 eO N7 ?_
 intro jh eP
 refine C6 (bN (bN (Ig (Ib (fw (vJ (b+1)) (Ie (e:=C5.wrap (((b:Nat):Int)+1)) yk f0) (Mz rfl (C6 ?_)))))))
 have eQ:=eP.pf [1]
 exact Ir (b+1,z,B,j,l,0,o,p,r,s,t,u,C,E,F,W,R,f,X,S,T,g,Y,U,h) ⟨rfl,rfl,rfl,rfl,rfl,trivial⟩ (I.2 ⟨eQ,by exact K,by exact G,by exact J,by exact L,e6,e6,e6,e6,e6,e6,e6,e6,e6,e6,et (M) (et (congrArg (fun q=>cB a d q z B j l n o p r s t u C E F f g h) N) (et (iN P) (et (iN V) (et (iN Z) (et (iN ai) (ip ay))))))⟩) (by show d.cK.ls.length - (b+1) < d.cK.ls.length - b; omega)
 refine jF (dF ay) (sr (Kz (.bool (decide (y=5))) (An rfl ?_)))
 by_cases aC:y=5
 refine jT (dT aC) (Ib (Kz (vP aF 9) ?_))
 have eT:=O.pf [1]
 refine dS [.int .u64 0] 9 eT N7 ?_
 intro ji eU
 refine C6 (bN (bN (Ig (Ib (fw (vJ (b+1)) (Ie (e:=C5.wrap (((b:Nat):Int)+1)) yk f0) (Mz rfl (C6 ?_)))))))
 have eX:=eU.pf [1]
 exact Ir (b+1,z,B,j,l,n,0,p,r,s,t,u,C,E,F,W,R,f,X,S,T,g,Y,U,h) ⟨rfl,rfl,rfl,rfl,rfl,trivial⟩ (I.2 ⟨eX,by exact K,by exact G,by exact J,by exact L,e6,e6,e6,e6,e6,e6,e6,e6,e6,e6,et (M) (et (congrArg (fun q=>cB a d q z B j l n o p r s t u C E F f g h) N) (et (iN P) (et (iN V) (et (iN Z) (et (iN ai) (et (iN ay) (ip aC)))))))⟩) (by show d.cK.ls.length - (b+1) < d.cK.ls.length - b; omega)
 refine jF (dF aC) (sr (Kz (.bool (decide (y=6))) (An rfl ?_)))
 by_cases aD:y=6
 refine jT (dT aD) (Ib (Kz (vP aF 11) ?_))
 have eY:=O.pf [1]
 refine dS [.int .u64 0] 11 eY N7 ?_
 intro jk eZ
 refine C6 (bN (bN (Ig (Ib (fw (vJ (b+1)) (Ie (e:=C5.wrap (((b:Nat):Int)+1)) yk f0) (Mz rfl (C6 ?_)))))))
 have fe:=eZ.pf [1]
 exact Ir (b+1,z,B,j,l,n,o,p,0,s,t,u,C,E,F,W,R,f,X,S,T,g,Y,U,h) ⟨rfl,rfl,rfl,rfl,rfl,trivial⟩ (I.2 ⟨fe,by exact K,by exact G,by exact J,by exact L,e6,e6,e6,e6,e6,e6,e6,e6,e6,e6,et (M) (et (congrArg (fun q=>cB a d q z B j l n o p r s t u C E F f g h) N) (et (iN P) (et (iN V) (et (iN Z) (et (iN ai) (et (iN ay) (et (iN aC) (ip aD))))))))⟩) (by show d.cK.ls.length - (b+1) < d.cK.ls.length - b; omega)
 refine jF (dF aD) (sr (Kz (.bool (decide (y=7))) (An rfl ?_)))
 by_cases aG:y=7
 refine jT (dT aG) (Ib (Kz (vP aF 18) ?_))
 have fo:=O.pf [1]
 refine dS [.slice none 0 0] 18 fo Tryz.sizeOf39 ?_
 intro jl fq
 refine C6 (bN (bN (Ig (Ib (fw (vJ (b+1)) (Ie (e:=C5.wrap (((b:Nat):Int)+1)) yk f0) (Mz rfl (C6 ?_)))))))
 have fu:=fq.pf [1]
 exact Ir (b+1,z,B,j,l,n,o,p,r,s,t,u,C,E,F,none,0, [],X,S,T,g,Y,U,h) ⟨rfl,rfl,rfl,rfl,rfl,trivial⟩ (I.2 ⟨fu,(show jL 6 ak aa a.aH.ls none 0 ([])∧jL 3 au af aJ X S T∧s5 ae.abs T=g∧jL 2 av ag a.ag.ls Y U h∧(b+1)≤d.cK.ls.length∧j≤a.aP+(b+1)∧l≤a.av+(b+1)∧n≤a.aN+(b+1)∧o≤a.dY+(b+1)∧p≤a.aV+(b+1)∧r≤a.aL+(b+1)∧s≤a.dL+(b+1)∧t≤a.cu+(b+1)∧u≤a.xN+(b+1)∧cB a d d.cK.ls a.dz a.eH a.aP a.av a.aN a.dY a.aV a.aL a.dL a.cu a.xN a.cz a.bU.bF a.bU.bT a.aH.ls a.ai.ls a.ag.ls=cB a d (r3 (b+1) d.cK.ls) z B j l n o p r s t u C E F ([]) g h from ⟨by exact jL.nil,by exact G,by exact J,by exact L,e6,e6,e6,e6,e6,e6,e6,e6,e6,e6,et (M) (et (congrArg (fun q=>cB a d q z B j l n o p r s t u C E F f g h) N) (et (iN P) (et (iN V) (et (iN Z) (et (iN ai) (et (iN ay) (et (iN aC) (et (iN aD) (ip aG)))))))))⟩)⟩) (by show d.cK.ls.length - (b+1) < d.cK.ls.length - b; omega)
 refine jF (dF aG) (sr (Kz (.bool (decide (y=8))) (An rfl ?_)))
 by_cases aK:y=8
 refine jT (dT aK) (Ib (Kz (vP aF 15) ?_))
 have fA:=O.pf [1]
 refine dS [.bool false] 15 fA Tryz.sizeOf4 ?_
 intro jm fC
 refine C6 (bN (bN (Ig (Ib (fw (vJ (b+1)) (Ie (e:=C5.wrap (((b:Nat):Int)+1)) yk f0) (Mz rfl (C6 ?_)))))))
 have fD:=fC.pf [1]
 exact Ir (b+1,z,B,j,l,n,o,p,r,s,t,u,false,E,F,W,R,f,X,S,T,g,Y,U,h) ⟨rfl,rfl,rfl,rfl,rfl,trivial⟩ (I.2 ⟨fD,(show jL 6 ak aa a.aH.ls W R f∧jL 3 au af aJ X S T∧s5 ae.abs T=g∧jL 2 av ag a.ag.ls Y U h∧(b+1)≤d.cK.ls.length∧j≤a.aP+(b+1)∧l≤a.av+(b+1)∧n≤a.aN+(b+1)∧o≤a.dY+(b+1)∧p≤a.aV+(b+1)∧r≤a.aL+(b+1)∧s≤a.dL+(b+1)∧t≤a.cu+(b+1)∧u≤a.xN+(b+1)∧cB a d d.cK.ls a.dz a.eH a.aP a.av a.aN a.dY a.aV a.aL a.dL a.cu a.xN a.cz a.bU.bF a.bU.bT a.aH.ls a.ai.ls a.ag.ls=cB a d (r3 (b+1) d.cK.ls) z B j l n o p r s t u false E F f g h from ⟨by exact K,by exact G,by exact J,by exact L,e6,e6,e6,e6,e6,e6,e6,e6,e6,e6,et (M) (et (congrArg (fun q=>cB a d q z B j l n o p r s t u C E F f g h) N) (et (iN P) (et (iN V) (et (iN Z) (et (iN ai) (et (iN ay) (et (iN aC) (et (iN aD) (et (iN aG) (ip aK))))))))))⟩)⟩) (by show d.cK.ls.length - (b+1) < d.cK.ls.length - b; omega)
 refine jF (dF aK) (sr (Kz (.bool (decide (y=9))) (An rfl ?_)))
 by_cases aM:y=9
 refine jT (dT aM) (Ib (Kz (vP aF 10) ?_))
 have fE:=O.pf [1]
 refine dS [.int .u64 0] 10 fE N7 ?_
 intro jo fF
 refine C6 (bN (bN (Ig (Ib (fw (vJ (b+1)) (Ie (e:=C5.wrap (((b:Nat):Int)+1)) yk f0) (Mz rfl (C6 ?_)))))))
 have fG:=fF.pf [1]
 exact Ir (b+1,z,B,j,l,n,o,0,r,s,t,u,C,E,F,W,R,f,X,S,T,g,Y,U,h) ⟨rfl,rfl,rfl,rfl,rfl,trivial⟩ (I.2 ⟨fG,by exact K,by exact G,by exact J,by exact L,e6,e6,e6,e6,e6,e6,e6,e6,e6,e6,et (M) (et (congrArg (fun q=>cB a d q z B j l n o p r s t u C E F f g h) N) (et (iN P) (et (iN V) (et (iN Z) (et (iN ai) (et (iN ay) (et (iN aC) (et (iN aD) (et (iN aG) (et (iN aK) (ip aM)))))))))))⟩) (by show d.cK.ls.length - (b+1) < d.cK.ls.length - b; omega)
 refine jF (dF aM) (sr (Kz (.bool (decide (y=10))) (An rfl ?_)))
 by_cases aR:y=10
 refine jT (dT aR) (Ib (Kz (vP aF 12) ?_))
 have fH:=O.pf [1]
 refine dS [.int .u64 0] 12 fH N7 ?_
 intro jq fI
 refine C6 (bN (bN (Ig (Ib (fw (vJ (b+1)) (Ie (e:=C5.wrap (((b:Nat):Int)+1)) yk f0) (Mz rfl (C6 ?_)))))))
 have fJ:=fI.pf [1]
 exact Ir (b+1,z,B,j,l,n,o,p,r,0,t,u,C,E,F,W,R,f,X,S,T,g,Y,U,h) ⟨rfl,rfl,rfl,rfl,rfl,trivial⟩ (I.2 ⟨fJ,by exact K,by exact G,by exact J,by exact L,e6,e6,e6,e6,e6,e6,e6,e6,e6,e6,et (M) (et (congrArg (fun q=>cB a d q z B j l n o p r s t u C E F f g h) N) (et (iN P) (et (iN V) (et (iN Z) (et (iN ai) (et (iN ay) (et (iN aC) (et (iN aD) (et (iN aG) (et (iN aK) (et (iN aM) (ip aR))))))))))))⟩) (by show d.cK.ls.length - (b+1) < d.cK.ls.length - b; omega)
 refine jF (dF aR) (sr (Kz (.bool (decide (y=11))) (An rfl ?_)))
 by_cases aV:y=11
 refine jT (dT aV) (Ib (Kz (vP aF 20) ?_))
 have fK:=O.pf [1]
 refine dS [.slice none 0 0] 20 fK Tryz.sizeOf29 ?_
 intro jr fM
 refine C6 (bN (bN (Ig (Ib (fw (vJ (b+1)) (Ie (e:=C5.wrap (((b:Nat):Int)+1)) yk f0) (Mz rfl (C6 ?_)))))))
 have fO:=fM.pf [1]
 exact Ir (b+1,z,B,j,l,n,o,p,r,s,t,u,C,E,F,W,R,f,X,S,T,g,none,0, []) ⟨rfl,rfl,rfl,rfl,rfl,trivial⟩ (I.2 ⟨fO,(show jL 6 ak aa a.aH.ls W R f∧jL 3 au af aJ X S T∧s5 ae.abs T=g∧jL 2 av ag a.ag.ls none 0 ([])∧(b+1)≤d.cK.ls.length∧j≤a.aP+(b+1)∧l≤a.av+(b+1)∧n≤a.aN+(b+1)∧o≤a.dY+(b+1)∧p≤a.aV+(b+1)∧r≤a.aL+(b+1)∧s≤a.dL+(b+1)∧t≤a.cu+(b+1)∧u≤a.xN+(b+1)∧cB a d d.cK.ls a.dz a.eH a.aP a.av a.aN a.dY a.aV a.aL a.dL a.cu a.xN a.cz a.bU.bF a.bU.bT a.aH.ls a.ai.ls a.ag.ls=cB a d (r3 (b+1) d.cK.ls) z B j l n o p r s t u C E F f g ([]) from ⟨by exact K,by exact G,by exact J,by exact jL.nil,e6,e6,e6,e6,e6,e6,e6,e6,e6,e6,et (M) (et (congrArg (fun q=>cB a d q z B j l n o p r s t u C E F f g h) N) (et (iN P) (et (iN V) (et (iN Z) (et (iN ai) (et (iN ay) (et (iN aC) (et (iN aD) (et (iN aG) (et (iN aK) (et (iN aM) (et (iN aR) (ip aV)))))))))))))⟩)⟩) (by show d.cK.ls.length - (b+1) < d.cK.ls.length - b; omega)
 refine jF (dF aV) (sr (Kz (.bool (decide (y=12))) (An rfl ?_)))
 by_cases bf:y=12
 refine jT (dT bf) (Ib (Kz (vP aF 5) ?_))
 have fP:=O.pf [1]
 refine dS [vI 0] 5 fP Tryz.sizeOf3 ?_
 intro jv fQ
 refine C6 (bN (bN (Ig (Ib (fw (vJ (b+1)) (Ie (e:=C5.wrap (((b:Nat):Int)+1)) yk f0) (Mz rfl (C6 ?_)))))))
 have fT:=fQ.pf [1]
 exact Ir (b+1,z,0,j,l,n,o,p,r,s,t,u,C,E,F,W,R,f,X,S,T,g,Y,U,h) ⟨rfl,rfl,rfl,rfl,rfl,trivial⟩ (I.2 ⟨fT,by exact K,by exact G,by exact J,by exact L,e6,e6,e6,e6,e6,e6,e6,e6,e6,e6,et (M) (et (congrArg (fun q=>cB a d q z B j l n o p r s t u C E F f g h) N) (et (iN P) (et (iN V) (et (iN Z) (et (iN ai) (et (iN ay) (et (iN aC) (et (iN aD) (et (iN aG) (et (iN aK) (et (iN aM) (et (iN aR) (et (iN aV) (ip bf))))))))))))))⟩) (by show d.cK.ls.length - (b+1) < d.cK.ls.length - b; omega)
 refine jF (dF bf) (sr (Kz (.bool (decide (y=13))) (An rfl ?_)))
 by_cases bg:y=13
 refine jT (dT bg) (Ib (Kz (.agg #[.string ⟨v9 ([])⟩, .string ⟨v9 ([])⟩]) (Kz (vP aF 16) ?_)))
 have fU:=O.pf [1]
 refine dS [.string ⟨v9 ([])⟩, .string ⟨v9 ([])⟩] 16 fU Tryz.sizeOf38 ?_
 intro jw fV
 refine C6 (bN (bN (Ig (Ib (fw (vJ (b+1)) (Ie (e:=C5.wrap (((b:Nat):Int)+1)) yk f0) (Mz rfl (C6 ?_)))))))
 have fZ:=fV.pf [1]
 exact Ir (b+1,z,B,j,l,n,o,p,r,s,t,u,C, [], [],W,R,f,X,S,T,g,Y,U,h) ⟨rfl,rfl,rfl,rfl,rfl,trivial⟩ (I.2 ⟨fZ,(show jL 6 ak aa a.aH.ls W R f∧jL 3 au af aJ X S T∧s5 ae.abs T=g∧jL 2 av ag a.ag.ls Y U h∧(b+1)≤d.cK.ls.length∧j≤a.aP+(b+1)∧l≤a.av+(b+1)∧n≤a.aN+(b+1)∧o≤a.dY+(b+1)∧p≤a.aV+(b+1)∧r≤a.aL+(b+1)∧s≤a.dL+(b+1)∧t≤a.cu+(b+1)∧u≤a.xN+(b+1)∧cB a d d.cK.ls a.dz a.eH a.aP a.av a.aN a.dY a.aV a.aL a.dL a.cu a.xN a.cz a.bU.bF a.bU.bT a.aH.ls a.ai.ls a.ag.ls=cB a d (r3 (b+1) d.cK.ls) z B j l n o p r s t u C ([]) ([]) f g h from ⟨by exact K,by exact G,by exact J,by exact L,e6,e6,e6,e6,e6,e6,e6,e6,e6,e6,et (M) (et (congrArg (fun q=>cB a d q z B j l n o p r s t u C E F f g h) N) (et (iN P) (et (iN V) (et (iN Z) (et (iN ai) (et (iN ay) (et (iN aC) (et (iN aD) (et (iN aG) (et (iN aK) (et (iN aM) (et (iN aR) (et (iN aV) (et (iN bf) (ip bg)))))))))))))))⟩)⟩) (by show d.cK.ls.length - (b+1) < d.cK.ls.length - b; omega)
 refine jF (dF bg) (sr (Kz (.bool (decide (y=14))) (An rfl ?_)))
 by_cases bA:y=14
 refine jT (dT bA) (Ib (Kz (vP aF 13) ?_))
 have gp:=O.pf [1]
 refine dS [.int .u64 0] 13 gp N7 ?_
 intro jy gq
 refine C6 (bN (bN (Ig (Ib (fw (vJ (b+1)) (Ie (e:=C5.wrap (((b:Nat):Int)+1)) yk f0) (Mz rfl (C6 ?_)))))))
 have gu:=gq.pf [1]
 exact Ir (b+1,z,B,j,l,n,o,p,r,s,0,u,C,E,F,W,R,f,X,S,T,g,Y,U,h) ⟨rfl,rfl,rfl,rfl,rfl,trivial⟩ (I.2 ⟨gu,by exact K,by exact G,by exact J,by exact L,e6,e6,e6,e6,e6,e6,e6,e6,e6,e6,et (M) (et (congrArg (fun q=>cB a d q z B j l n o p r s t u C E F f g h) N) (et (iN P) (et (iN V) (et (iN Z) (et (iN ai) (et (iN ay) (et (iN aC) (et (iN aD) (et (iN aG) (et (iN aK) (et (iN aM) (et (iN aR) (et (iN aV) (et (iN bf) (et (iN bg) (ip bA))))))))))))))))⟩) (by show d.cK.ls.length - (b+1) < d.cK.ls.length - b; omega)
 refine jF (dF bA) (sr (Kz (.bool (decide (y=15))) (An rfl ?_)))
 by_cases bF:y=15
 refine jT (dT bF) (Ib (Kz (vP aF 14) ?_))
 have gy:=O.pf [1]
 refine dS [.int .u64 0] 14 gy N7 ?_
 intro jA gz
 refine C6 (bN (bN (Ig (Ib (fw (vJ (b+1)) (Ie (e:=C5.wrap (((b:Nat):Int)+1)) yk f0) (Mz rfl (C6 ?_)))))))
 have gB:=gz.pf [1]
 exact Ir (b+1,z,B,j,l,n,o,p,r,s,t,0,C,E,F,W,R,f,X,S,T,g,Y,U,h) ⟨rfl,rfl,rfl,rfl,rfl,trivial⟩ (I.2 ⟨gB,by exact K,by exact G,by exact J,by exact L,e6,e6,e6,e6,e6,e6,e6,e6,e6,e6,et (M) (et (congrArg (fun q=>cB a d q z B j l n o p r s t u C E F f g h) N) (et (iN P) (et (iN V) (et (iN Z) (et (iN ai) (et (iN ay) (et (iN aC) (et (iN aD) (et (iN aG) (et (iN aK) (et (iN aM) (et (iN aR) (et (iN aV) (et (iN bf) (et (iN bg) (et (iN bA) (ip bF)))))))))))))))))⟩) (by show d.cK.ls.length - (b+1) < d.cK.ls.length - b; omega)
 refine jF (dF bF) (IE (bN (bN (Ig (Ib (fw (vJ (b+1)) (Ie (e:=C5.wrap (((b:Nat):Int)+1)) yk f0) (Mz rfl (C6 ?_))))))))
 have gD:=O.pf []
 exact Ir (b+1,z,B,j,l,n,o,p,r,s,t,u,C,E,F,W,R,f,X,S,T,g,Y,U,h) ⟨rfl,rfl,rfl,rfl,rfl,trivial⟩ (I.2 ⟨gD,by exact K,by exact G,by exact J,by exact L,e6,e6,e6,e6,e6,e6,e6,e6,e6,e6,et (M) (et (congrArg (fun q=>cB a d q z B j l n o p r s t u C E F f g h) N) (et (iN P) (et (iN V) (et (iN Z) (et (iN ai) (et (iN ay) (et (iN aC) (et (iN aD) (et (iN aG) (et (iN aK) (et (iN aM) (et (iN aR) (et (iN aV) (et (iN bf) (et (iN bg) (et (iN bA) (iN bF)))))))))))))))))⟩) (by show d.cK.ls.length - (b+1) < d.cK.ls.length - b; omega)
 refine jF (dF cO) (Wp.exit (Il ?_))
 have aS:cB a d d.cK.ls a.dz a.eH a.aP a.av a.aN a.dY a.aV a.aL a.dL a.cu a.xN a.cz a.bU.bF a.bU.bT a.aH.ls a.ai.ls a.ag.ls=(z,B,j,l,n,o,p,r,s,t,u,C,E,F,f,g,h):=et (M) (et (congrArg (fun q=>cB a d q z B j l n o p r s t u C E F f g h) (fB (ls:=d.cK.ls) (i:=b) e6)) rfl)
 refine Il (IB (Ig (sr (La (gU a.aD a.aJ a.fI a.aK z B j l n o p r s t u C E F W f.length R X g.length S Y h.length U) O 1 N5 N6 ?_))))
 refine dS (gU a.aD a.aJ a.fI a.aK z B j l n o p r s t u C E F W f.length R X g.length S Y h.length U) 0 O N6 ?_
 intro jB cZ
 refine nt (rt (Fin.res (ol rfl rfl (Iy (cs:=(gU a.aD a.aJ a.fI a.aK z B j l n o p r s t u C E F W f.length R X g.length S Y h.length U)) N5 N6 ((cZ.cls (i:=0) rfl).lit (k:=0) (m:=21) rfl))) ?_))
 obtain⟨bG,aN⟩:∃ q,ru (bL.mk a.aD a.aJ a.fI a.aK z B j l n o p r s t u C (bC.mk E F) (E2 f) (E2 g) (E2 h))=q:=⟨_,rfl⟩
 obtain⟨jC,dx,bv,dz,iQ⟩:=Ii cZ
 refine vR (cn aA) Tryz.call51 (zK _ _ (bL.mk a.aD a.aJ a.fI a.aK z B j l n o p r s t u C (bC.mk E F) (E2 f) (E2 g) (E2 h)) W f.length R X g.length S T Y h.length U bG dx rfl (fun w9 h9=>jL.rds bi.len f4 K ((bv _ bM) w9 h9)) (show f.length≤R∧f.length≤9223372036854775807 from by omega) J rfl (fun w9 h9=>qg (aB J) (jL.rds ae.len f4 G (qg (aB bn).symm ((bv _ bO) w9 h9)))) (show g.length≤S∧g.length≤9223372036854775807 from by omega) (fun x9 h9=>⟨bv _ ((fun x9 h9=>bq x9 (J4 G h9)) x9 h9).1,((fun x9 h9=>bq x9 (J4 G h9)) x9 h9).2⟩) rfl (fun w9 h9=>jL.rds aY.len f4 L ((bv _ bP) w9 h9)) (show h.length≤U∧h.length≤9223372036854775807 from by omega) i3 aN) ?_
 rintro _ jD ⟨rfl,dA⟩
 have bH:=dz _ _ dA
 refine Gz (.bool (!bG)) (cn aA) (fw (.bool (!bG)) (Ih rfl (cn aA) rfl) (Mz rfl ?_))
 rcases Li (bG) with Q | Q
 refine Ga (iH a ak aa au af av ag) (cn Q) bH 4 N5 N6 (Gz (vP bB 2) (cn Q) (Gl (.slice aZ d.cK.ls.length bu) (cn Q) bH 2 Tryz.isAgg126 ?_))
 obtain⟨bI,aT⟩:∃ q,qC a d.cK.ls=q:=⟨_,rfl⟩
 obtain⟨jE,dB,bz,dC,dD⟩:=Ii bH
 refine vR (cn Q) Tryz.call53 (yY _ _ a ak a.aH.ls.length aa au a.ai.ls.length af aJ av a.ag.ls.length ag aZ d.cK.ls.length bu d.cK.ls bI dB rfl (bz _ bM) (show a.aH.ls.length≤aa∧a.aH.ls.length≤9223372036854775807 from by omega) bn rfl (bz _ bO) (show a.ai.ls.length≤af∧a.ai.ls.length≤9223372036854775807 from by omega) (fun x9 h9=>⟨bz _ (bq x9 h9).1,(bq x9 h9).2⟩) rfl (bz _ bP) (show a.ag.ls.length≤ag∧a.ag.ls.length≤9223372036854775807 from by omega) (dD _ 3 _ rfl aO) rfl e6 i3 aT) ?_
 rintro _ jG ⟨rfl,dE⟩
 have df:=dC _ _ dE
 refine Gz (.bool (!bI)) (cn Q) (fw (.bool (!bI)) (Ih rfl (cn Q) rfl) (nt ?_))
 rcases Li (bI) with aW | aW
 refine jF (cn aW) (sk (Ic (Ic ?_)))
 have aX:=df.pk [2,3,4]
 refine Ib (Kz (vP bB 0) (Lz (vI d.mG) aX 0 N4 (Kz (.bool (decide (d.mG=1))) (Mz rfl ?_))))
 by_cases aH:d.mG=1
 refine Gz (vP bB 1) (dT aH) (Gl (vI d.pM) (dT aH) aX 0 N4 (Gz (.bool (decide (d.pM=1))) (dT aH) (fw (.bool (decide (d.pM=1))) (Iw rfl (dT aH) rfl) (Mz rfl ?_))))
 by_cases az:d.pM=1
 refine Gz (vP bK 1) (dT az) (Gl (vI a.aJ) (dT az) aX 2 C4 (Gz (vP bK 2) (dT az) (Gl (vI a.fI) (dT az) aX 2 C4 (Gz (.bool (decide (a.aJ=a.fI))) (dT az) (fw (.bool (decide (a.aJ=a.fI))) (Iw rfl (dT az) rfl) (nt ?_))))))
 by_cases bJ:a.aJ=a.fI
 refine jT (dT bJ) (Ic ?_)
 have gG:=aX.pk []
 refine Ib (An rfl (rt (tR (rs ?_))))
 have gH:=gG.pk []
 obtain rfl:_=180:=hr.symm.trans (et (ah aL) (et (ip aj) (et (ah aP) (et (ip ax) (et (ah aU) (et (ip aA) (et (ah aS) (et (ah aN) (et (ip Q) (et (ah aT) (et (ip aW) (et (ip aH) (et (ip az) (ip bJ))))))))))))))
 exact⟨rfl,gH⟩
 refine jF (dF bJ) (sk (Ic ?_))
 have gI:=aX.pk []
 refine Ib (An rfl (rt (rs ?_)))
 have gJ:=gI.pk []
 obtain rfl:_=0:=hr.symm.trans (et (ah aL) (et (ip aj) (et (ah aP) (et (ip ax) (et (ah aU) (et (ip aA) (et (ah aS) (et (ah aN) (et (ip Q) (et (ah aT) (et (ip aW) (et (ip aH) (et (ip az) (iN bJ))))))))))))))
 exact⟨rfl,gJ⟩
 refine Sz (dF az) (Sz (dF az) (Sz (dF az) (Sz (dF az) (Sz (dF az) (fw (.bool false) (Ih rfl (dF az) rfl) (nt (jf (sk (Ic ?_)))))))))
 have gK:=aX.pk []
 refine Ib (An rfl (rt (rs ?_)))
 have gL:=gK.pk []
 obtain rfl:_=0:=hr.symm.trans (et (ah aL) (et (ip aj) (et (ah aP) (et (ip ax) (et (ah aU) (et (ip aA) (et (ah aS) (et (ah aN) (et (ip Q) (et (ah aT) (et (ip aW) (et (ip aH) (iN az)))))))))))))
 exact⟨rfl,gL⟩
 refine Sz (dF aH) (Sz (dF aH) (Sz (dF aH) (fw (.bool false) (Ih rfl (dF aH) rfl) (Mz rfl (Sz rfl (Sz rfl (Sz rfl (Sz rfl (Sz rfl (fw (.bool false) (Ih rfl rfl rfl) (nt (jf (sk (Ic ?_))))))))))))))
 have gM:=aX.pk []
 refine Ib (An rfl (rt (rs ?_)))
 have gN:=gM.pk []
 obtain rfl:_=0:=hr.symm.trans (et (ah aL) (et (ip aj) (et (ah aP) (et (ip ax) (et (ah aU) (et (ip aA) (et (ah aS) (et (ah aN) (et (ip Q) (et (ah aT) (et (ip aW) (iN aH))))))))))))
 exact⟨rfl,gN⟩
 refine jT (cn aW) (Ic ?_)
 have gP:=df.pk [2,3,4]
 refine Ib (An rfl (rt (tR (rs ?_))))
 have gQ:=gP.pk []
 obtain rfl:_=180:=hr.symm.trans (et (ah aL) (et (ip aj) (et (ah aP) (et (ip ax) (et (ah aU) (et (ip aA) (et (ah aS) (et (ah aN) (et (ip Q) (et (ah aT) (gm aW)))))))))))
 exact⟨rfl,gQ⟩
 refine Sz (cn Q) (Sz (cn Q) (Sz (cn Q) (Sz (cn Q) (Sz (cn Q) (fw (.bool true) (Iw rfl (cn Q) rfl) (nt (jt (Ic ?_))))))))
 have gT:=bH.pk [2,3,4]
 refine Ib (An rfl (rt (tR (rs ?_))))
 have gV:=gT.pk []
 obtain rfl:_=180:=hr.symm.trans (et (ah aL) (et (ip aj) (et (ah aP) (et (ip ax) (et (ah aU) (et (ip aA) (et (ah aS) (et (ah aN) (gm Q)))))))))
 exact⟨rfl,gV⟩
 refine Sz (cn aA) (Sz (cn aA) (Sz (cn aA) (Sz (cn aA) (Sz (cn aA) (Sz (cn aA) (fw (.bool true) (Iw rfl (cn aA) rfl) (Mz rfl (Sz rfl (Sz rfl (Sz rfl (Sz rfl (Sz rfl (fw (.bool true) (Iw rfl rfl rfl) (nt (jt (sr (An rfl (rt (tR (rs ?_))))))))))))))))))))
 have gW:=bW.pk []
 obtain rfl:_=180:=hr.symm.trans (et (ah aL) (et (ip aj) (et (ah aP) (et (ip ax) (et (ah aU) (gm aA))))))
 exact⟨rfl,gW⟩
 refine Sz (cn ax) (Sz (cn ax) (Sz (cn ax) (Sz (cn ax) (Sz (cn ax) (Sz (cn ax) (fw (.bool true) (Iw rfl (cn ax) rfl) (Mz rfl (Sz rfl (Sz rfl (Sz rfl (Sz rfl (Sz rfl (Sz rfl (fw (.bool true) (Iw rfl rfl rfl) (Mz rfl (Sz rfl (Sz rfl (Sz rfl (Sz rfl (Sz rfl (fw (.bool true) (Iw rfl rfl rfl) (nt (jt (sr (An rfl (rt (tR (rs ?_))))))))))))))))))))))))))))
 have gX:=bU.pk []
 obtain rfl:_=180:=hr.symm.trans (et (ah aL) (et (ip aj) (et (ah aP) (gm ax))))
 exact⟨rfl,gX⟩
 refine Sz (cn aj) (Sz (cn aj) (Sz (cn aj) (Sz (cn aj) (Sz (cn aj) (Sz (cn aj) (fw (.bool true) (Iw rfl (cn aj) rfl) (Mz rfl (Sz rfl (Sz rfl (Sz rfl (Sz rfl (Sz rfl (Sz rfl (fw (.bool true) (Iw rfl rfl rfl) (Mz rfl (Sz rfl (Sz rfl (Sz rfl (Sz rfl (Sz rfl (Sz rfl (fw (.bool true) (Iw rfl rfl rfl) (Mz rfl (Sz rfl (Sz rfl (Sz rfl (Sz rfl (Sz rfl (fw (.bool true) (Iw rfl rfl rfl) (nt (jt (sr (An rfl (rt (tR ?_)))))))))))))))))))))))))))))))))))
 refine rs ?_
 have gY:=bS.pk []
 obtain rfl:_=180:=hr.symm.trans (et (ah aL) (gm aj))
 exact⟨rfl,gY⟩
end Go.Proofs.YtbkagebjhbphaaaGreat
