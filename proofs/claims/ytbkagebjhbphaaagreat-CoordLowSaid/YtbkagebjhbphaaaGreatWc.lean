/-
 wire: the check of a message.
-/
import Derived.Test.YtbkagebjhbphaaaGreatWb
namespace Go.Proofs.YtbkagebjhbphaaaGreat
set_option maxRecDepth 100000
open Go.RowKit
set_option linter.unusedVariables false
set_option linter.unusedSectionVars false
set_option linter.unusedSimpArgs false
def df (u:bP) (s:fQ):List Int→Int→Int→Nat→Nat→Nat→Nat→Nat→Nat→Nat→Nat→Nat→Bool→List UInt8→List UInt8→List bC→List aZ→List bv→Int × Int × Nat × Nat × Nat × Nat × Nat × Nat × Nat × Nat × Nat × Bool × (List UInt8) × (List UInt8) × (List bC) × (List aZ) × (List bv)
  | [],b,c,d,e,f,g,h,i,j,k,l,m,n,o,p,q,r=>(b,c,d,e,f,g,h,i,j,k,l,m,n,o,p,q,r)
  | a::t,b,c,d,e,f,g,h,i,j,k,l,m,n,o,p,q,r=>if a=0 then df u s t b c 0 e f g h i j k l m n o p q r else if a=1 then df u s t b c d 0 f g h i j k l m n o p q r else if a=2 then df u s t 0 c d e f g h i j k l m n o p q r else if a=3 then df u s t b c d e f g h i j k l m n o p ([]) r else if a=4 then df u s t b c d e 0 g h i j k l m n o p q r else if a=5 then df u s t b c d e f 0 h i j k l m n o p q r else if a=6 then df u s t b c d e f g h 0 j k l m n o p q r else if a=7 then df u s t b c d e f g h i j k l m n o ([]) q r else if a=8 then df u s t b c d e f g h i j k l false n o p q r else if a=9 then df u s t b c d e f g 0 i j k l m n o p q r else if a=10 then df u s t b c d e f g h i 0 k l m n o p q r else if a=11 then df u s t b c d e f g h i j k l m n o p q ([]) else if a=12 then df u s t b 0 d e f g h i j k l m n o p q r else if a=13 then df u s t b c d e f g h i j k l m ([]) ([]) p q r else if a=14 then df u s t b c d e f g h i j 0 l m n o p q r else if a=15 then df u s t b c d e f g h i j k 0 m n o p q r else df u s t b c d e f g h i j k l m n o p q r
def l5 (a:bP):Int:=
 bnd (pq a.aI) fun b=>if b.2=true then bnd (kX b.1.lQ a.aJ) fun e=>if e=true then bnd (kX b.1.ou a.eU) fun f=>if f=true then bnd (df a b.1 b.1.dn.ls a.dz a.dL a.aU a.ay a.bf a.cz a.aY a.aH a.dG a.bT a.xN a.dI a.bO.bJ a.bO.bW a.aD.ls a.ah.ls a.ag.ls) fun sLrbtbtbtL=>bnd (qi (bP.mk a.aI a.aJ a.eU a.aQ sLrbtbtbtL.1 sLrbtbtbtL.2.1 sLrbtbtbtL.2.2.1 sLrbtbtbtL.2.2.2.1 sLrbtbtbtL.2.2.2.2.1 sLrbtbtbtL.2.2.2.2.2.1 sLrbtbtbtL.2.2.2.2.2.2.1 sLrbtbtbtL.2.2.2.2.2.2.2.1 sLrbtbtbtL.2.2.2.2.2.2.2.2.1 sLrbtbtbtL.2.2.2.2.2.2.2.2.2.1 sLrbtbtbtL.2.2.2.2.2.2.2.2.2.2.1 sLrbtbtbtL.2.2.2.2.2.2.2.2.2.2.2.1 (bK.mk sLrbtbtbtL.2.2.2.2.2.2.2.2.2.2.2.2.1 sLrbtbtbtL.2.2.2.2.2.2.2.2.2.2.2.2.2.1) (Ll.mk sLrbtbtbtL.2.2.2.2.2.2.2.2.2.2.2.2.2.2.1) (Ll.mk sLrbtbtbtL.2.2.2.2.2.2.2.2.2.2.2.2.2.2.2.1) (Ll.mk sLrbtbtbtL.2.2.2.2.2.2.2.2.2.2.2.2.2.2.2.2))) fun c=>if c=true then bnd (qN a b.1.dn.ls) fun d=>if d=true then if b.1.lQ=1 then if b.1.ou=1 then if a.aJ=a.eU then 180 else 0 else 0 else 0 else 180 else 180 else 180 else 180 else 180
set_option maxHeartbeats 8000000 in
theorem uG (w:World) (D:Nat→Prop) (a:bP) (ak:Option Addr) (bY aa:Nat) (au:Option Addr) (cu ae:Nat) (aI:List af) (av:Option Addr) (cz ag:Nat) (r0:Int) (H:Own w D w []) (dh:bY=a.aD.ls.length) (bL:Ro w D fun w'=>bD w' 6 ak a.aD.ls.length (List.flatMap bC.cells a.aD.ls)) (ig:a.aD.ls.length≤aa∧a.aD.ls.length≤9223372036854775807) (bg:List.map af.abs aI=a.ah.ls) (di:cu=a.ah.ls.length) (bM:Ro w D fun w'=>bD w' 3 au a.ah.ls.length (List.flatMap af.cells aI)) (ik:a.ah.ls.length≤ae∧a.ah.ls.length≤9223372036854775807) (bi:∀ x ∈ aI,Ro w D (fun w'=>bD w' 2 x.av.A x.av.ls.length (List.flatMap aL.cells x.av.ls))∧(x.av.ls.length≤x.av.c∧x.av.ls.length≤9223372036854775807)) (dm:cz=a.ag.ls.length) (bO:Ro w D fun w'=>bD w' 2 av a.ag.ls.length (List.flatMap bv.cells a.ag.ls)) (il:a.ag.ls.length≤ag∧a.ag.ls.length≤9223372036854775807) (jI:a.aD.ls.length≤140737488355328∧a.ah.ls.length≤140737488355328∧a.ag.ls.length≤140737488355328) (hr:l5 a=r0):
    Calls Tryz.prog 21 #[.agg (gN a.aI a.aJ a.eU a.aQ a.dz a.dL a.aU a.ay a.bf a.cz a.aY a.aH a.dG a.bT a.xN a.dI a.bO.bJ a.bO.bW ak bY aa au cu ae av cz ag).toArray] w (dW fun v w'=>v=vI r0∧Own w D w' []):=by
 subst dh di dm
 have ic:=aA bg
 refine cb Tryz.func21 ?_
 refine sr ?_
 refine dP (gP a ak aa au ae av ag) 42 H ?_
 intro bJ jJ dG
 refine Ar rfl (Kz (vP bJ 0) (Lz (vI a.aI) dG 0 Tryz.isAgg3 ?_))
 obtain⟨⟨d,bR⟩,aK⟩:∃ q:fQ × Bool,pq a.aI=q:=⟨_,rfl⟩
 obtain⟨jK,dH,iU,dI,iV⟩:=EU dG
 refine cl Tryz.call49 (wI _ _ a.aI d bR dH aK) ?_
 rintro _ jL ⟨aX,bn,rfl,dJ,cB⟩
 have dL:=dI _ _ dJ
 have iW:=dL.rowC (i:=0) rfl
 replace cB:d.dn.ls.length≤5:=cB
 refine Mz rfl (Kz (.agg #[vI d.lQ,vI d.ou, .slice aX d.dn.ls.length bn]) (Kz (.bool bR) ?_))
 refine dP [vI 0,vI 0, .slice none 0 0] 128 dL ?_
 intro bA jM iq
 refine dO [vI d.lQ,vI d.ou, .slice aX d.dn.ls.length bn] 0 iq Tryz.sizeOf128 ?_
 intro jN bS
 refine An rfl (EP (sr (Mz rfl (Kz (.bool (!bR)) (Mz rfl ?_)))))
 rcases IW (bR) with aj | aj
 refine Gz (vP bA 0) (cn aj) (Gl (vI d.lQ) (cn aj) bS 0 Tryz.isAgg125 (Gz (vP bJ 1) (cn aj) (Gl (vI a.aJ) (cn aj) bS 2 Tryz.isAgg3 ?_)))
 obtain⟨bT,aO⟩:∃ q,kX d.lQ a.aJ=q:=⟨_,rfl⟩
 obtain⟨jO,dM,iX,dN,iY⟩:=EU bS
 refine uO (cn aj) Tryz.call50 (qh _ _ d.lQ a.aJ bT dM aO) ?_
 rintro _ jP ⟨rfl,dQ⟩
 have bU:=dN _ _ dQ
 refine Gz (.bool (!bT)) (cn aj) (fw (.bool (!bT)) (ES rfl (cn aj) rfl) (Mz rfl ?_))
 rcases IW (bT) with ax | ax
 refine Gz (vP bA 1) (cn ax) (Gl (vI d.ou) (cn ax) bU 0 Tryz.isAgg125 (Gz (vP bJ 2) (cn ax) (Gl (vI a.eU) (cn ax) bU 2 Tryz.isAgg3 ?_)))
 obtain⟨bV,aS⟩:∃ q,kX d.ou a.eU=q:=⟨_,rfl⟩
 obtain⟨jQ,dR,iZ,dS,ja⟩:=EU bU
 refine uO (cn ax) Tryz.call50 (qh _ _ d.ou a.eU bV dR aS) ?_
 rintro _ jR ⟨rfl,dU⟩
 have bW:=dS _ _ dU
 refine Gz (.bool (!bV)) (cn ax) (fw (.bool (!bV)) (ES rfl (cn ax) rfl) (Mz rfl ?_))
 rcases IW (bV) with aB | aB
 refine Ga (gP a ak aa au ae av ag) (cn aB) bW 2 Tryz.isAgg42 Tryz.sizeOf42 (Gz (vP bA 2) (cn aB) (Gl (.slice aX d.dn.ls.length bn) (cn aB) bW 0 Tryz.isAgg126 ?_))
 refine F7 rfl rfl (cn aB) rfl (Fe Tryz.call52 rfl ?_ (fun _ _ k=>k))
 refine cb Tryz.func52 ?_
 refine sr ?_
 refine dP (gP a ak aa au ae av ag) 42 bW ?_
 intro aF jS iw
 refine dP (gN 0 0 0 0 0 0 0 0 0 0 0 0 0 0 0 false ([]) ([]) none 0 0 none 0 0 none 0 0) 42 iw ?_
 intro dn jU iy
 refine nt (EP (sr (Mz rfl (Kz (vJ d.dn.ls.length) (Mn rfl (bo ?_))))))
 have iA:=iy.pf []
 obtain⟨dV,I⟩:=Ew fun(b:Nat) (z:Int) (B:Int) (j:Nat) (l:Nat) (n:Nat) (o:Nat) (p:Nat) (r:Nat) (s:Nat) (t:Nat) (u:Nat) (C:Bool) (E:List UInt8) (F:List UInt8) (W:Option Addr) (R:Nat) (f:List bC) (X:Option Addr) (S:Nat) (T:List af) (g:List aZ) (Y:Option Addr) (U:Nat) (h:List bv) (w':World)=>Own w D w' [blk dn (gN 0 0 0 0 0 0 0 0 0 0 0 0 0 0 0 false ([]) ([]) none 0 0 none 0 0 none 0 0) 42,blk aF (gN a.aI a.aJ a.eU a.aQ z B j l n o p r s t u C E F W f.length R X g.length S Y h.length U) 42,blk bA [vI d.lQ,vI d.ou, .slice aX d.dn.ls.length bn] 128,row aX d.dn.ls.length bn (List.flatMap (eI .i64) d.dn.ls) 154 1,blk bJ (gP a ak aa au ae av ag) 42]∧ji 6 ak aa a.aD.ls W R f∧ji 3 au ae aI X S T∧List.map af.abs T=g∧ji 2 av ag a.ag.ls Y U h∧b≤d.dn.ls.length∧j≤a.aU+b∧l≤a.ay+b∧n≤a.bf+b∧o≤a.cz+b∧p≤a.aY+b∧r≤a.aH+b∧s≤a.dG+b∧t≤a.bT+b∧u≤a.xN+b∧df a d d.dn.ls a.dz a.dL a.aU a.ay a.bf a.cz a.aY a.aH a.dG a.bT a.xN a.dI a.bO.bJ a.bO.bW a.aD.ls a.ah.ls a.ag.ls=df a d (List.drop b d.dn.ls) z B j l n o p r s t u C E F f g h
 refine Wp.loop (fun i:Nat × Int × Int × Nat × Nat × Nat × Nat × Nat × Nat × Nat × Nat × Nat × Bool × (List UInt8) × (List UInt8) × (Option Addr) × Nat × (List bC) × (Option Addr) × Nat × (List af) × (List aZ) × (Option Addr) × Nat × (List bv)=> [(9,vJ i.1),(8,vJ d.dn.ls.length),(7, .slice aX d.dn.ls.length bn),(4,vP dn 0),(2,vP aF 0)]) dV (fun i=>d.dn.ls.length - i.1) (0,a.dz,a.dL,a.aU,a.ay,a.bf,a.cz,a.aY,a.aH,a.dG,a.bT,a.xN,a.dI,a.bO.bJ,a.bO.bW,ak,aa,a.aD.ls,au,ae,aI,a.ah.ls,av,ag,a.ag.ls) ⟨rfl,rfl,rfl,rfl,rfl,trivial⟩ (I.2 ⟨iA,by exact(ji.refl (by omega)),by exact(ji.refl (by omega)),by exact bg,by exact(ji.refl (by omega)),by omega,by omega,by omega,by omega,by omega,by omega,by omega,by omega,by omega,by omega,rfl⟩) ?_
 rintro ⟨b,z,B,j,l,n,o,p,r,s,t,u,C,E,F,W,R,f,X,S,T,g,Y,U,h⟩ jb dw
 show Wp _ _ _ [(9,vJ b),(8,vJ d.dn.ls.length),(7, .slice aX d.dn.ls.length bn),(4,vP dn 0),(2,vP aF 0)] _ _
 obtain⟨O,K,G,J,L,iB,iC,iD,iE,iF,iG,iH,iI,iK,iL,M⟩:=I.1 dw
 have iM:=(K).le
 have iO:=(G).le
 have iP:=aA J
 have iQ:=(L).le
 refine sr (Kz (.bool (decide (((b:Nat):Int) < ((d.dn.ls.length:Nat):Int)))) (nt (EP ?_)))
 by_cases cK:((b:Nat):Int) < ((d.dn.ls.length:Nat):Int)
 obtain⟨y,bQ⟩:=dK (ls:=d.dn.ls) (i:=b) iJ (by decide) (O.rds (i:=3) rfl) (by first | omega | (simp; done) | (simp; omega))
 have N:=drop_at bQ
 refine jT (dT cK) (sk (EP (bo (sr (fw (.pointer (some ⟨ab aX,ao aX+b *1,none⟩)) (ET (CK) rfl rfl ((O.rds (i:=3) rfl).addr (i:=b) (by omega)) (by omega)) (fw (vI y) (EY rfl (bZ.one Tryz.isAgg154 (((O.rds (i:=3) rfl).elem iJ bQ (by decide)).at_ (k:=0) rfl))) (Ar rfl (Mn rfl (bo (sr (Kz (.bool (decide (y=0))) (An rfl ?_))))))))))))
 by_cases P:y=0
 refine jT (dT P) (EO (Kz (vP aF 6) ?_))
 have dX:=O.pf [1]
 refine dO [.int .u64 0] 6 dX Tryz.sizeOf28 ?_
 intro jc dY
 refine WL.nil (bN (bN (ER (EO (fw (vJ (b+1)) (EQ (e:=IntKind.i64.wrap (((b:Nat):Int)+1)) yk (by rw [IR _ (by omega)]; omega)) (Mz rfl (WL.nil ?_)))))))
 have dZ:=dY.pf [1]
 exact E8 (b+1,z,B,0,l,n,o,p,r,s,t,u,C,E,F,W,R,f,X,S,T,g,Y,U,h) ⟨rfl,rfl,rfl,rfl,rfl,trivial⟩ (I.2 ⟨dZ,by exact K,by exact G,by exact J,by exact L,by omega,by omega,by omega,by omega,by omega,by omega,by omega,by omega,by omega,by omega,et (M) (et (congrArg (fun q=>df a d q z B j l n o p r s t u C E F f g h) N) (ip P))⟩) (by show d.dn.ls.length - (b+1) < d.dn.ls.length - b; omega)
 refine jF (dF P) (sr (Kz (.bool (decide (y=1))) (An rfl ?_)))
 by_cases V:y=1
 refine jT (dT V) (EO (Kz (vP aF 7) ?_))
 have d9:=O.pf [1]
 refine dO [.int .u64 0] 7 d9 Tryz.sizeOf28 ?_
 intro jd ed
 refine WL.nil (bN (bN (ER (EO (fw (vJ (b+1)) (EQ (e:=IntKind.i64.wrap (((b:Nat):Int)+1)) yk (by rw [IR _ (by omega)]; omega)) (Mz rfl (WL.nil ?_)))))))
 have ek:=ed.pf [1]
 exact E8 (b+1,z,B,j,0,n,o,p,r,s,t,u,C,E,F,W,R,f,X,S,T,g,Y,U,h) ⟨rfl,rfl,rfl,rfl,rfl,trivial⟩ (I.2 ⟨ek,by exact K,by exact G,by exact J,by exact L,by omega,by omega,by omega,by omega,by omega,by omega,by omega,by omega,by omega,by omega,et (M) (et (congrArg (fun q=>df a d q z B j l n o p r s t u C E F f g h) N) (et (iN P) (ip V)))⟩) (by show d.dn.ls.length - (b+1) < d.dn.ls.length - b; omega)
 refine jF (dF V) (sr (Kz (.bool (decide (y=2))) (An rfl ?_)))
 by_cases Z:y=2
 refine jT (dT Z) (EO (Kz (vP aF 4) ?_))
 have eu:=O.pf [1]
 refine dO [vI 0] 4 eu Tryz.sizeOf3 ?_
 intro je eB
 refine WL.nil (bN (bN (ER (EO (fw (vJ (b+1)) (EQ (e:=IntKind.i64.wrap (((b:Nat):Int)+1)) yk (by rw [IR _ (by omega)]; omega)) (Mz rfl (WL.nil ?_)))))))
 have eF:=eB.pf [1]
 exact E8 (b+1,0,B,j,l,n,o,p,r,s,t,u,C,E,F,W,R,f,X,S,T,g,Y,U,h) ⟨rfl,rfl,rfl,rfl,rfl,trivial⟩ (I.2 ⟨eF,by exact K,by exact G,by exact J,by exact L,by omega,by omega,by omega,by omega,by omega,by omega,by omega,by omega,by omega,by omega,et (M) (et (congrArg (fun q=>df a d q z B j l n o p r s t u C E F f g h) N) (et (iN P) (et (iN V) (ip Z))))⟩) (by show d.dn.ls.length - (b+1) < d.dn.ls.length - b; omega)
 refine jF (dF Z) (sr (Kz (.bool (decide (y=3))) (An rfl ?_)))
 by_cases ah:y=3
 refine jT (dT ah) (EO (Kz (vP aF 19) ?_))
 have eG:=O.pf [1]
 refine dO [.slice none 0 0] 19 eG Tryz.sizeOf40 ?_
 intro jg eH
 refine WL.nil (bN (bN (ER (EO (fw (vJ (b+1)) (EQ (e:=IntKind.i64.wrap (((b:Nat):Int)+1)) yk (by rw [IR _ (by omega)]; omega)) (Mz rfl (WL.nil ?_)))))))
 have eO:=eH.pf [1]
 exact E8 (b+1,z,B,j,l,n,o,p,r,s,t,u,C,E,F,W,R,f,none,0, [], [],Y,U,h) ⟨rfl,rfl,rfl,rfl,rfl,trivial⟩ (I.2 ⟨eO,(show ji 6 ak aa a.aD.ls W R f∧ji 3 au ae aI none 0 ([])∧List.map af.abs ([])=([])∧ji 2 av ag a.ag.ls Y U h∧(b+1)≤d.dn.ls.length∧j≤a.aU+(b+1)∧l≤a.ay+(b+1)∧n≤a.bf+(b+1)∧o≤a.cz+(b+1)∧p≤a.aY+(b+1)∧r≤a.aH+(b+1)∧s≤a.dG+(b+1)∧t≤a.bT+(b+1)∧u≤a.xN+(b+1)∧df a d d.dn.ls a.dz a.dL a.aU a.ay a.bf a.cz a.aY a.aH a.dG a.bT a.xN a.dI a.bO.bJ a.bO.bW a.aD.ls a.ah.ls a.ag.ls=df a d (List.drop (b+1) d.dn.ls) z B j l n o p r s t u C E F f ([]) h from ⟨by exact K,by exact ji.nil,by exact rfl,by exact L,by omega,by omega,by omega,by omega,by omega,by omega,by omega,by omega,by omega,by omega,et (M) (et (congrArg (fun q=>df a d q z B j l n o p r s t u C E F f g h) N) (et (iN P) (et (iN V) (et (iN Z) (ip ah)))))⟩)⟩) (by show d.dn.ls.length - (b+1) < d.dn.ls.length - b; omega)
 refine jF (dF ah) (sr (Kz (.bool (decide (y=4))) (An rfl ?_)))
 by_cases ay:y=4
 refine jT (dT ay) (EO (Kz (vP aF 8) ?_))
 have eP:=O.pf [1]
 refine dO [.int .u64 0] 8 eP Tryz.sizeOf28 ?_
 intro jh eQ
 refine WL.nil (bN (bN (ER (EO (fw (vJ (b+1)) (EQ (e:=IntKind.i64.wrap (((b:Nat):Int)+1)) yk (by rw [IR _ (by omega)]; omega)) (Mz rfl (WL.nil ?_)))))))
 have eT:=eQ.pf [1]
 exact E8 (b+1,z,B,j,l,0,o,p,r,s,t,u,C,E,F,W,R,f,X,S,T,g,Y,U,h) ⟨rfl,rfl,rfl,rfl,rfl,trivial⟩ (I.2 ⟨eT,by exact K,by exact G,by exact J,by exact L,by omega,by omega,by omega,by omega,by omega,by omega,by omega,by omega,by omega,by omega,et (M) (et (congrArg (fun q=>df a d q z B j l n o p r s t u C E F f g h) N) (et (iN P) (et (iN V) (et (iN Z) (et (iN ah) (ip ay))))))⟩) (by show d.dn.ls.length - (b+1) < d.dn.ls.length - b; omega)
 refine jF (dF ay) (sr (Kz (.bool (decide (y=5))) (An rfl ?_)))
 by_cases aC:y=5
 refine jT (dT aC) (EO (Kz (vP aF 9) ?_))
 have eU:=O.pf [1]
 refine dO [.int .u64 0] 9 eU Tryz.sizeOf28 ?_
 intro jk eX
 refine WL.nil (bN (bN (ER (EO (fw (vJ (b+1)) (EQ (e:=IntKind.i64.wrap (((b:Nat):Int)+1)) yk (by rw [IR _ (by omega)]; omega)) (Mz rfl (WL.nil ?_)))))))
 have eY:=eX.pf [1]
 exact E8 (b+1,z,B,j,l,n,0,p,r,s,t,u,C,E,F,W,R,f,X,S,T,g,Y,U,h) ⟨rfl,rfl,rfl,rfl,rfl,trivial⟩ (I.2 ⟨eY,by exact K,by exact G,by exact J,by exact L,by omega,by omega,by omega,by omega,by omega,by omega,by omega,by omega,by omega,by omega,et (M) (et (congrArg (fun q=>df a d q z B j l n o p r s t u C E F f g h) N) (et (iN P) (et (iN V) (et (iN Z) (et (iN ah) (et (iN ay) (ip aC)))))))⟩) (by show d.dn.ls.length - (b+1) < d.dn.ls.length - b; omega)
 refine jF (dF aC) (sr (Kz (.bool (decide (y=6))) (An rfl ?_)))
 by_cases aD:y=6
 refine jT (dT aD) (EO (Kz (vP aF 11) ?_))
 have eZ:=O.pf [1]
 refine dO [.int .u64 0] 11 eZ Tryz.sizeOf28 ?_
 intro jl fe
 refine WL.nil (bN (bN (ER (EO (fw (vJ (b+1)) (EQ (e:=IntKind.i64.wrap (((b:Nat):Int)+1)) yk (by rw [IR _ (by omega)]; omega)) (Mz rfl (WL.nil ?_)))))))
 have fo:=fe.pf [1]
 exact E8 (b+1,z,B,j,l,n,o,p,0,s,t,u,C,E,F,W,R,f,X,S,T,g,Y,U,h) ⟨rfl,rfl,rfl,rfl,rfl,trivial⟩ (I.2 ⟨fo,by exact K,by exact G,by exact J,by exact L,by omega,by omega,by omega,by omega,by omega,by omega,by omega,by omega,by omega,by omega,et (M) (et (congrArg (fun q=>df a d q z B j l n o p r s t u C E F f g h) N) (et (iN P) (et (iN V) (et (iN Z) (et (iN ah) (et (iN ay) (et (iN aC) (ip aD))))))))⟩) (by show d.dn.ls.length - (b+1) < d.dn.ls.length - b; omega)
 refine jF (dF aD) (sr (Kz (.bool (decide (y=7))) (An rfl ?_)))
 by_cases aG:y=7
 refine jT (dT aG) (EO (Kz (vP aF 18) ?_))
 have fq:=O.pf [1]
 refine dO [.slice none 0 0] 18 fq Tryz.sizeOf39 ?_
 intro jm fu
 refine WL.nil (bN (bN (ER (EO (fw (vJ (b+1)) (EQ (e:=IntKind.i64.wrap (((b:Nat):Int)+1)) yk (by rw [IR _ (by omega)]; omega)) (Mz rfl (WL.nil ?_)))))))
 have fA:=fu.pf [1]
 exact E8 (b+1,z,B,j,l,n,o,p,r,s,t,u,C,E,F,none,0, [],X,S,T,g,Y,U,h) ⟨rfl,rfl,rfl,rfl,rfl,trivial⟩ (I.2 ⟨fA,(show ji 6 ak aa a.aD.ls none 0 ([])∧ji 3 au ae aI X S T∧List.map af.abs T=g∧ji 2 av ag a.ag.ls Y U h∧(b+1)≤d.dn.ls.length∧j≤a.aU+(b+1)∧l≤a.ay+(b+1)∧n≤a.bf+(b+1)∧o≤a.cz+(b+1)∧p≤a.aY+(b+1)∧r≤a.aH+(b+1)∧s≤a.dG+(b+1)∧t≤a.bT+(b+1)∧u≤a.xN+(b+1)∧df a d d.dn.ls a.dz a.dL a.aU a.ay a.bf a.cz a.aY a.aH a.dG a.bT a.xN a.dI a.bO.bJ a.bO.bW a.aD.ls a.ah.ls a.ag.ls=df a d (List.drop (b+1) d.dn.ls) z B j l n o p r s t u C E F ([]) g h from ⟨by exact ji.nil,by exact G,by exact J,by exact L,by omega,by omega,by omega,by omega,by omega,by omega,by omega,by omega,by omega,by omega,et (M) (et (congrArg (fun q=>df a d q z B j l n o p r s t u C E F f g h) N) (et (iN P) (et (iN V) (et (iN Z) (et (iN ah) (et (iN ay) (et (iN aC) (et (iN aD) (ip aG)))))))))⟩)⟩) (by show d.dn.ls.length - (b+1) < d.dn.ls.length - b; omega)
 refine jF (dF aG) (sr (Kz (.bool (decide (y=8))) (An rfl ?_)))
 by_cases aJ:y=8
 refine jT (dT aJ) (EO (Kz (vP aF 15) ?_))
 have fB:=O.pf [1]
 refine dO [.bool false] 15 fB Tryz.sizeOf4 ?_
 intro jo fC
 refine WL.nil (bN (bN (ER (EO (fw (vJ (b+1)) (EQ (e:=IntKind.i64.wrap (((b:Nat):Int)+1)) yk (by rw [IR _ (by omega)]; omega)) (Mz rfl (WL.nil ?_)))))))
 have fD:=fC.pf [1]
 exact E8 (b+1,z,B,j,l,n,o,p,r,s,t,u,false,E,F,W,R,f,X,S,T,g,Y,U,h) ⟨rfl,rfl,rfl,rfl,rfl,trivial⟩ (I.2 ⟨fD,(show ji 6 ak aa a.aD.ls W R f∧ji 3 au ae aI X S T∧List.map af.abs T=g∧ji 2 av ag a.ag.ls Y U h∧(b+1)≤d.dn.ls.length∧j≤a.aU+(b+1)∧l≤a.ay+(b+1)∧n≤a.bf+(b+1)∧o≤a.cz+(b+1)∧p≤a.aY+(b+1)∧r≤a.aH+(b+1)∧s≤a.dG+(b+1)∧t≤a.bT+(b+1)∧u≤a.xN+(b+1)∧df a d d.dn.ls a.dz a.dL a.aU a.ay a.bf a.cz a.aY a.aH a.dG a.bT a.xN a.dI a.bO.bJ a.bO.bW a.aD.ls a.ah.ls a.ag.ls=df a d (List.drop (b+1) d.dn.ls) z B j l n o p r s t u false E F f g h from ⟨by exact K,by exact G,by exact J,by exact L,by omega,by omega,by omega,by omega,by omega,by omega,by omega,by omega,by omega,by omega,et (M) (et (congrArg (fun q=>df a d q z B j l n o p r s t u C E F f g h) N) (et (iN P) (et (iN V) (et (iN Z) (et (iN ah) (et (iN ay) (et (iN aC) (et (iN aD) (et (iN aG) (ip aJ))))))))))⟩)⟩) (by show d.dn.ls.length - (b+1) < d.dn.ls.length - b; omega)
 refine jF (dF aJ) (sr (Kz (.bool (decide (y=9))) (An rfl ?_)))
 by_cases aM:y=9
 refine jT (dT aM) (EO (Kz (vP aF 10) ?_))
 have fE:=O.pf [1]
 refine dO [.int .u64 0] 10 fE Tryz.sizeOf28 ?_
 intro jq fF
 refine WL.nil (bN (bN (ER (EO (fw (vJ (b+1)) (EQ (e:=IntKind.i64.wrap (((b:Nat):Int)+1)) yk (by rw [IR _ (by omega)]; omega)) (Mz rfl (WL.nil ?_)))))))
 have fG:=fF.pf [1]
 exact E8 (b+1,z,B,j,l,n,o,0,r,s,t,u,C,E,F,W,R,f,X,S,T,g,Y,U,h) ⟨rfl,rfl,rfl,rfl,rfl,trivial⟩ (I.2 ⟨fG,by exact K,by exact G,by exact J,by exact L,by omega,by omega,by omega,by omega,by omega,by omega,by omega,by omega,by omega,by omega,et (M) (et (congrArg (fun q=>df a d q z B j l n o p r s t u C E F f g h) N) (et (iN P) (et (iN V) (et (iN Z) (et (iN ah) (et (iN ay) (et (iN aC) (et (iN aD) (et (iN aG) (et (iN aJ) (ip aM)))))))))))⟩) (by show d.dn.ls.length - (b+1) < d.dn.ls.length - b; omega)
 refine jF (dF aM) (sr (Kz (.bool (decide (y=10))) (An rfl ?_)))
 by_cases aP:y=10
 refine jT (dT aP) (EO (Kz (vP aF 12) ?_))
 have fH:=O.pf [1]
 refine dO [.int .u64 0] 12 fH Tryz.sizeOf28 ?_
 intro jr fI
 refine WL.nil (bN (bN (ER (EO (fw (vJ (b+1)) (EQ (e:=IntKind.i64.wrap (((b:Nat):Int)+1)) yk (by rw [IR _ (by omega)]; omega)) (Mz rfl (WL.nil ?_)))))))
 have fJ:=fI.pf [1]
 exact E8 (b+1,z,B,j,l,n,o,p,r,0,t,u,C,E,F,W,R,f,X,S,T,g,Y,U,h) ⟨rfl,rfl,rfl,rfl,rfl,trivial⟩ (I.2 ⟨fJ,by exact K,by exact G,by exact J,by exact L,by omega,by omega,by omega,by omega,by omega,by omega,by omega,by omega,by omega,by omega,et (M) (et (congrArg (fun q=>df a d q z B j l n o p r s t u C E F f g h) N) (et (iN P) (et (iN V) (et (iN Z) (et (iN ah) (et (iN ay) (et (iN aC) (et (iN aD) (et (iN aG) (et (iN aJ) (et (iN aM) (ip aP))))))))))))⟩) (by show d.dn.ls.length - (b+1) < d.dn.ls.length - b; omega)
 refine jF (dF aP) (sr (Kz (.bool (decide (y=11))) (An rfl ?_)))
 by_cases aU:y=11
 refine jT (dT aU) (EO (Kz (vP aF 20) ?_))
 have fK:=O.pf [1]
 refine dO [.slice none 0 0] 20 fK Tryz.sizeOf29 ?_
 intro jv fM
 refine WL.nil (bN (bN (ER (EO (fw (vJ (b+1)) (EQ (e:=IntKind.i64.wrap (((b:Nat):Int)+1)) yk (by rw [IR _ (by omega)]; omega)) (Mz rfl (WL.nil ?_)))))))
 have fO:=fM.pf [1]
 exact E8 (b+1,z,B,j,l,n,o,p,r,s,t,u,C,E,F,W,R,f,X,S,T,g,none,0, []) ⟨rfl,rfl,rfl,rfl,rfl,trivial⟩ (I.2 ⟨fO,(show ji 6 ak aa a.aD.ls W R f∧ji 3 au ae aI X S T∧List.map af.abs T=g∧ji 2 av ag a.ag.ls none 0 ([])∧(b+1)≤d.dn.ls.length∧j≤a.aU+(b+1)∧l≤a.ay+(b+1)∧n≤a.bf+(b+1)∧o≤a.cz+(b+1)∧p≤a.aY+(b+1)∧r≤a.aH+(b+1)∧s≤a.dG+(b+1)∧t≤a.bT+(b+1)∧u≤a.xN+(b+1)∧df a d d.dn.ls a.dz a.dL a.aU a.ay a.bf a.cz a.aY a.aH a.dG a.bT a.xN a.dI a.bO.bJ a.bO.bW a.aD.ls a.ah.ls a.ag.ls=df a d (List.drop (b+1) d.dn.ls) z B j l n o p r s t u C E F f g ([]) from ⟨by exact K,by exact G,by exact J,by exact ji.nil,by omega,by omega,by omega,by omega,by omega,by omega,by omega,by omega,by omega,by omega,et (M) (et (congrArg (fun q=>df a d q z B j l n o p r s t u C E F f g h) N) (et (iN P) (et (iN V) (et (iN Z) (et (iN ah) (et (iN ay) (et (iN aC) (et (iN aD) (et (iN aG) (et (iN aJ) (et (iN aM) (et (iN aP) (ip aU)))))))))))))⟩)⟩) (by show d.dn.ls.length - (b+1) < d.dn.ls.length - b; omega)
 refine jF (dF aU) (sr (Kz (.bool (decide (y=12))) (An rfl ?_)))
 by_cases aY:y=12
 refine jT (dT aY) (EO (Kz (vP aF 5) ?_))
 have fP:=O.pf [1]
 refine dO [vI 0] 5 fP Tryz.sizeOf3 ?_
 intro jw fT
 refine WL.nil (bN (bN (ER (EO (fw (vJ (b+1)) (EQ (e:=IntKind.i64.wrap (((b:Nat):Int)+1)) yk (by rw [IR _ (by omega)]; omega)) (Mz rfl (WL.nil ?_)))))))
 have fV:=fT.pf [1]
 exact E8 (b+1,z,0,j,l,n,o,p,r,s,t,u,C,E,F,W,R,f,X,S,T,g,Y,U,h) ⟨rfl,rfl,rfl,rfl,rfl,trivial⟩ (I.2 ⟨fV,by exact K,by exact G,by exact J,by exact L,by omega,by omega,by omega,by omega,by omega,by omega,by omega,by omega,by omega,by omega,et (M) (et (congrArg (fun q=>df a d q z B j l n o p r s t u C E F f g h) N) (et (iN P) (et (iN V) (et (iN Z) (et (iN ah) (et (iN ay) (et (iN aC) (et (iN aD) (et (iN aG) (et (iN aJ) (et (iN aM) (et (iN aP) (et (iN aU) (ip aY))))))))))))))⟩) (by show d.dn.ls.length - (b+1) < d.dn.ls.length - b; omega)
 refine jF (dF aY) (sr (Kz (.bool (decide (y=13))) (An rfl ?_)))
 by_cases bf:y=13
 refine jT (dT bf) (EO (Kz (.agg #[.string ⟨List.toArray ([])⟩, .string ⟨List.toArray ([])⟩]) (Kz (vP aF 16) ?_)))
 have fZ:=O.pf [1]
 refine dO [.string ⟨List.toArray ([])⟩, .string ⟨List.toArray ([])⟩] 16 fZ Tryz.sizeOf38 ?_
 intro jy gm
 refine WL.nil (bN (bN (ER (EO (fw (vJ (b+1)) (EQ (e:=IntKind.i64.wrap (((b:Nat):Int)+1)) yk (by rw [IR _ (by omega)]; omega)) (Mz rfl (WL.nil ?_)))))))
 have gp:=gm.pf [1]
 exact E8 (b+1,z,B,j,l,n,o,p,r,s,t,u,C, [], [],W,R,f,X,S,T,g,Y,U,h) ⟨rfl,rfl,rfl,rfl,rfl,trivial⟩ (I.2 ⟨gp,(show ji 6 ak aa a.aD.ls W R f∧ji 3 au ae aI X S T∧List.map af.abs T=g∧ji 2 av ag a.ag.ls Y U h∧(b+1)≤d.dn.ls.length∧j≤a.aU+(b+1)∧l≤a.ay+(b+1)∧n≤a.bf+(b+1)∧o≤a.cz+(b+1)∧p≤a.aY+(b+1)∧r≤a.aH+(b+1)∧s≤a.dG+(b+1)∧t≤a.bT+(b+1)∧u≤a.xN+(b+1)∧df a d d.dn.ls a.dz a.dL a.aU a.ay a.bf a.cz a.aY a.aH a.dG a.bT a.xN a.dI a.bO.bJ a.bO.bW a.aD.ls a.ah.ls a.ag.ls=df a d (List.drop (b+1) d.dn.ls) z B j l n o p r s t u C ([]) ([]) f g h from ⟨by exact K,by exact G,by exact J,by exact L,by omega,by omega,by omega,by omega,by omega,by omega,by omega,by omega,by omega,by omega,et (M) (et (congrArg (fun q=>df a d q z B j l n o p r s t u C E F f g h) N) (et (iN P) (et (iN V) (et (iN Z) (et (iN ah) (et (iN ay) (et (iN aC) (et (iN aD) (et (iN aG) (et (iN aJ) (et (iN aM) (et (iN aP) (et (iN aU) (et (iN aY) (ip bf)))))))))))))))⟩)⟩) (by show d.dn.ls.length - (b+1) < d.dn.ls.length - b; omega)
 refine jF (dF bf) (sr (Kz (.bool (decide (y=14))) (An rfl ?_)))
 by_cases bz:y=14
 refine jT (dT bz) (EO (Kz (vP aF 13) ?_))
 have gq:=O.pf [1]
 refine dO [.int .u64 0] 13 gq Tryz.sizeOf28 ?_
 intro jA gu
 refine WL.nil (bN (bN (ER (EO (fw (vJ (b+1)) (EQ (e:=IntKind.i64.wrap (((b:Nat):Int)+1)) yk (by rw [IR _ (by omega)]; omega)) (Mz rfl (WL.nil ?_)))))))
 have gy:=gu.pf [1]
 exact E8 (b+1,z,B,j,l,n,o,p,r,s,0,u,C,E,F,W,R,f,X,S,T,g,Y,U,h) ⟨rfl,rfl,rfl,rfl,rfl,trivial⟩ (I.2 ⟨gy,by exact K,by exact G,by exact J,by exact L,by omega,by omega,by omega,by omega,by omega,by omega,by omega,by omega,by omega,by omega,et (M) (et (congrArg (fun q=>df a d q z B j l n o p r s t u C E F f g h) N) (et (iN P) (et (iN V) (et (iN Z) (et (iN ah) (et (iN ay) (et (iN aC) (et (iN aD) (et (iN aG) (et (iN aJ) (et (iN aM) (et (iN aP) (et (iN aU) (et (iN aY) (et (iN bf) (ip bz))))))))))))))))⟩) (by show d.dn.ls.length - (b+1) < d.dn.ls.length - b; omega)
 refine jF (dF bz) (sr (Kz (.bool (decide (y=15))) (An rfl ?_)))
 by_cases bE:y=15
 refine jT (dT bE) (EO (Kz (vP aF 14) ?_))
 have gz:=O.pf [1]
 refine dO [.int .u64 0] 14 gz Tryz.sizeOf28 ?_
 intro jB gB
 refine WL.nil (bN (bN (ER (EO (fw (vJ (b+1)) (EQ (e:=IntKind.i64.wrap (((b:Nat):Int)+1)) yk (by rw [IR _ (by omega)]; omega)) (Mz rfl (WL.nil ?_)))))))
 have gD:=gB.pf [1]
 exact E8 (b+1,z,B,j,l,n,o,p,r,s,t,0,C,E,F,W,R,f,X,S,T,g,Y,U,h) ⟨rfl,rfl,rfl,rfl,rfl,trivial⟩ (I.2 ⟨gD,by exact K,by exact G,by exact J,by exact L,by omega,by omega,by omega,by omega,by omega,by omega,by omega,by omega,by omega,by omega,et (M) (et (congrArg (fun q=>df a d q z B j l n o p r s t u C E F f g h) N) (et (iN P) (et (iN V) (et (iN Z) (et (iN ah) (et (iN ay) (et (iN aC) (et (iN aD) (et (iN aG) (et (iN aJ) (et (iN aM) (et (iN aP) (et (iN aU) (et (iN aY) (et (iN bf) (et (iN bz) (ip bE)))))))))))))))))⟩) (by show d.dn.ls.length - (b+1) < d.dn.ls.length - b; omega)
 refine jF (dF bE) (Fs (bN (bN (ER (EO (fw (vJ (b+1)) (EQ (e:=IntKind.i64.wrap (((b:Nat):Int)+1)) yk (by rw [IR _ (by omega)]; omega)) (Mz rfl (WL.nil ?_))))))))
 have gF:=O.pf []
 exact E8 (b+1,z,B,j,l,n,o,p,r,s,t,u,C,E,F,W,R,f,X,S,T,g,Y,U,h) ⟨rfl,rfl,rfl,rfl,rfl,trivial⟩ (I.2 ⟨gF,by exact K,by exact G,by exact J,by exact L,by omega,by omega,by omega,by omega,by omega,by omega,by omega,by omega,by omega,by omega,et (M) (et (congrArg (fun q=>df a d q z B j l n o p r s t u C E F f g h) N) (et (iN P) (et (iN V) (et (iN Z) (et (iN ah) (et (iN ay) (et (iN aC) (et (iN aD) (et (iN aG) (et (iN aJ) (et (iN aM) (et (iN aP) (et (iN aU) (et (iN aY) (et (iN bf) (et (iN bz) (iN bE)))))))))))))))))⟩) (by show d.dn.ls.length - (b+1) < d.dn.ls.length - b; omega)
 refine jF (dF cK) (Wp.exit (EX ?_))
 have aQ:df a d d.dn.ls a.dz a.dL a.aU a.ay a.bf a.cz a.aY a.aH a.dG a.bT a.xN a.dI a.bO.bJ a.bO.bW a.aD.ls a.ah.ls a.ag.ls=(z,B,j,l,n,o,p,r,s,t,u,C,E,F,f,g,h):=et (M) (et (congrArg (fun q=>df a d q z B j l n o p r s t u C E F f g h) (eD (ls:=d.dn.ls) (i:=b) (by omega))) rfl)
 refine EX (Fg (ER (sr (La (gN a.aI a.aJ a.eU a.aQ z B j l n o p r s t u C E F W f.length R X g.length S Y h.length U) O 1 Tryz.isAgg42 Tryz.sizeOf42 ?_))))
 refine dO (gN a.aI a.aJ a.eU a.aQ z B j l n o p r s t u C E F W f.length R X g.length S Y h.length U) 0 O Tryz.sizeOf42 ?_
 intro jC cO
 refine nt (rt (Fin.res (lX rfl rfl (Fb (cs:=(gN a.aI a.aJ a.eU a.aQ z B j l n o p r s t u C E F W f.length R X g.length S Y h.length U)) Tryz.isAgg42 Tryz.sizeOf42 ((cO.cls (i:=0) rfl).lit (k:=0) (m:=21) rfl))) ?_))
 obtain⟨bF,aN⟩:∃ q,qi (bP.mk a.aI a.aJ a.eU a.aQ z B j l n o p r s t u C (bK.mk E F) (Ll.mk f) (Ll.mk g) (Ll.mk h))=q:=⟨_,rfl⟩
 obtain⟨jD,dx,bq,dz,iR⟩:=EU cO
 refine uO (cn aB) Tryz.call51 (yz _ _ (bP.mk a.aI a.aJ a.eU a.aQ z B j l n o p r s t u C (bK.mk E F) (Ll.mk f) (Ll.mk g) (Ll.mk h)) W f.length R X g.length S T Y h.length U bF dx rfl (fun w9 h9=>ji.rds bC.len (by decide) K ((bq _ bL) w9 h9)) (show f.length≤R∧f.length≤9223372036854775807 from by omega) J rfl (fun w9 h9=>mZ (aA J) (ji.rds af.len (by decide) G (mZ (aA bg).symm ((bq _ bM) w9 h9)))) (show g.length≤S∧g.length≤9223372036854775807 from by omega) (fun x9 h9=>⟨bq _ ((fun x9 h9=>bi x9 (G6 G h9)) x9 h9).1,((fun x9 h9=>bi x9 (G6 G h9)) x9 h9).2⟩) rfl (fun w9 h9=>ji.rds bv.len (by decide) L ((bq _ bO) w9 h9)) (show h.length≤U∧h.length≤9223372036854775807 from by omega) (by first | omega | (dsimp only; omega) | (simp only [List.length_nil]; omega)) aN) ?_
 rintro _ jE ⟨rfl,dA⟩
 have bG:=dz _ _ dA
 refine Gz (.bool (!bF)) (cn aB) (fw (.bool (!bF)) (ES rfl (cn aB) rfl) (Mz rfl ?_))
 rcases IW (bF) with Q | Q
 refine Ga (gP a ak aa au ae av ag) (cn Q) bG 4 Tryz.isAgg42 Tryz.sizeOf42 (Gz (vP bA 2) (cn Q) (Gl (.slice aX d.dn.ls.length bn) (cn Q) bG 2 Tryz.isAgg126 ?_))
 obtain⟨bH,aR⟩:∃ q,qN a d.dn.ls=q:=⟨_,rfl⟩
 obtain⟨jG,dB,bu,dC,dD⟩:=EU bG
 refine uO (cn Q) Tryz.call53 (xM _ _ a ak a.aD.ls.length aa au a.ah.ls.length ae aI av a.ag.ls.length ag aX d.dn.ls.length bn d.dn.ls bH dB rfl (bu _ bL) (show a.aD.ls.length≤aa∧a.aD.ls.length≤9223372036854775807 from by omega) bg rfl (bu _ bM) (show a.ah.ls.length≤ae∧a.ah.ls.length≤9223372036854775807 from by omega) (fun x9 h9=>⟨bu _ (bi x9 h9).1,(bi x9 h9).2⟩) rfl (bu _ bO) (show a.ag.ls.length≤ag∧a.ag.ls.length≤9223372036854775807 from by omega) (dD _ 3 _ rfl aT) rfl (by omega) (by first | omega | (dsimp only; omega) | (simp only [List.length_nil]; omega)) aR) ?_
 rintro _ jH ⟨rfl,dE⟩
 have cZ:=dC _ _ dE
 refine Gz (.bool (!bH)) (cn Q) (fw (.bool (!bH)) (ES rfl (cn Q) rfl) (nt ?_))
 rcases IW (bH) with aV | aV
 refine jF (cn aV) (sk (EP (EP ?_)))
 have aW:=cZ.pk [2,3,4]
 refine EO (Kz (vP bA 0) (Lz (vI d.lQ) aW 0 Tryz.isAgg125 (Kz (.bool (decide (d.lQ=1))) (Mz rfl ?_))))
 by_cases aH:d.lQ=1
 refine Gz (vP bA 1) (dT aH) (Gl (vI d.ou) (dT aH) aW 0 Tryz.isAgg125 (Gz (.bool (decide (d.ou=1))) (dT aH) (fw (.bool (decide (d.ou=1))) (Fa rfl (dT aH) rfl) (Mz rfl ?_))))
 by_cases az:d.ou=1
 refine Gz (vP bJ 1) (dT az) (Gl (vI a.aJ) (dT az) aW 2 Tryz.isAgg3 (Gz (vP bJ 2) (dT az) (Gl (vI a.eU) (dT az) aW 2 Tryz.isAgg3 (Gz (.bool (decide (a.aJ=a.eU))) (dT az) (fw (.bool (decide (a.aJ=a.eU))) (Fa rfl (dT az) rfl) (nt ?_))))))
 by_cases bI:a.aJ=a.eU
 refine jT (dT bI) (EP ?_)
 have gH:=aW.pk []
 refine EO (An rfl (rt (tR (rs ?_))))
 have gI:=gH.pk []
 obtain rfl:_=180:=hr.symm.trans (et (ai aK) (et (ip aj) (et (ai aO) (et (ip ax) (et (ai aS) (et (ip aB) (et (ai aQ) (et (ai aN) (et (ip Q) (et (ai aR) (et (ip aV) (et (ip aH) (et (ip az) (ip bI))))))))))))))
 exact⟨rfl,gI⟩
 refine jF (dF bI) (sk (EP ?_))
 have gJ:=aW.pk []
 refine EO (An rfl (rt (rs ?_)))
 have gK:=gJ.pk []
 obtain rfl:_=0:=hr.symm.trans (et (ai aK) (et (ip aj) (et (ai aO) (et (ip ax) (et (ai aS) (et (ip aB) (et (ai aQ) (et (ai aN) (et (ip Q) (et (ai aR) (et (ip aV) (et (ip aH) (et (ip az) (iN bI))))))))))))))
 exact⟨rfl,gK⟩
 refine Sz (dF az) (Sz (dF az) (Sz (dF az) (Sz (dF az) (Sz (dF az) (fw (.bool false) (ES rfl (dF az) rfl) (nt (jf (sk (EP ?_)))))))))
 have gL:=aW.pk []
 refine EO (An rfl (rt (rs ?_)))
 have gM:=gL.pk []
 obtain rfl:_=0:=hr.symm.trans (et (ai aK) (et (ip aj) (et (ai aO) (et (ip ax) (et (ai aS) (et (ip aB) (et (ai aQ) (et (ai aN) (et (ip Q) (et (ai aR) (et (ip aV) (et (ip aH) (iN az)))))))))))))
 exact⟨rfl,gM⟩
 refine Sz (dF aH) (Sz (dF aH) (Sz (dF aH) (fw (.bool false) (ES rfl (dF aH) rfl) (Mz rfl (Sz rfl (Sz rfl (Sz rfl (Sz rfl (Sz rfl (fw (.bool false) (ES rfl rfl rfl) (nt (jf (sk (EP ?_))))))))))))))
 have gQ:=aW.pk []
 refine EO (An rfl (rt (rs ?_)))
 have gT:=gQ.pk []
 obtain rfl:_=0:=hr.symm.trans (et (ai aK) (et (ip aj) (et (ai aO) (et (ip ax) (et (ai aS) (et (ip aB) (et (ai aQ) (et (ai aN) (et (ip Q) (et (ai aR) (et (ip aV) (iN aH))))))))))))
 exact⟨rfl,gT⟩
 refine jT (cn aV) (EP ?_)
 have gU:=cZ.pk [2,3,4]
 refine EO (An rfl (rt (tR (rs ?_))))
 have gV:=gU.pk []
 obtain rfl:_=180:=hr.symm.trans (et (ai aK) (et (ip aj) (et (ai aO) (et (ip ax) (et (ai aS) (et (ip aB) (et (ai aQ) (et (ai aN) (et (ip Q) (et (ai aR) (fU aV)))))))))))
 exact⟨rfl,gV⟩
 refine Sz (cn Q) (Sz (cn Q) (Sz (cn Q) (Sz (cn Q) (Sz (cn Q) (fw (.bool true) (Fa rfl (cn Q) rfl) (nt (jt (EP ?_))))))))
 have gW:=bG.pk [2,3,4]
 refine EO (An rfl (rt (tR (rs ?_))))
 have gX:=gW.pk []
 obtain rfl:_=180:=hr.symm.trans (et (ai aK) (et (ip aj) (et (ai aO) (et (ip ax) (et (ai aS) (et (ip aB) (et (ai aQ) (et (ai aN) (fU Q)))))))))
 exact⟨rfl,gX⟩
 refine Sz (cn aB) (Sz (cn aB) (Sz (cn aB) (Sz (cn aB) (Sz (cn aB) (Sz (cn aB) (fw (.bool true) (Fa rfl (cn aB) rfl) (Mz rfl (Sz rfl (Sz rfl (Sz rfl (Sz rfl (Sz rfl (fw (.bool true) (Fa rfl rfl rfl) (nt (jt (sr (An rfl (rt (tR (rs ?_))))))))))))))))))))
 have gY:=bW.pk []
 obtain rfl:_=180:=hr.symm.trans (et (ai aK) (et (ip aj) (et (ai aO) (et (ip ax) (et (ai aS) (fU aB))))))
 exact⟨rfl,gY⟩
 refine Sz (cn ax) (Sz (cn ax) (Sz (cn ax) (Sz (cn ax) (Sz (cn ax) (Sz (cn ax) (fw (.bool true) (Fa rfl (cn ax) rfl) (Mz rfl (Sz rfl (Sz rfl (Sz rfl (Sz rfl (Sz rfl (Sz rfl (fw (.bool true) (Fa rfl rfl rfl) (Mz rfl (Sz rfl (Sz rfl (Sz rfl (Sz rfl (Sz rfl (fw (.bool true) (Fa rfl rfl rfl) (nt (jt (sr (An rfl (rt (tR (rs ?_))))))))))))))))))))))))))))
 have gZ:=bU.pk []
 obtain rfl:_=180:=hr.symm.trans (et (ai aK) (et (ip aj) (et (ai aO) (fU ax))))
 exact⟨rfl,gZ⟩
 refine Sz (cn aj) (Sz (cn aj) (Sz (cn aj) (Sz (cn aj) (Sz (cn aj) (Sz (cn aj) (fw (.bool true) (Fa rfl (cn aj) rfl) (Mz rfl (Sz rfl (Sz rfl (Sz rfl (Sz rfl (Sz rfl (Sz rfl (fw (.bool true) (Fa rfl rfl rfl) (Mz rfl (Sz rfl (Sz rfl (Sz rfl (Sz rfl (Sz rfl (Sz rfl (fw (.bool true) (Fa rfl rfl rfl) (Mz rfl (Sz rfl (Sz rfl (Sz rfl (Sz rfl (Sz rfl (fw (.bool true) (Fa rfl rfl rfl) (nt (jt (sr (An rfl (rt (tR ?_)))))))))))))))))))))))))))))))))))
 refine rs ?_
 have ib:=bS.pk []
 obtain rfl:_=180:=hr.symm.trans (et (ai aK) (fU aj))
 exact⟨rfl,ib⟩
end Go.Proofs.YtbkagebjhbphaaaGreat
