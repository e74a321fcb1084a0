/-
 wire: the check of a message.
-/
import Derived.Test.YtccjclalngabhaaGreatWb
namespace Go.Proofs.YtccjclalngabhaaGreat
set_option maxRecDepth 100000
open Go.RowKit
set_option linter.unusedVariables false
set_option linter.unusedSectionVars false
set_option linter.unusedSimpArgs false
def bi (u:bG) (s:dK):List Int→Int→Int→Nat→Nat→Nat→Nat→Nat→Nat→Nat→Nat→Nat→Bool→List UInt8→List UInt8→List aB→List aX→List aA→Int × Int × Nat × Nat × Nat × Nat × Nat × Nat × Nat × Nat × Nat × Bool × (List UInt8) × (List UInt8) × (List aB) × (List aX) × (List aA)
  | [],b,c,d,e,f,g,h,i,j,k,l,m,n,o,p,q,r=>(b,c,d,e,f,g,h,i,j,k,l,m,n,o,p,q,r)
  | a::t,b,c,d,e,f,g,h,i,j,k,l,m,n,o,p,q,r=>if a=0 then bi u s t b c 0 e f g h i j k l m n o p q r else if a=1 then bi u s t b c d 0 f g h i j k l m n o p q r else if a=2 then bi u s t 0 c d e f g h i j k l m n o p q r else if a=3 then bi u s t b c d e f g h i j k l m n o p ([]) r else if a=4 then bi u s t b c d e 0 g h i j k l m n o p q r else if a=5 then bi u s t b c d e f 0 h i j k l m n o p q r else if a=6 then bi u s t b c d e f g h 0 j k l m n o p q r else if a=7 then bi u s t b c d e f g h i j k l m n o ([]) q r else if a=8 then bi u s t b c d e f g h i j k l false n o p q r else if a=9 then bi u s t b c d e f g 0 i j k l m n o p q r else if a=10 then bi u s t b c d e f g h i 0 k l m n o p q r else if a=11 then bi u s t b c d e f g h i j k l m n o p q ([]) else if a=12 then bi u s t b 0 d e f g h i j k l m n o p q r else if a=13 then bi u s t b c d e f g h i j k l m ([]) ([]) p q r else if a=14 then bi u s t b c d e f g h i j 0 l m n o p q r else if a=15 then bi u s t b c d e f g h i j k 0 m n o p q r else bi u s t b c d e f g h i j k l m n o p q r
def dH (a:bG):Int:=
 bnd (bY a.ae) fun b=>if b.2=true then bnd (bQ b.1.gM a.bn) fun e=>if e=true then bnd (bQ b.1.jo a.dm) fun f=>if f=true then bnd (bi a b.1 b.1.aJ.ls a.bq a.bM a.bF a.aY a.bE a.bH a.bL a.aS a.bB a.aK a.xN a.bV a.aG.aD a.aG.aI a.az.ls a.ai.ls a.aj.ls) fun sLrbtbtbtL=>bnd (fe (bG.mk a.ae a.bn a.dm a.aO sLrbtbtbtL.1 sLrbtbtbtL.2.1 sLrbtbtbtL.2.2.1 sLrbtbtbtL.2.2.2.1 sLrbtbtbtL.2.2.2.2.1 sLrbtbtbtL.2.2.2.2.2.1 sLrbtbtbtL.2.2.2.2.2.2.1 sLrbtbtbtL.2.2.2.2.2.2.2.1 sLrbtbtbtL.2.2.2.2.2.2.2.2.1 sLrbtbtbtL.2.2.2.2.2.2.2.2.2.1 sLrbtbtbtL.2.2.2.2.2.2.2.2.2.2.1 sLrbtbtbtL.2.2.2.2.2.2.2.2.2.2.2.1 (bC.mk sLrbtbtbtL.2.2.2.2.2.2.2.2.2.2.2.2.1 sLrbtbtbtL.2.2.2.2.2.2.2.2.2.2.2.2.2.1) (Ll.mk sLrbtbtbtL.2.2.2.2.2.2.2.2.2.2.2.2.2.2.1) (Ll.mk sLrbtbtbtL.2.2.2.2.2.2.2.2.2.2.2.2.2.2.2.1) (Ll.mk sLrbtbtbtL.2.2.2.2.2.2.2.2.2.2.2.2.2.2.2.2))) fun c=>if c=true then bnd (dP a b.1.aJ.ls) fun d=>if d=true then if b.1.gM=1 then if b.1.jo=1 then if a.bn=a.dm then 180 else 0 else 0 else 0 else 180 else 180 else 180 else 180 else 180
set_option maxHeartbeats 8000000 in
theorem mg (w:World) (D:Nat→Prop) (a:bG) (S:Option Addr) (dh O:Nat) (T:Option Addr) (di P:Nat) (aI:List ag) (U:Option Addr) (dm Q:Nat) (r0:Int) (H:Own w D w []) (dC:dh=a.az.ls.length) (bT:Ro w D fun w'=>bD w' 6 S a.az.ls.length (List.flatMap aB.cells a.az.ls)) (iA:a.az.ls.length≤O∧a.az.ls.length≤9223372036854775807) (bA:List.map ag.abs aI=a.ai.ls) (dE:di=a.ai.ls.length) (bU:Ro w D fun w'=>bD w' 3 T a.ai.ls.length (List.flatMap ag.cells aI)) (iB:a.ai.ls.length≤P∧a.ai.ls.length≤9223372036854775807) (bB:∀ x ∈ aI,Ro w D (fun w'=>bD w' 2 x.ay.A x.ay.ls.length (List.flatMap aW.cells x.ay.ls))∧(x.ay.ls.length≤x.ay.c∧x.ay.ls.length≤9223372036854775807)) (dG:dm=a.aj.ls.length) (bV:Ro w D fun w'=>bD w' 2 U a.aj.ls.length (List.flatMap aA.cells a.aj.ls)) (iC:a.aj.ls.length≤Q∧a.aj.ls.length≤9223372036854775807) (jN:a.az.ls.length≤140737488355328∧a.ai.ls.length≤140737488355328∧a.aj.ls.length≤140737488355328) (hr:dH a=r0):
    Calls Tryz.prog 11 #[.agg (bf a.ae a.bn a.dm a.aO a.bq a.bM a.bF a.aY a.bE a.bH a.bL a.aS a.bB a.aK a.xN a.bV a.aG.aD a.aG.aI S dh O T di P U dm Q).toArray] w (cK fun v w'=>v= .int .i64 r0∧Own w D w' []):=by
 subst dC dE dG
 have hdl0x1:=dM bA
 refine Calls.body (args:= [.agg (aV a S O T P U Q).toArray]) Tryz.func11 rfl rfl rfl ?_
 show Wp _ _ _ [(0, .agg (aV a S O T P U Q).toArray)] _ _
 refine sr ?_
 refine dD (aV a S O T P U Q) 29 H ?_
 intro bK jO dV
 refine Ar rfl (Kz (.pointer (some ⟨bK,0,none⟩)) (Lz (.int .i64 a.ae) dV 0 Tryz.isAgg3 ?_))
 obtain⟨⟨d,bX⟩,aM⟩:∃ q:dK × Bool,bY a.ae=q:=⟨_,rfl⟩
 obtain⟨jP,dW,iZ,dX,ja⟩:=Own.enter0 dV
 refine cl Tryz.call19 (lh _ _ a.ae d bX dW aM) ?_
 rintro _ jQ ⟨aO,aS,rfl,dZ,dw⟩
 have d9:=dX _ _ dZ
 have jb:=d9.rowC (i:=0) rfl
 replace dw:d.aJ.ls.length≤5:=dw
 refine Mz rfl (Kz (.agg #[.int .i64 d.gM, .int .i64 d.jo, .slice aO d.aJ.ls.length aS]) (Kz (.bool bX) ?_))
 refine dD [.int .i64 0, .int .i64 0, .slice none 0 0] 50 d9 ?_
 intro bH jR iD
 refine bz [.int .i64 d.gM, .int .i64 d.jo, .slice aO d.aJ.ls.length aS] 0 iD Tryz.sizeOf50 ?_
 intro jS bZ
 refine An rfl (Wp.seq (sr (Mz rfl (Kz (.bool (!bX)) (Mz rfl ?_)))))
 rcases Bool.eq_false_or_eq_true (bX) with ax | ax
 refine Gz (.pointer (some ⟨bH,0,none⟩)) (cn ax) (Gl (.int .i64 d.gM) (cn ax) bZ 0 Tryz.isAgg47 (Gz (.pointer (some ⟨bK,1,none⟩)) (cn ax) (Gl (.int .i64 a.bn) (cn ax) bZ 2 Tryz.isAgg3 ?_)))
 obtain⟨cu,aQ⟩:∃ q,bQ d.gM a.bn=q:=⟨_,rfl⟩
 obtain⟨jU,ed,jc,ek,jd⟩:=Own.enter0 bZ
 refine jI (cn ax) Tryz.call23 (lH _ _ d.gM a.bn cu ed aQ) ?_
 rintro _ jV ⟨rfl,eu⟩
 have cz:=ek _ _ eu
 refine Gz (.bool (!cu)) (cn ax) (fw (.bool (!cu)) (Yl.pickF rfl (cn ax) rfl) (Mz rfl ?_))
 rcases Bool.eq_false_or_eq_true (cu) with ay | ay
 refine Gz (.pointer (some ⟨bH,1,none⟩)) (cn ay) (Gl (.int .i64 d.jo) (cn ay) cz 0 Tryz.isAgg47 (Gz (.pointer (some ⟨bK,2,none⟩)) (cn ay) (Gl (.int .i64 a.dm) (cn ay) cz 2 Tryz.isAgg3 ?_)))
 obtain⟨cB,aY⟩:∃ q,bQ d.jo a.dm=q:=⟨_,rfl⟩
 obtain⟨jW,eB,je,eD,jg⟩:=Own.enter0 cz
 refine jI (cn ay) Tryz.call23 (lH _ _ d.jo a.dm cB eB aY) ?_
 rintro _ jX ⟨rfl,eF⟩
 have cO:=eD _ _ eF
 refine Gz (.bool (!cB)) (cn ay) (fw (.bool (!cB)) (Yl.pickF rfl (cn ay) rfl) (Mz rfl ?_))
 rcases Bool.eq_false_or_eq_true (cB) with aD | aD
 refine Ga (aV a S O T P U Q) (cn aD) cO 2 Tryz.isAgg29 Tryz.sizeOf29 (Gz (.pointer (some ⟨bH,2,none⟩)) (cn aD) (Gl (.slice aO d.aJ.ls.length aS) (cn aD) cO 0 Tryz.isAgg48 ?_))
 refine WL.doG rfl rfl (cn aD) rfl (Do.call Tryz.call25 rfl ?_ (fun _ _ k=>k))
 refine Calls.body (args:= [.agg (aV a S O T P U Q).toArray, .slice aO d.aJ.ls.length aS]) Tryz.func25 rfl rfl rfl ?_
 show Wp _ _ _ [(0, .agg (aV a S O T P U Q).toArray),(1, .slice aO d.aJ.ls.length aS)] _ _
 refine sr ?_
 refine dD (aV a S O T P U Q) 29 cO ?_
 intro aG jY iE
 refine dD (bf 0 0 0 0 0 0 0 0 0 0 0 0 0 0 0 false ([]) ([]) none 0 0 none 0 0 none 0 0) 29 iE ?_
 intro cZ jZ iF
 refine nt (Wp.seq (sr (Mz rfl (Kz (.int .i64 ((d.aJ.ls.length:Nat):Int)) (Mn rfl (bo ?_))))))
 have iG:=iF.pk [0,1,2,3,4]
 obtain⟨dx,dI⟩:∃ q:(Nat × Int × Int × Nat × Nat × Nat × Nat × Nat × Nat × Nat × Nat × Nat × Bool × (List UInt8) × (List UInt8) × (Option Addr) × Nat × (List aB) × (Option Addr) × Nat × (List ag) × (List aX) × (Option Addr) × Nat × (List aA))→World→Prop,q=fun(i:Nat × Int × Int × Nat × Nat × Nat × Nat × Nat × Nat × Nat × Nat × Nat × Bool × (List UInt8) × (List UInt8) × (Option Addr) × Nat × (List aB) × (Option Addr) × Nat × (List ag) × (List aX) × (Option Addr) × Nat × (List aA)) w'=>Own w D w' [blk cZ (bf 0 0 0 0 0 0 0 0 0 0 0 0 0 0 0 false ([]) ([]) none 0 0 none 0 0 none 0 0) 29,blk aG (bf a.ae a.bn a.dm a.aO i.2.1 i.2.2.1 i.2.2.2.1 i.2.2.2.2.1 i.2.2.2.2.2.1 i.2.2.2.2.2.2.1 i.2.2.2.2.2.2.2.1 i.2.2.2.2.2.2.2.2.1 i.2.2.2.2.2.2.2.2.2.1 i.2.2.2.2.2.2.2.2.2.2.1 i.2.2.2.2.2.2.2.2.2.2.2.1 i.2.2.2.2.2.2.2.2.2.2.2.2.1 i.2.2.2.2.2.2.2.2.2.2.2.2.2.1 i.2.2.2.2.2.2.2.2.2.2.2.2.2.2.1 i.2.2.2.2.2.2.2.2.2.2.2.2.2.2.2.1 i.2.2.2.2.2.2.2.2.2.2.2.2.2.2.2.2.2.1.length i.2.2.2.2.2.2.2.2.2.2.2.2.2.2.2.2.1 i.2.2.2.2.2.2.2.2.2.2.2.2.2.2.2.2.2.2.1 i.2.2.2.2.2.2.2.2.2.2.2.2.2.2.2.2.2.2.2.2.2.1.length i.2.2.2.2.2.2.2.2.2.2.2.2.2.2.2.2.2.2.2.1 i.2.2.2.2.2.2.2.2.2.2.2.2.2.2.2.2.2.2.2.2.2.2.1 i.2.2.2.2.2.2.2.2.2.2.2.2.2.2.2.2.2.2.2.2.2.2.2.2.length i.2.2.2.2.2.2.2.2.2.2.2.2.2.2.2.2.2.2.2.2.2.2.2.1) 29,blk bH [.int .i64 d.gM, .int .i64 d.jo, .slice aO d.aJ.ls.length aS] 50,row aO d.aJ.ls.length aS (List.flatMap (eI .i64) d.aJ.ls) 93 1,blk bK (aV a S O T P U Q) 29]∧(ah 6 S O a.az.ls i.2.2.2.2.2.2.2.2.2.2.2.2.2.2.2.1 i.2.2.2.2.2.2.2.2.2.2.2.2.2.2.2.2.1 i.2.2.2.2.2.2.2.2.2.2.2.2.2.2.2.2.2.1∧ah 3 T P aI i.2.2.2.2.2.2.2.2.2.2.2.2.2.2.2.2.2.2.1 i.2.2.2.2.2.2.2.2.2.2.2.2.2.2.2.2.2.2.2.1 i.2.2.2.2.2.2.2.2.2.2.2.2.2.2.2.2.2.2.2.2.1∧List.map ag.abs i.2.2.2.2.2.2.2.2.2.2.2.2.2.2.2.2.2.2.2.2.1=i.2.2.2.2.2.2.2.2.2.2.2.2.2.2.2.2.2.2.2.2.2.1∧ah 2 U Q a.aj.ls i.2.2.2.2.2.2.2.2.2.2.2.2.2.2.2.2.2.2.2.2.2.2.1 i.2.2.2.2.2.2.2.2.2.2.2.2.2.2.2.2.2.2.2.2.2.2.2.1 i.2.2.2.2.2.2.2.2.2.2.2.2.2.2.2.2.2.2.2.2.2.2.2.2∧i.1≤d.aJ.ls.length∧i.2.2.2.1≤a.bF+i.1∧i.2.2.2.2.1≤a.aY+i.1∧i.2.2.2.2.2.1≤a.bE+i.1∧i.2.2.2.2.2.2.1≤a.bH+i.1∧i.2.2.2.2.2.2.2.1≤a.bL+i.1∧i.2.2.2.2.2.2.2.2.1≤a.aS+i.1∧i.2.2.2.2.2.2.2.2.2.1≤a.bB+i.1∧i.2.2.2.2.2.2.2.2.2.2.1≤a.aK+i.1∧i.2.2.2.2.2.2.2.2.2.2.2.1≤a.xN+i.1∧bi a d d.aJ.ls a.bq a.bM a.bF a.aY a.bE a.bH a.bL a.aS a.bB a.aK a.xN a.bV a.aG.aD a.aG.aI a.az.ls a.ai.ls a.aj.ls=bi a d (List.drop i.1 d.aJ.ls) i.2.1 i.2.2.1 i.2.2.2.1 i.2.2.2.2.1 i.2.2.2.2.2.1 i.2.2.2.2.2.2.1 i.2.2.2.2.2.2.2.1 i.2.2.2.2.2.2.2.2.1 i.2.2.2.2.2.2.2.2.2.1 i.2.2.2.2.2.2.2.2.2.2.1 i.2.2.2.2.2.2.2.2.2.2.2.1 i.2.2.2.2.2.2.2.2.2.2.2.2.1 i.2.2.2.2.2.2.2.2.2.2.2.2.2.1 i.2.2.2.2.2.2.2.2.2.2.2.2.2.2.1 i.2.2.2.2.2.2.2.2.2.2.2.2.2.2.2.2.2.1 i.2.2.2.2.2.2.2.2.2.2.2.2.2.2.2.2.2.2.2.2.2.1 i.2.2.2.2.2.2.2.2.2.2.2.2.2.2.2.2.2.2.2.2.2.2.2.2):=⟨_,rfl⟩
 have I:∀ {b:Nat} {z:Int} {B:Int} {j:Nat} {l:Nat} {n:Nat} {o:Nat} {p:Nat} {r:Nat} {s:Nat} {t:Nat} {u:Nat} {C:Bool} {E:List UInt8} {F:List UInt8} {af:Option Addr} {V:Nat} {f:List aB} {ai:Option Addr} {W:Nat} {X:List ag} {g:List aX} {aj:Option Addr} {Y:Nat} {h:List aA} {w':World},dx (b,z,B,j,l,n,o,p,r,s,t,u,C,E,F,af,V,f,ai,W,X,g,aj,Y,h) w'↔Own w D w' [blk cZ (bf 0 0 0 0 0 0 0 0 0 0 0 0 0 0 0 false ([]) ([]) none 0 0 none 0 0 none 0 0) 29,blk aG (bf a.ae a.bn a.dm a.aO z B j l n o p r s t u C E F af f.length V ai g.length W aj h.length Y) 29,blk bH [.int .i64 d.gM, .int .i64 d.jo, .slice aO d.aJ.ls.length aS] 50,row aO d.aJ.ls.length aS (List.flatMap (eI .i64) d.aJ.ls) 93 1,blk bK (aV a S O T P U Q) 29]∧ah 6 S O a.az.ls af V f∧ah 3 T P aI ai W X∧List.map ag.abs X=g∧ah 2 U Q a.aj.ls aj Y h∧b≤d.aJ.ls.length∧j≤a.bF+b∧l≤a.aY+b∧n≤a.bE+b∧o≤a.bH+b∧p≤a.bL+b∧r≤a.aS+b∧s≤a.bB+b∧t≤a.aK+b∧u≤a.xN+b∧bi a d d.aJ.ls a.bq a.bM a.bF a.aY a.bE a.bH a.bL a.aS a.bB a.aK a.xN a.bV a.aG.aD a.aG.aI a.az.ls a.ai.ls a.aj.ls=bi a d (List.drop b d.aJ.ls) z B j l n o p r s t u C E F f g h:=by intros; subst dI; exact Iff.rfl
 refine Wp.loop (fun i:Nat × Int × Int × Nat × Nat × Nat × Nat × Nat × Nat × Nat × Nat × Nat × Bool × (List UInt8) × (List UInt8) × (Option Addr) × Nat × (List aB) × (Option Addr) × Nat × (List ag) × (List aX) × (Option Addr) × Nat × (List aA)=> [(9, .int .i64 ((i.1:Nat):Int)),(8, .int .i64 ((d.aJ.ls.length:Nat):Int)),(7, .slice aO d.aJ.ls.length aS),(4, .pointer (some ⟨cZ,0,none⟩)),(2, .pointer (some ⟨aG,0,none⟩))]) dx (fun i=>d.aJ.ls.length - i.1) (0,a.bq,a.bM,a.bF,a.aY,a.bE,a.bH,a.bL,a.aS,a.bB,a.aK,a.xN,a.bV,a.aG.aD,a.aG.aI,S,O,a.az.ls,T,P,aI,a.ai.ls,U,Q,a.aj.ls) ⟨rfl,rfl,rfl,rfl,rfl,trivial⟩ (I.2 ⟨iG,by exact(ah.refl (by omega)),by exact(ah.refl (by omega)),by exact bA,by exact(ah.refl (by omega)),by omega,by omega,by omega,by omega,by omega,by omega,by omega,by omega,by omega,by omega,rfl⟩) ?_
 rintro ⟨b,z,B,j,l,n,o,p,r,s,t,u,C,E,F,af,V,f,ai,W,X,g,aj,Y,h⟩ jh dJ
 show Wp _ _ _ [(9, .int .i64 ((b:Nat):Int)),(8, .int .i64 ((d.aJ.ls.length:Nat):Int)),(7, .slice aO d.aJ.ls.length aS),(4, .pointer (some ⟨cZ,0,none⟩)),(2, .pointer (some ⟨aG,0,none⟩))] _ _
 obtain⟨R,K,G,J,L,iH,iI,iJ,iK,iL,iM,iO,iP,iQ,iR,M⟩:=I.1 dJ
 have iT:=(K).le
 have iU:=(G).le
 have iV:=dM J
 have iW:=(L).le
 refine sr (Kz (.bool (decide (((b:Nat):Int) < ((d.aJ.ls.length:Nat):Int)))) (nt (Wp.seq ?_)))
 by_cases dz:((b:Nat):Int) < ((d.aJ.ls.length:Nat):Int)
 obtain⟨y,bW⟩:=eG (ls:=d.aJ.ls) (i:=b) l6 (by decide) (R.rds (i:=3) rfl) (by first | omega | (simp; done) | (simp; omega))
 have N:=drop_at bW
 refine jT (dT dz) (sk (Wp.seq (bo (sr (fw (.pointer (some ⟨ab aO,ao aO+b *1,none⟩)) (Yl.indexAddr (tF) rfl rfl ((R.rds (i:=3) rfl).addr (i:=b) (by omega)) (by omega)) (fw (.int .i64 y) (Yl.load rfl (bu.one Tryz.isAgg93 (((R.rds (i:=3) rfl).elem l6 bW (by decide)).at_ (k:=0) rfl))) (Ar rfl (Mn rfl (bo (sr (Kz (.bool (decide (y=0))) (An rfl ?_))))))))))))
 by_cases Z:y=0
 refine jT (dT Z) (Wp.region (Kz (.pointer (some ⟨aG,6,none⟩)) ?_))
 have eH:=R.pk [1,0,2,3,4]
 refine bz [.int .u64 0] 6 eH Tryz.sizeOf22 ?_
 intro ji eO
 refine WL.nil (bN (bN (Fin.then (Wp.region (fw (.int .i64 ((b+1:Nat):Int)) (Yl.int (e:=IntKind.i64.wrap (((b:Nat):Int)+1)) yk (by rw [IntWalk.i64_in _ (by omega)]; omega)) (Mz rfl (WL.nil ?_)))))))
 have eP:=eO.pk [1,0,2,3,4]
 exact Fin.round (b+1,z,B,0,l,n,o,p,r,s,t,u,C,E,F,af,V,f,ai,W,X,g,aj,Y,h) ⟨rfl,rfl,rfl,rfl,rfl,trivial⟩ (I.2 ⟨eP,by exact K,by exact G,by exact J,by exact L,by omega,by omega,by omega,by omega,by omega,by omega,by omega,by omega,by omega,by omega,et (M) (et (congrArg (fun q=>bi a d q z B j l n o p r s t u C E F f g h) N) (ip Z))⟩) (by show d.aJ.ls.length - (b+1) < d.aJ.ls.length - b; omega)
 refine jF (dF Z) (sr (Kz (.bool (decide (y=1))) (An rfl ?_)))
 by_cases ak:y=1
 refine jT (dT ak) (Wp.region (Kz (.pointer (some ⟨aG,7,none⟩)) ?_))
 have eQ:=R.pk [1,0,2,3,4]
 refine bz [.int .u64 0] 7 eQ Tryz.sizeOf22 ?_
 intro jk eT
 refine WL.nil (bN (bN (Fin.then (Wp.region (fw (.int .i64 ((b+1:Nat):Int)) (Yl.int (e:=IntKind.i64.wrap (((b:Nat):Int)+1)) yk (by rw [IntWalk.i64_in _ (by omega)]; omega)) (Mz rfl (WL.nil ?_)))))))
 have eU:=eT.pk [1,0,2,3,4]
 exact Fin.round (b+1,z,B,j,0,n,o,p,r,s,t,u,C,E,F,af,V,f,ai,W,X,g,aj,Y,h) ⟨rfl,rfl,rfl,rfl,rfl,trivial⟩ (I.2 ⟨eU,by exact K,by exact G,by exact J,by exact L,by omega,by omega,by omega,by omega,by omega,by omega,by omega,by omega,by omega,by omega,et (M) (et (congrArg (fun q=>bi a d q z B j l n o p r s t u C E F f g h) N) (et (iN Z) (ip ak)))⟩) (by show d.aJ.ls.length - (b+1) < d.aJ.ls.length - b; omega)
 refine jF (dF ak) (sr (Kz (.bool (decide (y=2))) (An rfl ?_)))
 by_cases au:y=2
 refine jT (dT au) (Wp.region (Kz (.pointer (some ⟨aG,4,none⟩)) ?_))
 have eX:=R.pk [1,0,2,3,4]
 refine bz [.int .i64 0] 4 eX Tryz.sizeOf3 ?_
 intro jl eY
 refine WL.nil (bN (bN (Fin.then (Wp.region (fw (.int .i64 ((b+1:Nat):Int)) (Yl.int (e:=IntKind.i64.wrap (((b:Nat):Int)+1)) yk (by rw [IntWalk.i64_in _ (by omega)]; omega)) (Mz rfl (WL.nil ?_)))))))
 have eZ:=eY.pk [1,0,2,3,4]
 exact Fin.round (b+1,0,B,j,l,n,o,p,r,s,t,u,C,E,F,af,V,f,ai,W,X,g,aj,Y,h) ⟨rfl,rfl,rfl,rfl,rfl,trivial⟩ (I.2 ⟨eZ,by exact K,by exact G,by exact J,by exact L,by omega,by omega,by omega,by omega,by omega,by omega,by omega,by omega,by omega,by omega,et (M) (et (congrArg (fun q=>bi a d q z B j l n o p r s t u C E F f g h) N) (et (iN Z) (et (iN ak) (ip au))))⟩) (by show d.aJ.ls.length - (b+1) < d.aJ.ls.length - b; omega)
 refine jF (dF au) (sr (Kz (.bool (decide (y=3))) (An rfl ?_)))
 by_cases av:y=3
 refine jT (dT av) (Wp.region (Kz (.pointer (some ⟨aG,19,none⟩)) ?_))
 have fo:=R.pk [1,0,2,3,4]
 refine bz [.slice none 0 0] 19 fo Tryz.sizeOf26 ?_
 intro jm fq
 refine WL.nil (bN (bN (Fin.then (Wp.region (fw (.int .i64 ((b+1:Nat):Int)) (Yl.int (e:=IntKind.i64.wrap (((b:Nat):Int)+1)) yk (by rw [IntWalk.i64_in _ (by omega)]; omega)) (Mz rfl (WL.nil ?_)))))))
 have fu:=fq.pk [1,0,2,3,4]
 exact Fin.round (b+1,z,B,j,l,n,o,p,r,s,t,u,C,E,F,af,V,f,none,0, [], [],aj,Y,h) ⟨rfl,rfl,rfl,rfl,rfl,trivial⟩ (I.2 ⟨fu,(show ah 6 S O a.az.ls af V f∧ah 3 T P aI none 0 ([])∧List.map ag.abs ([])=([])∧ah 2 U Q a.aj.ls aj Y h∧(b+1)≤d.aJ.ls.length∧j≤a.bF+(b+1)∧l≤a.aY+(b+1)∧n≤a.bE+(b+1)∧o≤a.bH+(b+1)∧p≤a.bL+(b+1)∧r≤a.aS+(b+1)∧s≤a.bB+(b+1)∧t≤a.aK+(b+1)∧u≤a.xN+(b+1)∧bi a d d.aJ.ls a.bq a.bM a.bF a.aY a.bE a.bH a.bL a.aS a.bB a.aK a.xN a.bV a.aG.aD a.aG.aI a.az.ls a.ai.ls a.aj.ls=bi a d (List.drop (b+1) d.aJ.ls) z B j l n o p r s t u C E F f ([]) h from ⟨by exact K,by exact ah.nil,by exact rfl,by exact L,by omega,by omega,by omega,by omega,by omega,by omega,by omega,by omega,by omega,by omega,et (M) (et (congrArg (fun q=>bi a d q z B j l n o p r s t u C E F f g h) N) (et (iN Z) (et (iN ak) (et (iN au) (ip av)))))⟩)⟩) (by show d.aJ.ls.length - (b+1) < d.aJ.ls.length - b; omega)
 refine jF (dF av) (sr (Kz (.bool (decide (y=4))) (An rfl ?_)))
 by_cases az:y=4
 refine jT (dT az) (Wp.region (Kz (.pointer (some ⟨aG,8,none⟩)) ?_))
 have fA:=R.pk [1,0,2,3,4]
 refine bz [.int .u64 0] 8 fA Tryz.sizeOf22 ?_
 intro jo fB
 refine WL.nil (bN (bN (Fin.then (Wp.region (fw (.int .i64 ((b+1:Nat):Int)) (Yl.int (e:=IntKind.i64.wrap (((b:Nat):Int)+1)) yk (by rw [IntWalk.i64_in _ (by omega)]; omega)) (Mz rfl (WL.nil ?_)))))))
 have fC:=fB.pk [1,0,2,3,4]
 exact Fin.round (b+1,z,B,j,l,0,o,p,r,s,t,u,C,E,F,af,V,f,ai,W,X,g,aj,Y,h) ⟨rfl,rfl,rfl,rfl,rfl,trivial⟩ (I.2 ⟨fC,by exact K,by exact G,by exact J,by exact L,by omega,by omega,by omega,by omega,by omega,by omega,by omega,by omega,by omega,by omega,et (M) (et (congrArg (fun q=>bi a d q z B j l n o p r s t u C E F f g h) N) (et (iN Z) (et (iN ak) (et (iN au) (et (iN av) (ip az))))))⟩) (by show d.aJ.ls.length - (b+1) < d.aJ.ls.length - b; omega)
 refine jF (dF az) (sr (Kz (.bool (decide (y=5))) (An rfl ?_)))
 by_cases aF:y=5
 refine jT (dT aF) (Wp.region (Kz (.pointer (some ⟨aG,9,none⟩)) ?_))
 have fD:=R.pk [1,0,2,3,4]
 refine bz [.int .u64 0] 9 fD Tryz.sizeOf22 ?_
 intro jq fE
 refine WL.nil (bN (bN (Fin.then (Wp.region (fw (.int .i64 ((b+1:Nat):Int)) (Yl.int (e:=IntKind.i64.wrap (((b:Nat):Int)+1)) yk (by rw [IntWalk.i64_in _ (by omega)]; omega)) (Mz rfl (WL.nil ?_)))))))
 have fF:=fE.pk [1,0,2,3,4]
 exact Fin.round (b+1,z,B,j,l,n,0,p,r,s,t,u,C,E,F,af,V,f,ai,W,X,g,aj,Y,h) ⟨rfl,rfl,rfl,rfl,rfl,trivial⟩ (I.2 ⟨fF,by exact K,by exact G,by exact J,by exact L,by omega,by omega,by omega,by omega,by omega,by omega,by omega,by omega,by omega,by omega,et (M) (et (congrArg (fun q=>bi a d q z B j l n o p r s t u C E F f g h) N) (et (iN Z) (et (iN ak) (et (iN au) (et (iN av) (et (iN az) (ip aF)))))))⟩) (by show d.aJ.ls.length - (b+1) < d.aJ.ls.length - b; omega)
 refine jF (dF aF) (sr (Kz (.bool (decide (y=6))) (An rfl ?_)))
 by_cases aH:y=6
 refine jT (dT aH) (Wp.region (Kz (.pointer (some ⟨aG,11,none⟩)) ?_))
 have fG:=R.pk [1,0,2,3,4]
 refine bz [.int .u64 0] 11 fG Tryz.sizeOf22 ?_
 intro jr fH
 refine WL.nil (bN (bN (Fin.then (Wp.region (fw (.int .i64 ((b+1:Nat):Int)) (Yl.int (e:=IntKind.i64.wrap (((b:Nat):Int)+1)) yk (by rw [IntWalk.i64_in _ (by omega)]; omega)) (Mz rfl (WL.nil ?_)))))))
 have fI:=fH.pk [1,0,2,3,4]
 exact Fin.round (b+1,z,B,j,l,n,o,p,0,s,t,u,C,E,F,af,V,f,ai,W,X,g,aj,Y,h) ⟨rfl,rfl,rfl,rfl,rfl,trivial⟩ (I.2 ⟨fI,by exact K,by exact G,by exact J,by exact L,by omega,by omega,by omega,by omega,by omega,by omega,by omega,by omega,by omega,by omega,et (M) (et (congrArg (fun q=>bi a d q z B j l n o p r s t u C E F f g h) N) (et (iN Z) (et (iN ak) (et (iN au) (et (iN av) (et (iN az) (et (iN aF) (ip aH))))))))⟩) (by show d.aJ.ls.length - (b+1) < d.aJ.ls.length - b; omega)
 refine jF (dF aH) (sr (Kz (.bool (decide (y=7))) (An rfl ?_)))
 by_cases aJ:y=7
 refine jT (dT aJ) (Wp.region (Kz (.pointer (some ⟨aG,18,none⟩)) ?_))
 have fJ:=R.pk [1,0,2,3,4]
 refine bz [.slice none 0 0] 18 fJ Tryz.sizeOf25 ?_
 intro jv fK
 refine WL.nil (bN (bN (Fin.then (Wp.region (fw (.int .i64 ((b+1:Nat):Int)) (Yl.int (e:=IntKind.i64.wrap (((b:Nat):Int)+1)) yk (by rw [IntWalk.i64_in _ (by omega)]; omega)) (Mz rfl (WL.nil ?_)))))))
 have fM:=fK.pk [1,0,2,3,4]
 exact Fin.round (b+1,z,B,j,l,n,o,p,r,s,t,u,C,E,F,none,0, [],ai,W,X,g,aj,Y,h) ⟨rfl,rfl,rfl,rfl,rfl,trivial⟩ (I.2 ⟨fM,(show ah 6 S O a.az.ls none 0 ([])∧ah 3 T P aI ai W X∧List.map ag.abs X=g∧ah 2 U Q a.aj.ls aj Y h∧(b+1)≤d.aJ.ls.length∧j≤a.bF+(b+1)∧l≤a.aY+(b+1)∧n≤a.bE+(b+1)∧o≤a.bH+(b+1)∧p≤a.bL+(b+1)∧r≤a.aS+(b+1)∧s≤a.bB+(b+1)∧t≤a.aK+(b+1)∧u≤a.xN+(b+1)∧bi a d d.aJ.ls a.bq a.bM a.bF a.aY a.bE a.bH a.bL a.aS a.bB a.aK a.xN a.bV a.aG.aD a.aG.aI a.az.ls a.ai.ls a.aj.ls=bi a d (List.drop (b+1) d.aJ.ls) z B j l n o p r s t u C E F ([]) g h from ⟨by exact ah.nil,by exact G,by exact J,by exact L,by omega,by omega,by omega,by omega,by omega,by omega,by omega,by omega,by omega,by omega,et (M) (et (congrArg (fun q=>bi a d q z B j l n o p r s t u C E F f g h) N) (et (iN Z) (et (iN ak) (et (iN au) (et (iN av) (et (iN az) (et (iN aF) (et (iN aH) (ip aJ)))))))))⟩)⟩) (by show d.aJ.ls.length - (b+1) < d.aJ.ls.length - b; omega)
 refine jF (dF aJ) (sr (Kz (.bool (decide (y=8))) (An rfl ?_)))
 by_cases aL:y=8
 refine jT (dT aL) (Wp.region (Kz (.pointer (some ⟨aG,15,none⟩)) ?_))
 have fO:=R.pk [1,0,2,3,4]
 refine bz [.bool false] 15 fO Tryz.sizeOf4 ?_
 intro jw fP
 refine WL.nil (bN (bN (Fin.then (Wp.region (fw (.int .i64 ((b+1:Nat):Int)) (Yl.int (e:=IntKind.i64.wrap (((b:Nat):Int)+1)) yk (by rw [IntWalk.i64_in _ (by omega)]; omega)) (Mz rfl (WL.nil ?_)))))))
 have fQ:=fP.pk [1,0,2,3,4]
 exact Fin.round (b+1,z,B,j,l,n,o,p,r,s,t,u,false,E,F,af,V,f,ai,W,X,g,aj,Y,h) ⟨rfl,rfl,rfl,rfl,rfl,trivial⟩ (I.2 ⟨fQ,(show ah 6 S O a.az.ls af V f∧ah 3 T P aI ai W X∧List.map ag.abs X=g∧ah 2 U Q a.aj.ls aj Y h∧(b+1)≤d.aJ.ls.length∧j≤a.bF+(b+1)∧l≤a.aY+(b+1)∧n≤a.bE+(b+1)∧o≤a.bH+(b+1)∧p≤a.bL+(b+1)∧r≤a.aS+(b+1)∧s≤a.bB+(b+1)∧t≤a.aK+(b+1)∧u≤a.xN+(b+1)∧bi a d d.aJ.ls a.bq a.bM a.bF a.aY a.bE a.bH a.bL a.aS a.bB a.aK a.xN a.bV a.aG.aD a.aG.aI a.az.ls a.ai.ls a.aj.ls=bi a d (List.drop (b+1) d.aJ.ls) z B j l n o p r s t u false E F f g h from ⟨by exact K,by exact G,by exact J,by exact L,by omega,by omega,by omega,by omega,by omega,by omega,by omega,by omega,by omega,by omega,et (M) (et (congrArg (fun q=>bi a d q z B j l n o p r s t u C E F f g h) N) (et (iN Z) (et (iN ak) (et (iN au) (et (iN av) (et (iN az) (et (iN aF) (et (iN aH) (et (iN aJ) (ip aL))))))))))⟩)⟩) (by show d.aJ.ls.length - (b+1) < d.aJ.ls.length - b; omega)
 refine jF (dF aL) (sr (Kz (.bool (decide (y=9))) (An rfl ?_)))
 by_cases aN:y=9
 refine jT (dT aN) (Wp.region (Kz (.pointer (some ⟨aG,10,none⟩)) ?_))
 have fT:=R.pk [1,0,2,3,4]
 refine bz [.int .u64 0] 10 fT Tryz.sizeOf22 ?_
 intro jy fU
 refine WL.nil (bN (bN (Fin.then (Wp.region (fw (.int .i64 ((b+1:Nat):Int)) (Yl.int (e:=IntKind.i64.wrap (((b:Nat):Int)+1)) yk (by rw [IntWalk.i64_in _ (by omega)]; omega)) (Mz rfl (WL.nil ?_)))))))
 have fV:=fU.pk [1,0,2,3,4]
 exact Fin.round (b+1,z,B,j,l,n,o,0,r,s,t,u,C,E,F,af,V,f,ai,W,X,g,aj,Y,h) ⟨rfl,rfl,rfl,rfl,rfl,trivial⟩ (I.2 ⟨fV,by exact K,by exact G,by exact J,by exact L,by omega,by omega,by omega,by omega,by omega,by omega,by omega,by omega,by omega,by omega,et (M) (et (congrArg (fun q=>bi a d q z B j l n o p r s t u C E F f g h) N) (et (iN Z) (et (iN ak) (et (iN au) (et (iN av) (et (iN az) (et (iN aF) (et (iN aH) (et (iN aJ) (et (iN aL) (ip aN)))))))))))⟩) (by show d.aJ.ls.length - (b+1) < d.aJ.ls.length - b; omega)
 refine jF (dF aN) (sr (Kz (.bool (decide (y=10))) (An rfl ?_)))
 by_cases aR:y=10
 refine jT (dT aR) (Wp.region (Kz (.pointer (some ⟨aG,12,none⟩)) ?_))
 have fZ:=R.pk [1,0,2,3,4]
 refine bz [.int .u64 0] 12 fZ Tryz.sizeOf22 ?_
 intro jA gm
 refine WL.nil (bN (bN (Fin.then (Wp.region (fw (.int .i64 ((b+1:Nat):Int)) (Yl.int (e:=IntKind.i64.wrap (((b:Nat):Int)+1)) yk (by rw [IntWalk.i64_in _ (by omega)]; omega)) (Mz rfl (WL.nil ?_)))))))
 have gp:=gm.pk [1,0,2,3,4]
 exact Fin.round (b+1,z,B,j,l,n,o,p,r,0,t,u,C,E,F,af,V,f,ai,W,X,g,aj,Y,h) ⟨rfl,rfl,rfl,rfl,rfl,trivial⟩ (I.2 ⟨gp,by exact K,by exact G,by exact J,by exact L,by omega,by omega,by omega,by omega,by omega,by omega,by omega,by omega,by omega,by omega,et (M) (et (congrArg (fun q=>bi a d q z B j l n o p r s t u C E F f g h) N) (et (iN Z) (et (iN ak) (et (iN au) (et (iN av) (et (iN az) (et (iN aF) (et (iN aH) (et (iN aJ) (et (iN aL) (et (iN aN) (ip aR))))))))))))⟩) (by show d.aJ.ls.length - (b+1) < d.aJ.ls.length - b; omega)
 refine jF (dF aR) (sr (Kz (.bool (decide (y=11))) (An rfl ?_)))
 by_cases aZ:y=11
 refine jT (dT aZ) (Wp.region (Kz (.pointer (some ⟨aG,20,none⟩)) ?_))
 have gq:=R.pk [1,0,2,3,4]
 refine bz [.slice none 0 0] 20 gq Tryz.sizeOf27 ?_
 intro jB gu
 refine WL.nil (bN (bN (Fin.then (Wp.region (fw (.int .i64 ((b+1:Nat):Int)) (Yl.int (e:=IntKind.i64.wrap (((b:Nat):Int)+1)) yk (by rw [IntWalk.i64_in _ (by omega)]; omega)) (Mz rfl (WL.nil ?_)))))))
 have gy:=gu.pk [1,0,2,3,4]
 exact Fin.round (b+1,z,B,j,l,n,o,p,r,s,t,u,C,E,F,af,V,f,ai,W,X,g,none,0, []) ⟨rfl,rfl,rfl,rfl,rfl,trivial⟩ (I.2 ⟨gy,(show ah 6 S O a.az.ls af V f∧ah 3 T P aI ai W X∧List.map ag.abs X=g∧ah 2 U Q a.aj.ls none 0 ([])∧(b+1)≤d.aJ.ls.length∧j≤a.bF+(b+1)∧l≤a.aY+(b+1)∧n≤a.bE+(b+1)∧o≤a.bH+(b+1)∧p≤a.bL+(b+1)∧r≤a.aS+(b+1)∧s≤a.bB+(b+1)∧t≤a.aK+(b+1)∧u≤a.xN+(b+1)∧bi a d d.aJ.ls a.bq a.bM a.bF a.aY a.bE a.bH a.bL a.aS a.bB a.aK a.xN a.bV a.aG.aD a.aG.aI a.az.ls a.ai.ls a.aj.ls=bi a d (List.drop (b+1) d.aJ.ls) z B j l n o p r s t u C E F f g ([]) from ⟨by exact K,by exact G,by exact J,by exact ah.nil,by omega,by omega,by omega,by omega,by omega,by omega,by omega,by omega,by omega,by omega,et (M) (et (congrArg (fun q=>bi a d q z B j l n o p r s t u C E F f g h) N) (et (iN Z) (et (iN ak) (et (iN au) (et (iN av) (et (iN az) (et (iN aF) (et (iN aH) (et (iN aJ) (et (iN aL) (et (iN aN) (et (iN aR) (ip aZ)))))))))))))⟩)⟩) (by show d.aJ.ls.length - (b+1) < d.aJ.ls.length - b; omega)
 refine jF (dF aZ) (sr (Kz (.bool (decide (y=12))) (An rfl ?_)))
 by_cases bq:y=12
 refine jT (dT bq) (Wp.region (Kz (.pointer (some ⟨aG,5,none⟩)) ?_))
 have gz:=R.pk [1,0,2,3,4]
 refine bz [.int .i64 0] 5 gz Tryz.sizeOf3 ?_
 intro jC gB
 refine WL.nil (bN (bN (Fin.then (Wp.region (fw (.int .i64 ((b+1:Nat):Int)) (Yl.int (e:=IntKind.i64.wrap (((b:Nat):Int)+1)) yk (by rw [IntWalk.i64_in _ (by omega)]; omega)) (Mz rfl (WL.nil ?_)))))))
 have gD:=gB.pk [1,0,2,3,4]
 exact Fin.round (b+1,z,0,j,l,n,o,p,r,s,t,u,C,E,F,af,V,f,ai,W,X,g,aj,Y,h) ⟨rfl,rfl,rfl,rfl,rfl,trivial⟩ (I.2 ⟨gD,by exact K,by exact G,by exact J,by exact L,by omega,by omega,by omega,by omega,by omega,by omega,by omega,by omega,by omega,by omega,et (M) (et (congrArg (fun q=>bi a d q z B j l n o p r s t u C E F f g h) N) (et (iN Z) (et (iN ak) (et (iN au) (et (iN av) (et (iN az) (et (iN aF) (et (iN aH) (et (iN aJ) (et (iN aL) (et (iN aN) (et (iN aR) (et (iN aZ) (ip bq))))))))))))))⟩) (by show d.aJ.ls.length - (b+1) < d.aJ.ls.length - b; omega)
 refine jF (dF bq) (sr (Kz (.bool (decide (y=13))) (An rfl ?_)))
 by_cases bv:y=13
 refine jT (dT bv) (Wp.region (Kz (.agg #[.string ⟨List.toArray ([])⟩, .string ⟨List.toArray ([])⟩]) (Kz (.pointer (some ⟨aG,16,none⟩)) ?_)))
 have gF:=R.pk [1,0,2,3,4]
 refine bz [.string ⟨List.toArray ([])⟩, .string ⟨List.toArray ([])⟩] 16 gF Tryz.sizeOf24 ?_
 intro jD gG
 refine WL.nil (bN (bN (Fin.then (Wp.region (fw (.int .i64 ((b+1:Nat):Int)) (Yl.int (e:=IntKind.i64.wrap (((b:Nat):Int)+1)) yk (by rw [IntWalk.i64_in _ (by omega)]; omega)) (Mz rfl (WL.nil ?_)))))))
 have gH:=gG.pk [1,0,2,3,4]
 exact Fin.round (b+1,z,B,j,l,n,o,p,r,s,t,u,C, [], [],af,V,f,ai,W,X,g,aj,Y,h) ⟨rfl,rfl,rfl,rfl,rfl,trivial⟩ (I.2 ⟨gH,(show ah 6 S O a.az.ls af V f∧ah 3 T P aI ai W X∧List.map ag.abs X=g∧ah 2 U Q a.aj.ls aj Y h∧(b+1)≤d.aJ.ls.length∧j≤a.bF+(b+1)∧l≤a.aY+(b+1)∧n≤a.bE+(b+1)∧o≤a.bH+(b+1)∧p≤a.bL+(b+1)∧r≤a.aS+(b+1)∧s≤a.bB+(b+1)∧t≤a.aK+(b+1)∧u≤a.xN+(b+1)∧bi a d d.aJ.ls a.bq a.bM a.bF a.aY a.bE a.bH a.bL a.aS a.bB a.aK a.xN a.bV a.aG.aD a.aG.aI a.az.ls a.ai.ls a.aj.ls=bi a d (List.drop (b+1) d.aJ.ls) z B j l n o p r s t u C ([]) ([]) f g h from ⟨by exact K,by exact G,by exact J,by exact L,by omega,by omega,by omega,by omega,by omega,by omega,by omega,by omega,by omega,by omega,et (M) (et (congrArg (fun q=>bi a d q z B j l n o p r s t u C E F f g h) N) (et (iN Z) (et (iN ak) (et (iN au) (et (iN av) (et (iN az) (et (iN aF) (et (iN aH) (et (iN aJ) (et (iN aL) (et (iN aN) (et (iN aR) (et (iN aZ) (et (iN bq) (ip bv)))))))))))))))⟩)⟩) (by show d.aJ.ls.length - (b+1) < d.aJ.ls.length - b; omega)
 refine jF (dF bv) (sr (Kz (.bool (decide (y=14))) (An rfl ?_)))
 by_cases bI:y=14
 refine jT (dT bI) (Wp.region (Kz (.pointer (some ⟨aG,13,none⟩)) ?_))
 have gI:=R.pk [1,0,2,3,4]
 refine bz [.int .u64 0] 13 gI Tryz.sizeOf22 ?_
 intro jE gJ
 refine WL.nil (bN (bN (Fin.then (Wp.region (fw (.int .i64 ((b+1:Nat):Int)) (Yl.int (e:=IntKind.i64.wrap (((b:Nat):Int)+1)) yk (by rw [IntWalk.i64_in _ (by omega)]; omega)) (Mz rfl (WL.nil ?_)))))))
 have gK:=gJ.pk [1,0,2,3,4]
 exact Fin.round (b+1,z,B,j,l,n,o,p,r,s,0,u,C,E,F,af,V,f,ai,W,X,g,aj,Y,h) ⟨rfl,rfl,rfl,rfl,rfl,trivial⟩ (I.2 ⟨gK,by exact K,by exact G,by exact J,by exact L,by omega,by omega,by omega,by omega,by omega,by omega,by omega,by omega,by omega,by omega,et (M) (et (congrArg (fun q=>bi a d q z B j l n o p r s t u C E F f g h) N) (et (iN Z) (et (iN ak) (et (iN au) (et (iN av) (et (iN az) (et (iN aF) (et (iN aH) (et (iN aJ) (et (iN aL) (et (iN aN) (et (iN aR) (et (iN aZ) (et (iN bq) (et (iN bv) (ip bI))))))))))))))))⟩) (by show d.aJ.ls.length - (b+1) < d.aJ.ls.length - b; omega)
 refine jF (dF bI) (sr (Kz (.bool (decide (y=15))) (An rfl ?_)))
 by_cases bM:y=15
 refine jT (dT bM) (Wp.region (Kz (.pointer (some ⟨aG,14,none⟩)) ?_))
 have gL:=R.pk [1,0,2,3,4]
 refine bz [.int .u64 0] 14 gL Tryz.sizeOf22 ?_
 intro jG gM
 refine WL.nil (bN (bN (Fin.then (Wp.region (fw (.int .i64 ((b+1:Nat):Int)) (Yl.int (e:=IntKind.i64.wrap (((b:Nat):Int)+1)) yk (by rw [IntWalk.i64_in _ (by omega)]; omega)) (Mz rfl (WL.nil ?_)))))))
 have gN:=gM.pk [1,0,2,3,4]
 exact Fin.round (b+1,z,B,j,l,n,o,p,r,s,t,0,C,E,F,af,V,f,ai,W,X,g,aj,Y,h) ⟨rfl,rfl,rfl,rfl,rfl,trivial⟩ (I.2 ⟨gN,by exact K,by exact G,by exact J,by exact L,by omega,by omega,by omega,by omega,by omega,by omega,by omega,by omega,by omega,by omega,et (M) (et (congrArg (fun q=>bi a d q z B j l n o p r s t u C E F f g h) N) (et (iN Z) (et (iN ak) (et (iN au) (et (iN av) (et (iN az) (et (iN aF) (et (iN aH) (et (iN aJ) (et (iN aL) (et (iN aN) (et (iN aR) (et (iN aZ) (et (iN bq) (et (iN bv) (et (iN bI) (ip bM)))))))))))))))))⟩) (by show d.aJ.ls.length - (b+1) < d.aJ.ls.length - b; omega)
 refine jF (dF bM) (Wp.skip (bN (bN (Fin.then (Wp.region (fw (.int .i64 ((b+1:Nat):Int)) (Yl.int (e:=IntKind.i64.wrap (((b:Nat):Int)+1)) yk (by rw [IntWalk.i64_in _ (by omega)]; omega)) (Mz rfl (WL.nil ?_))))))))
 have gP:=R.pk [0,1,2,3,4]
 exact Fin.round (b+1,z,B,j,l,n,o,p,r,s,t,u,C,E,F,af,V,f,ai,W,X,g,aj,Y,h) ⟨rfl,rfl,rfl,rfl,rfl,trivial⟩ (I.2 ⟨gP,by exact K,by exact G,by exact J,by exact L,by omega,by omega,by omega,by omega,by omega,by omega,by omega,by omega,by omega,by omega,et (M) (et (congrArg (fun q=>bi a d q z B j l n o p r s t u C E F f g h) N) (et (iN Z) (et (iN ak) (et (iN au) (et (iN av) (et (iN az) (et (iN aF) (et (iN aH) (et (iN aJ) (et (iN aL) (et (iN aN) (et (iN aR) (et (iN aZ) (et (iN bq) (et (iN bv) (et (iN bI) (iN bM)))))))))))))))))⟩) (by show d.aJ.ls.length - (b+1) < d.aJ.ls.length - b; omega)
 refine jF (dF dz) (Wp.exit (Fin.thenX ?_))
 have aT:bi a d d.aJ.ls a.bq a.bM a.bF a.aY a.bE a.bH a.bL a.aS a.bB a.aK a.xN a.bV a.aG.aD a.aG.aI a.az.ls a.ai.ls a.aj.ls=(z,B,j,l,n,o,p,r,s,t,u,C,E,F,f,g,h):=et (M) (et (congrArg (fun q=>bi a d q z B j l n o p r s t u C E F f g h) (dY (ls:=d.aJ.ls) (i:=b) (by omega))) rfl)
 refine Fin.thenX (Fin.blockX (Fin.then (sr (La (bf a.ae a.bn a.dm a.aO z B j l n o p r s t u C E F af f.length V ai g.length W aj h.length Y) R 1 Tryz.isAgg29 Tryz.sizeOf29 ?_))))
 refine bz (bf a.ae a.bn a.dm a.aO z B j l n o p r s t u C E F af f.length V ai g.length W aj h.length Y) 0 R Tryz.sizeOf29 ?_
 intro jH dA
 refine nt (rt (Fin.res (lQ rfl rfl (bu.agg (cs:=(bf a.ae a.bn a.dm a.aO z B j l n o p r s t u C E F af f.length V ai g.length W aj h.length Y)) Tryz.isAgg29 Tryz.sizeOf29 ((dA.cls (i:=0) rfl).lit (k:=0) (m:=21) rfl))) ?_))
 obtain⟨bO,aP⟩:∃ q,fe (bG.mk a.ae a.bn a.dm a.aO z B j l n o p r s t u C (bC.mk E F) (Ll.mk f) (Ll.mk g) (Ll.mk h))=q:=⟨_,rfl⟩
 obtain⟨jJ,dL,bE,dN,iX⟩:=Own.enter0 dA
 refine jI (cn aD) Tryz.call24 (qX _ _ (bG.mk a.ae a.bn a.dm a.aO z B j l n o p r s t u C (bC.mk E F) (Ll.mk f) (Ll.mk g) (Ll.mk h)) af f.length V ai g.length W X aj h.length Y bO dL rfl (fun w9 h9=>ah.rds aB.len (by decide) K ((bE _ bT) w9 h9)) (show f.length≤V∧f.length≤9223372036854775807 from by omega) J rfl (fun w9 h9=>vT (dM J) (ah.rds ag.len (by decide) G (vT (dM bA).symm ((bE _ bU) w9 h9)))) (show g.length≤W∧g.length≤9223372036854775807 from by omega) (fun x9 h9=>⟨bE _ ((fun x9 h9=>bB x9 (ah.mem G h9)) x9 h9).1,((fun x9 h9=>bB x9 (ah.mem G h9)) x9 h9).2⟩) rfl (fun w9 h9=>ah.rds aA.len (by decide) L ((bE _ bV) w9 h9)) (show h.length≤Y∧h.length≤9223372036854775807 from by omega) (by first | omega | (dsimp only; omega) | (simp only [List.length_nil]; omega)) aP) ?_
 rintro _ jK ⟨rfl,dO⟩
 have bP:=dN _ _ dO
 refine Gz (.bool (!bO)) (cn aD) (fw (.bool (!bO)) (Yl.pickF rfl (cn aD) rfl) (Mz rfl ?_))
 rcases Bool.eq_false_or_eq_true (bO) with ae | ae
 refine Ga (aV a S O T P U Q) (cn ae) bP 4 Tryz.isAgg29 Tryz.sizeOf29 (Gz (.pointer (some ⟨bH,2,none⟩)) (cn ae) (Gl (.slice aO d.aJ.ls.length aS) (cn ae) bP 2 Tryz.isAgg48 ?_))
 obtain⟨bR,aU⟩:∃ q,dP a d.aJ.ls=q:=⟨_,rfl⟩
 obtain⟨jL,dQ,bF,dR,dS⟩:=Own.enter0 bP
 refine jI (cn ae) Tryz.call26 (qH _ _ a S a.az.ls.length O T a.ai.ls.length P aI U a.aj.ls.length Q aO d.aJ.ls.length aS d.aJ.ls bR dQ rfl (bF _ bT) (show a.az.ls.length≤O∧a.az.ls.length≤9223372036854775807 from by omega) bA rfl (bF _ bU) (show a.ai.ls.length≤P∧a.ai.ls.length≤9223372036854775807 from by omega) (fun x9 h9=>⟨bF _ (bB x9 h9).1,(bB x9 h9).2⟩) rfl (bF _ bV) (show a.aj.ls.length≤Q∧a.aj.ls.length≤9223372036854775807 from by omega) (dS _ 3 _ rfl bJ) rfl (by omega) (by first | omega | (dsimp only; omega) | (simp only [List.length_nil]; omega)) aU) ?_
 rintro _ jM ⟨rfl,dU⟩
 have dB:=dR _ _ dU
 refine Gz (.bool (!bR)) (cn ae) (fw (.bool (!bR)) (Yl.pickF rfl (cn ae) rfl) (nt ?_))
 rcases Bool.eq_false_or_eq_true (bR) with bg | bg
 refine jF (cn bg) (sk (Wp.seq (Wp.seq ?_)))
 have bn:=dB.pk [2,3,4]
 refine Wp.region (Kz (.pointer (some ⟨bH,0,none⟩)) (Lz (.int .i64 d.gM) bn 0 Tryz.isAgg47 (Kz (.bool (decide (d.gM=1))) (Mz rfl ?_))))
 by_cases aK:d.gM=1
 refine Gz (.pointer (some ⟨bH,1,none⟩)) (dT aK) (Gl (.int .i64 d.jo) (dT aK) bn 0 Tryz.isAgg47 (Gz (.bool (decide (d.jo=1))) (dT aK) (fw (.bool (decide (d.jo=1))) (Yl.pickT rfl (dT aK) rfl) (Mz rfl ?_))))
 by_cases aC:d.jo=1
 refine Gz (.pointer (some ⟨bK,1,none⟩)) (dT aC) (Gl (.int .i64 a.bn) (dT aC) bn 2 Tryz.isAgg3 (Gz (.pointer (some ⟨bK,2,none⟩)) (dT aC) (Gl (.int .i64 a.dm) (dT aC) bn 2 Tryz.isAgg3 (Gz (.bool (decide (a.bn=a.dm))) (dT aC) (fw (.bool (decide (a.bn=a.dm))) (Yl.pickT rfl (dT aC) rfl) (nt ?_))))))
 by_cases bS:a.bn=a.dm
 refine jT (dT bS) (Wp.seq ?_)
 have gT:=bn.pk []
 refine Wp.region (An rfl (rt (tR (rs ?_))))
 have gU:=gT.pk []
 obtain rfl:_=180:=hr.symm.trans (et (aa aM) (et (ip ax) (et (aa aQ) (et (ip ay) (et (aa aY) (et (ip aD) (et (aa aT) (et (aa aP) (et (ip ae) (et (aa aU) (et (ip bg) (et (ip aK) (et (ip aC) (ip bS))))))))))))))
 exact⟨rfl,gU⟩
 refine jF (dF bS) (sk (Wp.seq ?_))
 have gV:=bn.pk []
 refine Wp.region (An rfl (rt (rs ?_)))
 have gW:=gV.pk []
 obtain rfl:_=0:=hr.symm.trans (et (aa aM) (et (ip ax) (et (aa aQ) (et (ip ay) (et (aa aY) (et (ip aD) (et (aa aT) (et (aa aP) (et (ip ae) (et (aa aU) (et (ip bg) (et (ip aK) (et (ip aC) (iN bS))))))))))))))
 exact⟨rfl,gW⟩
 refine Sz (dF aC) (Sz (dF aC) (Sz (dF aC) (Sz (dF aC) (Sz (dF aC) (fw (.bool false) (Yl.pickF rfl (dF aC) rfl) (nt (jf (sk (Wp.seq ?_)))))))))
 have gX:=bn.pk []
 refine Wp.region (An rfl (rt (rs ?_)))
 have gY:=gX.pk []
 obtain rfl:_=0:=hr.symm.trans (et (aa aM) (et (ip ax) (et (aa aQ) (et (ip ay) (et (aa aY) (et (ip aD) (et (aa aT) (et (aa aP) (et (ip ae) (et (aa aU) (et (ip bg) (et (ip aK) (iN aC)))))))))))))
 exact⟨rfl,gY⟩
 refine Sz (dF aK) (Sz (dF aK) (Sz (dF aK) (fw (.bool false) (Yl.pickF rfl (dF aK) rfl) (Mz rfl (Sz rfl (Sz rfl (Sz rfl (Sz rfl (Sz rfl (fw (.bool false) (Yl.pickF rfl rfl rfl) (nt (jf (sk (Wp.seq ?_))))))))))))))
 have gZ:=bn.pk []
 refine Wp.region (An rfl (rt (rs ?_)))
 have ib:=gZ.pk []
 obtain rfl:_=0:=hr.symm.trans (et (aa aM) (et (ip ax) (et (aa aQ) (et (ip ay) (et (aa aY) (et (ip aD) (et (aa aT) (et (aa aP) (et (ip ae) (et (aa aU) (et (ip bg) (iN aK))))))))))))
 exact⟨rfl,ib⟩
 refine jT (cn bg) (Wp.seq ?_)
 have ic:=dB.pk [2,3,4]
 refine Wp.region (An rfl (rt (tR (rs ?_))))
 have ig:=ic.pk []
 obtain rfl:_=180:=hr.symm.trans (et (aa aM) (et (ip ax) (et (aa aQ) (et (ip ay) (et (aa aY) (et (ip aD) (et (aa aT) (et (aa aP) (et (ip ae) (et (aa aU) (dn bg)))))))))))
 exact⟨rfl,ig⟩
 refine Sz (cn ae) (Sz (cn ae) (Sz (cn ae) (Sz (cn ae) (Sz (cn ae) (fw (.bool true) (Yl.pickT rfl (cn ae) rfl) (nt (jt (Wp.seq ?_))))))))
 have ik:=bP.pk [2,3,4]
 refine Wp.region (An rfl (rt (tR (rs ?_))))
 have il:=ik.pk []
 obtain rfl:_=180:=hr.symm.trans (et (aa aM) (et (ip ax) (et (aa aQ) (et (ip ay) (et (aa aY) (et (ip aD) (et (aa aT) (et (aa aP) (dn ae)))))))))
 exact⟨rfl,il⟩
 refine Sz (cn aD) (Sz (cn aD) (Sz (cn aD) (Sz (cn aD) (Sz (cn aD) (Sz (cn aD) (fw (.bool true) (Yl.pickT rfl (cn aD) rfl) (Mz rfl (Sz rfl (Sz rfl (Sz rfl (Sz rfl (Sz rfl (fw (.bool true) (Yl.pickT rfl rfl rfl) (nt (jt (sr (An rfl (rt (tR (rs ?_))))))))))))))))))))
 have iq:=cO.pk []
 obtain rfl:_=180:=hr.symm.trans (et (aa aM) (et (ip ax) (et (aa aQ) (et (ip ay) (et (aa aY) (dn aD))))))
 exact⟨rfl,iq⟩
 refine Sz (cn ay) (Sz (cn ay) (Sz (cn ay) (Sz (cn ay) (Sz (cn ay) (Sz (cn ay) (fw (.bool true) (Yl.pickT rfl (cn ay) rfl) (Mz rfl (Sz rfl (Sz rfl (Sz rfl (Sz rfl (Sz rfl (Sz rfl (fw (.bool true) (Yl.pickT rfl rfl rfl) (Mz rfl (Sz rfl (Sz rfl (Sz rfl (Sz rfl (Sz rfl (fw (.bool true) (Yl.pickT rfl rfl rfl) (nt (jt (sr (An rfl (rt (tR (rs ?_))))))))))))))))))))))))))))
 have iw:=cz.pk []
 obtain rfl:_=180:=hr.symm.trans (et (aa aM) (et (ip ax) (et (aa aQ) (dn ay))))
 exact⟨rfl,iw⟩
 refine Sz (cn ax) (Sz (cn ax) (Sz (cn ax) (Sz (cn ax) (Sz (cn ax) (Sz (cn ax) (fw (.bool true) (Yl.pickT rfl (cn ax) rfl) (Mz rfl (Sz rfl (Sz rfl (Sz rfl (Sz rfl (Sz rfl (Sz rfl (fw (.bool true) (Yl.pickT rfl rfl rfl) (Mz rfl (Sz rfl (Sz rfl (Sz rfl (Sz rfl (Sz rfl (Sz rfl (fw (.bool true) (Yl.pickT rfl rfl rfl) (Mz rfl (Sz rfl (Sz rfl (Sz rfl (Sz rfl (Sz rfl (fw (.bool true) (Yl.pickT rfl rfl rfl) (nt (jt (sr (An rfl (rt (tR ?_)))))))))))))))))))))))))))))))))))
 refine rs ?_
 have iy:=bZ.pk []
 obtain rfl:_=180:=hr.symm.trans (et (aa aM) (dn ax))
 exact⟨rfl,iy⟩
end Go.Proofs.YtccjclalngabhaaGreat
