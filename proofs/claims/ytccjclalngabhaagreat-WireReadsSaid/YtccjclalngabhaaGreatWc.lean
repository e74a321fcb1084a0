/-
 wire: the check of a message.
-/
import Derived.Test.YtccjclalngabhaaGreatWb
namespace Go.Proofs.YtccjclalngabhaaGreat
set_option maxRecDepth 100000
open Go.RowKit
set_option linter.unusedVariables false
set_option linter.unusedSectionVars false
set_option linter.unusedSimpArgs false
def bi (u:bE) (s:dM):List Int→Int→Int→Nat→Nat→Nat→Nat→Nat→Nat→Nat→Nat→Nat→Bool→List UInt8→List UInt8→List aB→List aP→List aA→Int × Int × Nat × Nat × Nat × Nat × Nat × Nat × Nat × Nat × Nat × Bool × (List UInt8) × (List UInt8) × (List aB) × (List aP) × (List aA)
  | [],b,c,d,e,f,g,h,i,j,k,l,m,n,o,p,q,r=>(b,c,d,e,f,g,h,i,j,k,l,m,n,o,p,q,r)
  | a::t,b,c,d,e,f,g,h,i,j,k,l,m,n,o,p,q,r=>if a=0 then bi u s t b c 0 e f g h i j k l m n o p q r else if a=1 then bi u s t b c d 0 f g h i j k l m n o p q r else if a=2 then bi u s t 0 c d e f g h i j k l m n o p q r else if a=3 then bi u s t b c d e f g h i j k l m n o p ([]) r else if a=4 then bi u s t b c d e 0 g h i j k l m n o p q r else if a=5 then bi u s t b c d e f 0 h i j k l m n o p q r else if a=6 then bi u s t b c d e f g h 0 j k l m n o p q r else if a=7 then bi u s t b c d e f g h i j k l m n o ([]) q r else if a=8 then bi u s t b c d e f g h i j k l false n o p q r else if a=9 then bi u s t b c d e f g 0 i j k l m n o p q r else if a=10 then bi u s t b c d e f g h i 0 k l m n o p q r else if a=11 then bi u s t b c d e f g h i j k l m n o p q ([]) else if a=12 then bi u s t b 0 d e f g h i j k l m n o p q r else if a=13 then bi u s t b c d e f g h i j k l m ([]) ([]) p q r else if a=14 then bi u s t b c d e f g h i j 0 l m n o p q r else if a=15 then bi u s t b c d e f g h i j k 0 m n o p q r else bi u s t b c d e f g h i j k l m n o p q r
def dJ (a:bE):Int:=
 bnd (bY a.ae) fun b=>if b.2=true then bnd (bQ b.1.gN a.bq) fun e=>if e=true then bnd (bQ b.1.jA a.dw) fun f=>if f=true then bnd (bi a b.1 b.1.aJ.ls a.bu a.bO a.bG a.aY a.bF a.bH a.bL a.aV a.bB a.aK a.xN a.bV a.aG.aD a.aG.aH a.ax.ls a.ah.ls a.ai.ls) fun sLrbtbtbtL=>bnd (fe (bE.mk a.ae a.bq a.dw a.aQ sLrbtbtbtL.1 sLrbtbtbtL.2.1 sLrbtbtbtL.2.2.1 sLrbtbtbtL.2.2.2.1 sLrbtbtbtL.2.2.2.2.1 sLrbtbtbtL.2.2.2.2.2.1 sLrbtbtbtL.2.2.2.2.2.2.1 sLrbtbtbtL.2.2.2.2.2.2.2.1 sLrbtbtbtL.2.2.2.2.2.2.2.2.1 sLrbtbtbtL.2.2.2.2.2.2.2.2.2.1 sLrbtbtbtL.2.2.2.2.2.2.2.2.2.2.1 sLrbtbtbtL.2.2.2.2.2.2.2.2.2.2.2.1 (bC.mk sLrbtbtbtL.2.2.2.2.2.2.2.2.2.2.2.2.1 sLrbtbtbtL.2.2.2.2.2.2.2.2.2.2.2.2.2.1) (Ll.mk sLrbtbtbtL.2.2.2.2.2.2.2.2.2.2.2.2.2.2.1) (Ll.mk sLrbtbtbtL.2.2.2.2.2.2.2.2.2.2.2.2.2.2.2.1) (Ll.mk sLrbtbtbtL.2.2.2.2.2.2.2.2.2.2.2.2.2.2.2.2))) fun c=>if c=true then bnd (dQ a b.1.aJ.ls) fun d=>if d=true then if b.1.gN=1 then if b.1.jA=1 then if a.bq=a.dw then 180 else 0 else 0 else 0 else 180 else 180 else 180 else 180 else 180
set_option maxHeartbeats 8000000 in
theorem mF (w:World) (D:Nat→Prop) (a:bE) (S:Option Addr) (dh O:Nat) (T:Option Addr) (di P:Nat) (aI:List af) (U:Option Addr) (dm Q:Nat) (r0:Int) (H:Own w D w []) (dC:dh=a.ax.ls.length) (bT:Ro w D fun w'=>bD w' 6 S a.ax.ls.length (List.flatMap aB.cells a.ax.ls)) (iA:a.ax.ls.length≤O∧a.ax.ls.length≤9223372036854775807) (bA:List.map zh aI=a.ah.ls) (dD:di=a.ah.ls.length) (bU:Ro w D fun w'=>bD w' 3 T a.ah.ls.length (List.flatMap af.cells aI)) (iB:a.ah.ls.length≤P∧a.ah.ls.length≤9223372036854775807) (bB:∀ x ∈ aI,Ro w D (fun w'=>bD w' 2 x.ak.A x.ak.ls.length (List.flatMap aR.cells x.ak.ls))∧(x.ak.ls.length≤x.ak.c∧x.ak.ls.length≤9223372036854775807)) (dH:dm=a.ai.ls.length) (bV:Ro w D fun w'=>bD w' 2 U a.ai.ls.length (List.flatMap aA.cells a.ai.ls)) (iC:a.ai.ls.length≤Q∧a.ai.ls.length≤9223372036854775807) (jN:a.ax.ls.length≤140737488355328∧a.ah.ls.length≤140737488355328∧a.ai.ls.length≤140737488355328) (hr:dJ a=r0):
    Calls Tryz.prog 11 #[.agg (bf a.ae a.bq a.dw a.aQ a.bu a.bO a.bG a.aY a.bF a.bH a.bL a.aV a.bB a.aK a.xN a.bV a.aG.aD a.aG.aH S dh O T di P U dm Q).toArray] w (cO fun v w'=>v= .int .i64 r0∧Own w D w' []):=by
 subst dC dD dH
 have hdl0x1:=dG bA
 refine yR (args:= [.agg (aM a S O T P U Q).toArray]) Tryz.func11 rfl rfl rfl ?_
 show Wp _ _ _ [(0, .agg (aM a S O T P U Q).toArray)] _ _
 refine sr ?_
 refine dE (aM a S O T P U Q) 29 H ?_
 intro bK jO dW
 refine Ar rfl (Kz (.pointer (some ⟨bK,0,none⟩)) (Lz (.int .i64 a.ae) dW 0 Tryz.isAgg3 ?_))
 obtain⟨⟨d,bX⟩,aN⟩:∃ q:dM × Bool,bY a.ae=q:=⟨_,rfl⟩
 obtain⟨jP,dX,iZ,dY,ja⟩:=yP dW
 refine cl Tryz.call19 (lC _ _ a.ae d bX dX aN) ?_
 rintro _ jQ ⟨aQ,aV,rfl,d9,dn⟩
 have ed:=dY _ _ d9
 have jb:=ed.rowC (i:=0) rfl
 replace dn:d.aJ.ls.length≤5:=dn
 refine Mz rfl (Kz (.agg #[.int .i64 d.gN, .int .i64 d.jA, .slice aQ d.aJ.ls.length aV]) (Kz (.bool bX) ?_))
 refine dE [.int .i64 0, .int .i64 0, .slice none 0 0] 50 ed ?_
 intro bH jR iD
 refine bz [.int .i64 d.gN, .int .i64 d.jA, .slice aQ d.aJ.ls.length aV] 0 iD Tryz.sizeOf50 ?_
 intro jS bZ
 refine An rfl (yJ (sr (Mz rfl (Kz (.bool (!bX)) (Mz rfl ?_)))))
 rcases BL (bX) with ax | ax
 refine Gz (.pointer (some ⟨bH,0,none⟩)) (cn ax) (Gl (.int .i64 d.gN) (cn ax) bZ 0 Tryz.isAgg47 (Gz (.pointer (some ⟨bK,1,none⟩)) (cn ax) (Gl (.int .i64 a.bq) (cn ax) bZ 2 Tryz.isAgg3 ?_)))
 obtain⟨cu,aT⟩:∃ q,bQ d.gN a.bq=q:=⟨_,rfl⟩
 obtain⟨jU,ek,jc,eu,jd⟩:=yP bZ
 refine jM (cn ax) Tryz.call23 (lU _ _ d.gN a.bq cu ek aT) ?_
 rintro _ jV ⟨rfl,eB⟩
 have cz:=eu _ _ eB
 refine Gz (.bool (!cu)) (cn ax) (fw (.bool (!cu)) (yM rfl (cn ax) rfl) (Mz rfl ?_))
 rcases BL (cu) with ay | ay
 refine Gz (.pointer (some ⟨bH,1,none⟩)) (cn ay) (Gl (.int .i64 d.jA) (cn ay) cz 0 Tryz.isAgg47 (Gz (.pointer (some ⟨bK,2,none⟩)) (cn ay) (Gl (.int .i64 a.dw) (cn ay) cz 2 Tryz.isAgg3 ?_)))
 obtain⟨cB,aY⟩:∃ q,bQ d.jA a.dw=q:=⟨_,rfl⟩
 obtain⟨jW,eD,je,eF,jg⟩:=yP cz
 refine jM (cn ay) Tryz.call23 (lU _ _ d.jA a.dw cB eD aY) ?_
 rintro _ jX ⟨rfl,eG⟩
 have cK:=eF _ _ eG
 refine Gz (.bool (!cB)) (cn ay) (fw (.bool (!cB)) (yM rfl (cn ay) rfl) (Mz rfl ?_))
 rcases BL (cB) with aD | aD
 refine Ga (aM a S O T P U Q) (cn aD) cK 2 Tryz.isAgg29 Tryz.sizeOf29 (Gz (.pointer (some ⟨bH,2,none⟩)) (cn aD) (Gl (.slice aQ d.aJ.ls.length aV) (cn aD) cK 0 Tryz.isAgg48 ?_))
 refine zC rfl rfl (cn aD) rfl (zf Tryz.call25 rfl ?_ (fun _ _ k=>k))
 refine yR (args:= [.agg (aM a S O T P U Q).toArray, .slice aQ d.aJ.ls.length aV]) Tryz.func25 rfl rfl rfl ?_
 show Wp _ _ _ [(0, .agg (aM a S O T P U Q).toArray),(1, .slice aQ d.aJ.ls.length aV)] _ _
 refine sr ?_
 refine dE (aM a S O T P U Q) 29 cK ?_
 intro aG jY iE
 refine dE (bf 0 0 0 0 0 0 0 0 0 0 0 0 0 0 0 false ([]) ([]) none 0 0 none 0 0 none 0 0) 29 iE ?_
 intro cZ jZ iF
 refine nt (yJ (sr (Mz rfl (Kz (.int .i64 ((d.aJ.ls.length:Nat):Int)) (Mn rfl (bo ?_))))))
 have iG:=iF.pk [0,1,2,3,4]
 obtain⟨dw,dI⟩:∃ q:(Nat × Int × Int × Nat × Nat × Nat × Nat × Nat × Nat × Nat × Nat × Nat × Bool × (List UInt8) × (List UInt8) × (Option Addr) × Nat × (List aB) × (Option Addr) × Nat × (List af) × (List aP) × (Option Addr) × Nat × (List aA))→World→Prop,q=fun(i:Nat × Int × Int × Nat × Nat × Nat × Nat × Nat × Nat × Nat × Nat × Nat × Bool × (List UInt8) × (List UInt8) × (Option Addr) × Nat × (List aB) × (Option Addr) × Nat × (List af) × (List aP) × (Option Addr) × Nat × (List aA)) w'=>Own w D w' [blk cZ (bf 0 0 0 0 0 0 0 0 0 0 0 0 0 0 0 false ([]) ([]) none 0 0 none 0 0 none 0 0) 29,blk aG (bf a.ae a.bq a.dw a.aQ i.2.1 i.2.2.1 i.2.2.2.1 i.2.2.2.2.1 i.2.2.2.2.2.1 i.2.2.2.2.2.2.1 i.2.2.2.2.2.2.2.1 i.2.2.2.2.2.2.2.2.1 i.2.2.2.2.2.2.2.2.2.1 i.2.2.2.2.2.2.2.2.2.2.1 i.2.2.2.2.2.2.2.2.2.2.2.1 i.2.2.2.2.2.2.2.2.2.2.2.2.1 i.2.2.2.2.2.2.2.2.2.2.2.2.2.1 i.2.2.2.2.2.2.2.2.2.2.2.2.2.2.1 i.2.2.2.2.2.2.2.2.2.2.2.2.2.2.2.1 i.2.2.2.2.2.2.2.2.2.2.2.2.2.2.2.2.2.1.length i.2.2.2.2.2.2.2.2.2.2.2.2.2.2.2.2.1 i.2.2.2.2.2.2.2.2.2.2.2.2.2.2.2.2.2.2.1 i.2.2.2.2.2.2.2.2.2.2.2.2.2.2.2.2.2.2.2.2.2.1.length i.2.2.2.2.2.2.2.2.2.2.2.2.2.2.2.2.2.2.2.1 i.2.2.2.2.2.2.2.2.2.2.2.2.2.2.2.2.2.2.2.2.2.2.1 i.2.2.2.2.2.2.2.2.2.2.2.2.2.2.2.2.2.2.2.2.2.2.2.2.length i.2.2.2.2.2.2.2.2.2.2.2.2.2.2.2.2.2.2.2.2.2.2.2.1) 29,blk bH [.int .i64 d.gN, .int .i64 d.jA, .slice aQ d.aJ.ls.length aV] 50,row aQ d.aJ.ls.length aV (List.flatMap (eI .i64) d.aJ.ls) 93 1,blk bK (aM a S O T P U Q) 29]∧(aj 6 S O a.ax.ls i.2.2.2.2.2.2.2.2.2.2.2.2.2.2.2.1 i.2.2.2.2.2.2.2.2.2.2.2.2.2.2.2.2.1 i.2.2.2.2.2.2.2.2.2.2.2.2.2.2.2.2.2.1∧aj 3 T P aI i.2.2.2.2.2.2.2.2.2.2.2.2.2.2.2.2.2.2.1 i.2.2.2.2.2.2.2.2.2.2.2.2.2.2.2.2.2.2.2.1 i.2.2.2.2.2.2.2.2.2.2.2.2.2.2.2.2.2.2.2.2.1∧List.map zh i.2.2.2.2.2.2.2.2.2.2.2.2.2.2.2.2.2.2.2.2.1=i.2.2.2.2.2.2.2.2.2.2.2.2.2.2.2.2.2.2.2.2.2.1∧aj 2 U Q a.ai.ls i.2.2.2.2.2.2.2.2.2.2.2.2.2.2.2.2.2.2.2.2.2.2.1 i.2.2.2.2.2.2.2.2.2.2.2.2.2.2.2.2.2.2.2.2.2.2.2.1 i.2.2.2.2.2.2.2.2.2.2.2.2.2.2.2.2.2.2.2.2.2.2.2.2∧i.1≤d.aJ.ls.length∧i.2.2.2.1≤a.bG+i.1∧i.2.2.2.2.1≤a.aY+i.1∧i.2.2.2.2.2.1≤a.bF+i.1∧i.2.2.2.2.2.2.1≤a.bH+i.1∧i.2.2.2.2.2.2.2.1≤a.bL+i.1∧i.2.2.2.2.2.2.2.2.1≤a.aV+i.1∧i.2.2.2.2.2.2.2.2.2.1≤a.bB+i.1∧i.2.2.2.2.2.2.2.2.2.2.1≤a.aK+i.1∧i.2.2.2.2.2.2.2.2.2.2.2.1≤a.xN+i.1∧bi a d d.aJ.ls a.bu a.bO a.bG a.aY a.bF a.bH a.bL a.aV a.bB a.aK a.xN a.bV a.aG.aD a.aG.aH a.ax.ls a.ah.ls a.ai.ls=bi a d (List.drop i.1 d.aJ.ls) i.2.1 i.2.2.1 i.2.2.2.1 i.2.2.2.2.1 i.2.2.2.2.2.1 i.2.2.2.2.2.2.1 i.2.2.2.2.2.2.2.1 i.2.2.2.2.2.2.2.2.1 i.2.2.2.2.2.2.2.2.2.1 i.2.2.2.2.2.2.2.2.2.2.1 i.2.2.2.2.2.2.2.2.2.2.2.1 i.2.2.2.2.2.2.2.2.2.2.2.2.1 i.2.2.2.2.2.2.2.2.2.2.2.2.2.1 i.2.2.2.2.2.2.2.2.2.2.2.2.2.2.1 i.2.2.2.2.2.2.2.2.2.2.2.2.2.2.2.2.2.1 i.2.2.2.2.2.2.2.2.2.2.2.2.2.2.2.2.2.2.2.2.2.1 i.2.2.2.2.2.2.2.2.2.2.2.2.2.2.2.2.2.2.2.2.2.2.2.2):=⟨_,rfl⟩
 have I:∀ {b:Nat} {z:Int} {B:Int} {j:Nat} {l:Nat} {n:Nat} {o:Nat} {p:Nat} {r:Nat} {s:Nat} {t:Nat} {u:Nat} {C:Bool} {E:List UInt8} {F:List UInt8} {ag:Option Addr} {V:Nat} {f:List aB} {ah:Option Addr} {W:Nat} {X:List af} {g:List aP} {ai:Option Addr} {Y:Nat} {h:List aA} {w':World},dw (b,z,B,j,l,n,o,p,r,s,t,u,C,E,F,ag,V,f,ah,W,X,g,ai,Y,h) w'↔Own w D w' [blk cZ (bf 0 0 0 0 0 0 0 0 0 0 0 0 0 0 0 false ([]) ([]) none 0 0 none 0 0 none 0 0) 29,blk aG (bf a.ae a.bq a.dw a.aQ z B j l n o p r s t u C E F ag f.length V ah g.length W ai h.length Y) 29,blk bH [.int .i64 d.gN, .int .i64 d.jA, .slice aQ d.aJ.ls.length aV] 50,row aQ d.aJ.ls.length aV (List.flatMap (eI .i64) d.aJ.ls) 93 1,blk bK (aM a S O T P U Q) 29]∧aj 6 S O a.ax.ls ag V f∧aj 3 T P aI ah W X∧List.map zh X=g∧aj 2 U Q a.ai.ls ai Y h∧b≤d.aJ.ls.length∧j≤a.bG+b∧l≤a.aY+b∧n≤a.bF+b∧o≤a.bH+b∧p≤a.bL+b∧r≤a.aV+b∧s≤a.bB+b∧t≤a.aK+b∧u≤a.xN+b∧bi a d d.aJ.ls a.bu a.bO a.bG a.aY a.bF a.bH a.bL a.aV a.bB a.aK a.xN a.bV a.aG.aD a.aG.aH a.ax.ls a.ah.ls a.ai.ls=bi a d (List.drop b d.aJ.ls) z B j l n o p r s t u C E F f g h:=by intros; subst dI; exact Iff.rfl
 refine Wp.loop (fun i:Nat × Int × Int × Nat × Nat × Nat × Nat × Nat × Nat × Nat × Nat × Nat × Bool × (List UInt8) × (List UInt8) × (Option Addr) × Nat × (List aB) × (Option Addr) × Nat × (List af) × (List aP) × (Option Addr) × Nat × (List aA)=> [(9, .int .i64 ((i.1:Nat):Int)),(8, .int .i64 ((d.aJ.ls.length:Nat):Int)),(7, .slice aQ d.aJ.ls.length aV),(4, .pointer (some ⟨cZ,0,none⟩)),(2, .pointer (some ⟨aG,0,none⟩))]) dw (fun i=>d.aJ.ls.length - i.1) (0,a.bu,a.bO,a.bG,a.aY,a.bF,a.bH,a.bL,a.aV,a.bB,a.aK,a.xN,a.bV,a.aG.aD,a.aG.aH,S,O,a.ax.ls,T,P,aI,a.ah.ls,U,Q,a.ai.ls) ⟨rfl,rfl,rfl,rfl,rfl,trivial⟩ (I.2 ⟨iG,by exact(aj.refl (by omega)),by exact(aj.refl (by omega)),by exact bA,by exact(aj.refl (by omega)),by omega,by omega,by omega,by omega,by omega,by omega,by omega,by omega,by omega,by omega,rfl⟩) ?_
 rintro ⟨b,z,B,j,l,n,o,p,r,s,t,u,C,E,F,ag,V,f,ah,W,X,g,ai,Y,h⟩ jh dK
 show Wp _ _ _ [(9, .int .i64 ((b:Nat):Int)),(8, .int .i64 ((d.aJ.ls.length:Nat):Int)),(7, .slice aQ d.aJ.ls.length aV),(4, .pointer (some ⟨cZ,0,none⟩)),(2, .pointer (some ⟨aG,0,none⟩))] _ _
 obtain⟨R,K,G,J,L,iH,iI,iJ,iK,iL,iM,iO,iP,iQ,iR,M⟩:=I.1 dK
 have iT:=(K).le
 have iU:=(G).le
 have iV:=dG J
 have iW:=(L).le
 refine sr (Kz (.bool (decide (((b:Nat):Int) < ((d.aJ.ls.length:Nat):Int)))) (nt (yJ ?_)))
 by_cases dx:((b:Nat):Int) < ((d.aJ.ls.length:Nat):Int)
 obtain⟨y,bW⟩:=dV (ls:=d.aJ.ls) (i:=b) mi (by decide) (R.rds (i:=3) rfl) (by first | omega | (simp; done) | (simp; omega))
 have N:=drop_at bW
 refine jT (dT dx) (sk (yJ (bo (sr (fw (.pointer (some ⟨ab aQ,ao aQ+b *1,none⟩)) (yZ (uh) rfl rfl ((R.rds (i:=3) rfl).addr (i:=b) (by omega)) (by omega)) (fw (.int .i64 y) (y5 rfl (bn.one Tryz.isAgg93 (((R.rds (i:=3) rfl).elem mi bW (by decide)).at_ (k:=0) rfl))) (Ar rfl (Mn rfl (bo (sr (Kz (.bool (decide (y=0))) (An rfl ?_))))))))))))
 by_cases Z:y=0
 refine jT (dT Z) (yK (Kz (.pointer (some ⟨aG,6,none⟩)) ?_))
 have eH:=R.pk [1,0,2,3,4]
 refine bz [.int .u64 0] 6 eH Tryz.sizeOf22 ?_
 intro ji eO
 refine WL.nil (bN (bN (yL (yK (fw (.int .i64 ((b+1:Nat):Int)) (yS (e:=IntKind.i64.wrap (((b:Nat):Int)+1)) yk (by rw [BI _ (by omega)]; omega)) (Mz rfl (WL.nil ?_)))))))
 have eP:=eO.pk [1,0,2,3,4]
 exact yY (b+1,z,B,0,l,n,o,p,r,s,t,u,C,E,F,ag,V,f,ah,W,X,g,ai,Y,h) ⟨rfl,rfl,rfl,rfl,rfl,trivial⟩ (I.2 ⟨eP,by exact K,by exact G,by exact J,by exact L,by omega,by omega,by omega,by omega,by omega,by omega,by omega,by omega,by omega,by omega,et (M) (et (congrArg (fun q=>bi a d q z B j l n o p r s t u C E F f g h) N) (ip Z))⟩) (by show d.aJ.ls.length - (b+1) < d.aJ.ls.length - b; omega)
 refine jF (dF Z) (sr (Kz (.bool (decide (y=1))) (An rfl ?_)))
 by_cases ak:y=1
 refine jT (dT ak) (yK (Kz (.pointer (some ⟨aG,7,none⟩)) ?_))
 have eQ:=R.pk [1,0,2,3,4]
 refine bz [.int .u64 0] 7 eQ Tryz.sizeOf22 ?_
 intro jk eT
 refine WL.nil (bN (bN (yL (yK (fw (.int .i64 ((b+1:Nat):Int)) (yS (e:=IntKind.i64.wrap (((b:Nat):Int)+1)) yk (by rw [BI _ (by omega)]; omega)) (Mz rfl (WL.nil ?_)))))))
 have eU:=eT.pk [1,0,2,3,4]
 exact yY (b+1,z,B,j,0,n,o,p,r,s,t,u,C,E,F,ag,V,f,ah,W,X,g,ai,Y,h) ⟨rfl,rfl,rfl,rfl,rfl,trivial⟩ (I.2 ⟨eU,by exact K,by exact G,by exact J,by exact L,by omega,by omega,by omega,by omega,by omega,by omega,by omega,by omega,by omega,by omega,et (M) (et (congrArg (fun q=>bi a d q z B j l n o p r s t u C E F f g h) N) (et (iN Z) (ip ak)))⟩) (by show d.aJ.ls.length - (b+1) < d.aJ.ls.length - b; omega)
 refine jF (dF ak) (sr (Kz (.bool (decide (y=2))) (An rfl ?_)))
 by_cases au:y=2
 refine jT (dT au) (yK (Kz (.pointer (some ⟨aG,4,none⟩)) ?_))
 have eX:=R.pk [1,0,2,3,4]
 refine bz [.int .i64 0] 4 eX Tryz.sizeOf3 ?_
 intro jl eY
 refine WL.nil (bN (bN (yL (yK (fw (.int .i64 ((b+1:Nat):Int)) (yS (e:=IntKind.i64.wrap (((b:Nat):Int)+1)) yk (by rw [BI _ (by omega)]; omega)) (Mz rfl (WL.nil ?_)))))))
 have eZ:=eY.pk [1,0,2,3,4]
 exact yY (b+1,0,B,j,l,n,o,p,r,s,t,u,C,E,F,ag,V,f,ah,W,X,g,ai,Y,h) ⟨rfl,rfl,rfl,rfl,rfl,trivial⟩ (I.2 ⟨eZ,by exact K,by exact G,by exact J,by exact L,by omega,by omega,by omega,by omega,by omega,by omega,by omega,by omega,by omega,by omega,et (M) (et (congrArg (fun q=>bi a d q z B j l n o p r s t u C E F f g h) N) (et (iN Z) (et (iN ak) (ip au))))⟩) (by show d.aJ.ls.length - (b+1) < d.aJ.ls.length - b; omega)
 refine jF (dF au) (sr (Kz (.bool (decide (y=3))) (An rfl ?_)))
 by_cases av:y=3
 refine jT (dT av) (yK (Kz (.pointer (some ⟨aG,19,none⟩)) ?_))
 have fo:=R.pk [1,0,2,3,4]
 refine bz [.slice none 0 0] 19 fo Tryz.sizeOf26 ?_
 intro jm fq
 refine WL.nil (bN (bN (yL (yK (fw (.int .i64 ((b+1:Nat):Int)) (yS (e:=IntKind.i64.wrap (((b:Nat):Int)+1)) yk (by rw [BI _ (by omega)]; omega)) (Mz rfl (WL.nil ?_)))))))
 have fu:=fq.pk [1,0,2,3,4]
 exact yY (b+1,z,B,j,l,n,o,p,r,s,t,u,C,E,F,ag,V,f,none,0, [], [],ai,Y,h) ⟨rfl,rfl,rfl,rfl,rfl,trivial⟩ (I.2 ⟨fu,(show aj 6 S O a.ax.ls ag V f∧aj 3 T P aI none 0 ([])∧List.map zh ([])=([])∧aj 2 U Q a.ai.ls ai Y h∧(b+1)≤d.aJ.ls.length∧j≤a.bG+(b+1)∧l≤a.aY+(b+1)∧n≤a.bF+(b+1)∧o≤a.bH+(b+1)∧p≤a.bL+(b+1)∧r≤a.aV+(b+1)∧s≤a.bB+(b+1)∧t≤a.aK+(b+1)∧u≤a.xN+(b+1)∧bi a d d.aJ.ls a.bu a.bO a.bG a.aY a.bF a.bH a.bL a.aV a.bB a.aK a.xN a.bV a.aG.aD a.aG.aH a.ax.ls a.ah.ls a.ai.ls=bi a d (List.drop (b+1) d.aJ.ls) z B j l n o p r s t u C E F f ([]) h from ⟨by exact K,by exact aj.nil,by exact rfl,by exact L,by omega,by omega,by omega,by omega,by omega,by omega,by omega,by omega,by omega,by omega,et (M) (et (congrArg (fun q=>bi a d q z B j l n o p r s t u C E F f g h) N) (et (iN Z) (et (iN ak) (et (iN au) (ip av)))))⟩)⟩) (by show d.aJ.ls.length - (b+1) < d.aJ.ls.length - b; omega)
 refine jF (dF av) (sr (Kz (.bool (decide (y=4))) (An rfl ?_)))
 by_cases az:y=4
 refine jT (dT az) (yK (Kz (.pointer (some ⟨aG,8,none⟩)) ?_))
 have fA:=R.pk [1,0,2,3,4]
 refine bz [.int .u64 0] 8 fA Tryz.sizeOf22 ?_
 intro jo fB
 refine WL.nil (bN (bN (yL (yK (fw (.int .i64 ((b+1:Nat):Int)) (yS (e:=IntKind.i64.wrap (((b:Nat):Int)+1)) yk (by rw [BI _ (by omega)]; omega)) (Mz rfl (WL.nil ?_)))))))
 have fC:=fB.pk [1,0,2,3,4]
 exact yY (b+1,z,B,j,l,0,o,p,r,s,t,u,C,E,F,ag,V,f,ah,W,X,g,ai,Y,h) ⟨rfl,rfl,rfl,rfl,rfl,trivial⟩ (I.2 ⟨fC,by exact K,by exact G,by exact J,by exact L,by omega,by omega,by omega,by omega,by omega,by omega,by omega,by omega,by omega,by omega,et (M) (et (congrArg (fun q=>bi a d q z B j l n o p r s t u C E F f g h) N) (et (iN Z) (et (iN ak) (et (iN au) (et (iN av) (ip az))))))⟩) (by show d.aJ.ls.length - (b+1) < d.aJ.ls.length - b; omega)
 refine jF (dF az) (sr (Kz (.bool (decide (y=5))) (An rfl ?_)))
 by_cases aF:y=5
 refine jT (dT aF) (yK (Kz (.pointer (some ⟨aG,9,none⟩)) ?_))
 have fD:=R.pk [1,0,2,3,4]
 refine bz [.int .u64 0] 9 fD Tryz.sizeOf22 ?_
 intro jq fE
 refine WL.nil (bN (bN (yL (yK (fw (.int .i64 ((b+1:Nat):Int)) (yS (e:=IntKind.i64.wrap (((b:Nat):Int)+1)) yk (by rw [BI _ (by omega)]; omega)) (Mz rfl (WL.nil ?_)))))))
 have fF:=fE.pk [1,0,2,3,4]
 exact yY (b+1,z,B,j,l,n,0,p,r,s,t,u,C,E,F,ag,V,f,ah,W,X,g,ai,Y,h) ⟨rfl,rfl,rfl,rfl,rfl,trivial⟩ (I.2 ⟨fF,by exact K,by exact G,by exact J,by exact L,by omega,by omega,by omega,by omega,by omega,by omega,by omega,by omega,by omega,by omega,et (M) (et (congrArg (fun q=>bi a d q z B j l n o p r s t u C E F f g h) N) (et (iN Z) (et (iN ak) (et (iN au) (et (iN av) (et (iN az) (ip aF)))))))⟩) (by show d.aJ.ls.length - (b+1) < d.aJ.ls.length - b; omega)
 refine jF (dF aF) (sr (Kz (.bool (decide (y=6))) (An rfl ?_)))
 by_cases aH:y=6
 refine jT (dT aH) (yK (Kz (.pointer (some ⟨aG,11,none⟩)) ?_))
 have fG:=R.pk [1,0,2,3,4]
 refine bz [.int .u64 0] 11 fG Tryz.sizeOf22 ?_
 intro jr fH
 refine WL.nil (bN (bN (yL (yK (fw (.int .i64 ((b+1:Nat):Int)) (yS (e:=IntKind.i64.wrap (((b:Nat):Int)+1)) yk (by rw [BI _ (by omega)]; omega)) (Mz rfl (WL.nil ?_)))))))
 have fI:=fH.pk [1,0,2,3,4]
 exact yY (b+1,z,B,j,l,n,o,p,0,s,t,u,C,E,F,ag,V,f,ah,W,X,g,ai,Y,h) ⟨rfl,rfl,rfl,rfl,rfl,trivial⟩ (I.2 ⟨fI,by exact K,by exact G,by exact J,by exact L,by omega,by omega,by omega,by omega,by omega,by omega,by omega,by omega,by omega,by omega,et (M) (et (congrArg (fun q=>bi a d q z B j l n o p r s t u C E F f g h) N) (et (iN Z) (et (iN ak) (et (iN au) (et (iN av) (et (iN az) (et (iN aF) (ip aH))))))))⟩) (by show d.aJ.ls.length - (b+1) < d.aJ.ls.length - b; omega)
 refine jF (dF aH) (sr (Kz (.bool (decide (y=7))) (An rfl ?_)))
 by_cases aJ:y=7
 refine jT (dT aJ) (yK (Kz (.pointer (some ⟨aG,18,none⟩)) ?_))
 have fJ:=R.pk [1,0,2,3,4]
 refine bz [.slice none 0 0] 18 fJ Tryz.sizeOf25 ?_
 intro jv fK
 refine WL.nil (bN (bN (yL (yK (fw (.int .i64 ((b+1:Nat):Int)) (yS (e:=IntKind.i64.wrap (((b:Nat):Int)+1)) yk (by rw [BI _ (by omega)]; omega)) (Mz rfl (WL.nil ?_)))))))
 have fM:=fK.pk [1,0,2,3,4]
 exact yY (b+1,z,B,j,l,n,o,p,r,s,t,u,C,E,F,none,0, [],ah,W,X,g,ai,Y,h) ⟨rfl,rfl,rfl,rfl,rfl,trivial⟩ (I.2 ⟨fM,(show aj 6 S O a.ax.ls none 0 ([])∧aj 3 T P aI ah W X∧List.map zh X=g∧aj 2 U Q a.ai.ls ai Y h∧(b+1)≤d.aJ.ls.length∧j≤a.bG+(b+1)∧l≤a.aY+(b+1)∧n≤a.bF+(b+1)∧o≤a.bH+(b+1)∧p≤a.bL+(b+1)∧r≤a.aV+(b+1)∧s≤a.bB+(b+1)∧t≤a.aK+(b+1)∧u≤a.xN+(b+1)∧bi a d d.aJ.ls a.bu a.bO a.bG a.aY a.bF a.bH a.bL a.aV a.bB a.aK a.xN a.bV a.aG.aD a.aG.aH a.ax.ls a.ah.ls a.ai.ls=bi a d (List.drop (b+1) d.aJ.ls) z B j l n o p r s t u C E F ([]) g h from ⟨by exact aj.nil,by exact G,by exact J,by exact L,by omega,by omega,by omega,by omega,by omega,by omega,by omega,by omega,by omega,by omega,et (M) (et (congrArg (fun q=>bi a d q z B j l n o p r s t u C E F f g h) N) (et (iN Z) (et (iN ak) (et (iN au) (et (iN av) (et (iN az) (et (iN aF) (et (iN aH) (ip aJ)))))))))⟩)⟩) (by show d.aJ.ls.length - (b+1) < d.aJ.ls.length - b; omega)
 refine jF (dF aJ) (sr (Kz (.bool (decide (y=8))) (An rfl ?_)))
 by_cases aL:y=8
 refine jT (dT aL) (yK (Kz (.pointer (some ⟨aG,15,none⟩)) ?_))
 have fO:=R.pk [1,0,2,3,4]
 refine bz [.bool false] 15 fO Tryz.sizeOf4 ?_
 intro jw fP
 refine WL.nil (bN (bN (yL (yK (fw (.int .i64 ((b+1:Nat):Int)) (yS (e:=IntKind.i64.wrap (((b:Nat):Int)+1)) yk (by rw [BI _ (by omega)]; omega)) (Mz rfl (WL.nil ?_)))))))
 have fQ:=fP.pk [1,0,2,3,4]
 exact yY (b+1,z,B,j,l,n,o,p,r,s,t,u,false,E,F,ag,V,f,ah,W,X,g,ai,Y,h) ⟨rfl,rfl,rfl,rfl,rfl,trivial⟩ (I.2 ⟨fQ,(show aj 6 S O a.ax.ls ag V f∧aj 3 T P aI ah W X∧List.map zh X=g∧aj 2 U Q a.ai.ls ai Y h∧(b+1)≤d.aJ.ls.length∧j≤a.bG+(b+1)∧l≤a.aY+(b+1)∧n≤a.bF+(b+1)∧o≤a.bH+(b+1)∧p≤a.bL+(b+1)∧r≤a.aV+(b+1)∧s≤a.bB+(b+1)∧t≤a.aK+(b+1)∧u≤a.xN+(b+1)∧bi a d d.aJ.ls a.bu a.bO a.bG a.aY a.bF a.bH a.bL a.aV a.bB a.aK a.xN a.bV a.aG.aD a.aG.aH a.ax.ls a.ah.ls a.ai.ls=bi a d (List.drop (b+1) d.aJ.ls) z B j l n o p r s t u false E F f g h from ⟨by exact K,by exact G,by exact J,by exact L,by omega,by omega,by omega,by omega,by omega,by omega,by omega,by omega,by omega,by omega,et (M) (et (congrArg (fun q=>bi a d q z B j l n o p r s t u C E F f g h) N) (et (iN Z) (et (iN ak) (et (iN au) (et (iN av) (et (iN az) (et (iN aF) (et (iN aH) (et (iN aJ) (ip aL))))))))))⟩)⟩) (by show d.aJ.ls.length - (b+1) < d.aJ.ls.length - b; omega)
 refine jF (dF aL) (sr (Kz (.bool (decide (y=9))) (An rfl ?_)))
 by_cases aO:y=9
 refine jT (dT aO) (yK (Kz (.pointer (some ⟨aG,10,none⟩)) ?_))
 have fT:=R.pk [1,0,2,3,4]
 refine bz [.int .u64 0] 10 fT Tryz.sizeOf22 ?_
 intro jy fU
 refine WL.nil (bN (bN (yL (yK (fw (.int .i64 ((b+1:Nat):Int)) (yS (e:=IntKind.i64.wrap (((b:Nat):Int)+1)) yk (by rw [BI _ (by omega)]; omega)) (Mz rfl (WL.nil ?_)))))))
 have fV:=fU.pk [1,0,2,3,4]
 exact yY (b+1,z,B,j,l,n,o,0,r,s,t,u,C,E,F,ag,V,f,ah,W,X,g,ai,Y,h) ⟨rfl,rfl,rfl,rfl,rfl,trivial⟩ (I.2 ⟨fV,by exact K,by exact G,by exact J,by exact L,by omega,by omega,by omega,by omega,by omega,by omega,by omega,by omega,by omega,by omega,et (M) (et (congrArg (fun q=>bi a d q z B j l n o p r s t u C E F f g h) N) (et (iN Z) (et (iN ak) (et (iN au) (et (iN av) (et (iN az) (et (iN aF) (et (iN aH) (et (iN aJ) (et (iN aL) (ip aO)))))))))))⟩) (by show d.aJ.ls.length - (b+1) < d.aJ.ls.length - b; omega)
 refine jF (dF aO) (sr (Kz (.bool (decide (y=10))) (An rfl ?_)))
 by_cases aU:y=10
 refine jT (dT aU) (yK (Kz (.pointer (some ⟨aG,12,none⟩)) ?_))
 have fZ:=R.pk [1,0,2,3,4]
 refine bz [.int .u64 0] 12 fZ Tryz.sizeOf22 ?_
 intro jA gm
 refine WL.nil (bN (bN (yL (yK (fw (.int .i64 ((b+1:Nat):Int)) (yS (e:=IntKind.i64.wrap (((b:Nat):Int)+1)) yk (by rw [BI _ (by omega)]; omega)) (Mz rfl (WL.nil ?_)))))))
 have gp:=gm.pk [1,0,2,3,4]
 exact yY (b+1,z,B,j,l,n,o,p,r,0,t,u,C,E,F,ag,V,f,ah,W,X,g,ai,Y,h) ⟨rfl,rfl,rfl,rfl,rfl,trivial⟩ (I.2 ⟨gp,by exact K,by exact G,by exact J,by exact L,by omega,by omega,by omega,by omega,by omega,by omega,by omega,by omega,by omega,by omega,et (M) (et (congrArg (fun q=>bi a d q z B j l n o p r s t u C E F f g h) N) (et (iN Z) (et (iN ak) (et (iN au) (et (iN av) (et (iN az) (et (iN aF) (et (iN aH) (et (iN aJ) (et (iN aL) (et (iN aO) (ip aU))))))))))))⟩) (by show d.aJ.ls.length - (b+1) < d.aJ.ls.length - b; omega)
 refine jF (dF aU) (sr (Kz (.bool (decide (y=11))) (An rfl ?_)))
 by_cases aZ:y=11
 refine jT (dT aZ) (yK (Kz (.pointer (some ⟨aG,20,none⟩)) ?_))
 have gq:=R.pk [1,0,2,3,4]
 refine bz [.slice none 0 0] 20 gq Tryz.sizeOf27 ?_
 intro jB gu
 refine WL.nil (bN (bN (yL (yK (fw (.int .i64 ((b+1:Nat):Int)) (yS (e:=IntKind.i64.wrap (((b:Nat):Int)+1)) yk (by rw [BI _ (by omega)]; omega)) (Mz rfl (WL.nil ?_)))))))
 have gy:=gu.pk [1,0,2,3,4]
 exact yY (b+1,z,B,j,l,n,o,p,r,s,t,u,C,E,F,ag,V,f,ah,W,X,g,none,0, []) ⟨rfl,rfl,rfl,rfl,rfl,trivial⟩ (I.2 ⟨gy,(show aj 6 S O a.ax.ls ag V f∧aj 3 T P aI ah W X∧List.map zh X=g∧aj 2 U Q a.ai.ls none 0 ([])∧(b+1)≤d.aJ.ls.length∧j≤a.bG+(b+1)∧l≤a.aY+(b+1)∧n≤a.bF+(b+1)∧o≤a.bH+(b+1)∧p≤a.bL+(b+1)∧r≤a.aV+(b+1)∧s≤a.bB+(b+1)∧t≤a.aK+(b+1)∧u≤a.xN+(b+1)∧bi a d d.aJ.ls a.bu a.bO a.bG a.aY a.bF a.bH a.bL a.aV a.bB a.aK a.xN a.bV a.aG.aD a.aG.aH a.ax.ls a.ah.ls a.ai.ls=bi a d (List.drop (b+1) d.aJ.ls) z B j l n o p r s t u C E F f g ([]) from ⟨by exact K,by exact G,by exact J,by exact aj.nil,by omega,by omega,by omega,by omega,by omega,by omega,by omega,by omega,by omega,by omega,et (M) (et (congrArg (fun q=>bi a d q z B j l n o p r s t u C E F f g h) N) (et (iN Z) (et (iN ak) (et (iN au) (et (iN av) (et (iN az) (et (iN aF) (et (iN aH) (et (iN aJ) (et (iN aL) (et (iN aO) (et (iN aU) (ip aZ)))))))))))))⟩)⟩) (by show d.aJ.ls.length - (b+1) < d.aJ.ls.length - b; omega)
 refine jF (dF aZ) (sr (Kz (.bool (decide (y=12))) (An rfl ?_)))
 by_cases bu:y=12
 refine jT (dT bu) (yK (Kz (.pointer (some ⟨aG,5,none⟩)) ?_))
 have gz:=R.pk [1,0,2,3,4]
 refine bz [.int .i64 0] 5 gz Tryz.sizeOf3 ?_
 intro jC gB
 refine WL.nil (bN (bN (yL (yK (fw (.int .i64 ((b+1:Nat):Int)) (yS (e:=IntKind.i64.wrap (((b:Nat):Int)+1)) yk (by rw [BI _ (by omega)]; omega)) (Mz rfl (WL.nil ?_)))))))
 have gD:=gB.pk [1,0,2,3,4]
 exact yY (b+1,z,0,j,l,n,o,p,r,s,t,u,C,E,F,ag,V,f,ah,W,X,g,ai,Y,h) ⟨rfl,rfl,rfl,rfl,rfl,trivial⟩ (I.2 ⟨gD,by exact K,by exact G,by exact J,by exact L,by omega,by omega,by omega,by omega,by omega,by omega,by omega,by omega,by omega,by omega,et (M) (et (congrArg (fun q=>bi a d q z B j l n o p r s t u C E F f g h) N) (et (iN Z) (et (iN ak) (et (iN au) (et (iN av) (et (iN az) (et (iN aF) (et (iN aH) (et (iN aJ) (et (iN aL) (et (iN aO) (et (iN aU) (et (iN aZ) (ip bu))))))))))))))⟩) (by show d.aJ.ls.length - (b+1) < d.aJ.ls.length - b; omega)
 refine jF (dF bu) (sr (Kz (.bool (decide (y=13))) (An rfl ?_)))
 by_cases bv:y=13
 refine jT (dT bv) (yK (Kz (.agg #[.string ⟨List.toArray ([])⟩, .string ⟨List.toArray ([])⟩]) (Kz (.pointer (some ⟨aG,16,none⟩)) ?_)))
 have gF:=R.pk [1,0,2,3,4]
 refine bz [.string ⟨List.toArray ([])⟩, .string ⟨List.toArray ([])⟩] 16 gF Tryz.sizeOf24 ?_
 intro jD gG
 refine WL.nil (bN (bN (yL (yK (fw (.int .i64 ((b+1:Nat):Int)) (yS (e:=IntKind.i64.wrap (((b:Nat):Int)+1)) yk (by rw [BI _ (by omega)]; omega)) (Mz rfl (WL.nil ?_)))))))
 have gH:=gG.pk [1,0,2,3,4]
 exact yY (b+1,z,B,j,l,n,o,p,r,s,t,u,C, [], [],ag,V,f,ah,W,X,g,ai,Y,h) ⟨rfl,rfl,rfl,rfl,rfl,trivial⟩ (I.2 ⟨gH,(show aj 6 S O a.ax.ls ag V f∧aj 3 T P aI ah W X∧List.map zh X=g∧aj 2 U Q a.ai.ls ai Y h∧(b+1)≤d.aJ.ls.length∧j≤a.bG+(b+1)∧l≤a.aY+(b+1)∧n≤a.bF+(b+1)∧o≤a.bH+(b+1)∧p≤a.bL+(b+1)∧r≤a.aV+(b+1)∧s≤a.bB+(b+1)∧t≤a.aK+(b+1)∧u≤a.xN+(b+1)∧bi a d d.aJ.ls a.bu a.bO a.bG a.aY a.bF a.bH a.bL a.aV a.bB a.aK a.xN a.bV a.aG.aD a.aG.aH a.ax.ls a.ah.ls a.ai.ls=bi a d (List.drop (b+1) d.aJ.ls) z B j l n o p r s t u C ([]) ([]) f g h from ⟨by exact K,by exact G,by exact J,by exact L,by omega,by omega,by omega,by omega,by omega,by omega,by omega,by omega,by omega,by omega,et (M) (et (congrArg (fun q=>bi a d q z B j l n o p r s t u C E F f g h) N) (et (iN Z) (et (iN ak) (et (iN au) (et (iN av) (et (iN az) (et (iN aF) (et (iN aH) (et (iN aJ) (et (iN aL) (et (iN aO) (et (iN aU) (et (iN aZ) (et (iN bu) (ip bv)))))))))))))))⟩)⟩) (by show d.aJ.ls.length - (b+1) < d.aJ.ls.length - b; omega)
 refine jF (dF bv) (sr (Kz (.bool (decide (y=14))) (An rfl ?_)))
 by_cases bJ:y=14
 refine jT (dT bJ) (yK (Kz (.pointer (some ⟨aG,13,none⟩)) ?_))
 have gI:=R.pk [1,0,2,3,4]
 refine bz [.int .u64 0] 13 gI Tryz.sizeOf22 ?_
 intro jE gJ
 refine WL.nil (bN (bN (yL (yK (fw (.int .i64 ((b+1:Nat):Int)) (yS (e:=IntKind.i64.wrap (((b:Nat):Int)+1)) yk (by rw [BI _ (by omega)]; omega)) (Mz rfl (WL.nil ?_)))))))
 have gK:=gJ.pk [1,0,2,3,4]
 exact yY (b+1,z,B,j,l,n,o,p,r,s,0,u,C,E,F,ag,V,f,ah,W,X,g,ai,Y,h) ⟨rfl,rfl,rfl,rfl,rfl,trivial⟩ (I.2 ⟨gK,by exact K,by exact G,by exact J,by exact L,by omega,by omega,by omega,by omega,by omega,by omega,by omega,by omega,by omega,by omega,et (M) (et (congrArg (fun q=>bi a d q z B j l n o p r s t u C E F f g h) N) (et (iN Z) (et (iN ak) (et (iN au) (et (iN av) (et (iN az) (et (iN aF) (et (iN aH) (et (iN aJ) (et (iN aL) (et (iN aO) (et (iN aU) (et (iN aZ) (et (iN bu) (et (iN bv) (ip bJ))))))))))))))))⟩) (by show d.aJ.ls.length - (b+1) < d.aJ.ls.length - b; omega)
 refine jF (dF bJ) (sr (Kz (.bool (decide (y=15))) (An rfl ?_)))
 by_cases bM:y=15
 refine jT (dT bM) (yK (Kz (.pointer (some ⟨aG,14,none⟩)) ?_))
 have gL:=R.pk [1,0,2,3,4]
 refine bz [.int .u64 0] 14 gL Tryz.sizeOf22 ?_
 intro jG gM
 refine WL.nil (bN (bN (yL (yK (fw (.int .i64 ((b+1:Nat):Int)) (yS (e:=IntKind.i64.wrap (((b:Nat):Int)+1)) yk (by rw [BI _ (by omega)]; omega)) (Mz rfl (WL.nil ?_)))))))
 have gN:=gM.pk [1,0,2,3,4]
 exact yY (b+1,z,B,j,l,n,o,p,r,s,t,0,C,E,F,ag,V,f,ah,W,X,g,ai,Y,h) ⟨rfl,rfl,rfl,rfl,rfl,trivial⟩ (I.2 ⟨gN,by exact K,by exact G,by exact J,by exact L,by omega,by omega,by omega,by omega,by omega,by omega,by omega,by omega,by omega,by omega,et (M) (et (congrArg (fun q=>bi a d q z B j l n o p r s t u C E F f g h) N) (et (iN Z) (et (iN ak) (et (iN au) (et (iN av) (et (iN az) (et (iN aF) (et (iN aH) (et (iN aJ) (et (iN aL) (et (iN aO) (et (iN aU) (et (iN aZ) (et (iN bu) (et (iN bv) (et (iN bJ) (ip bM)))))))))))))))))⟩) (by show d.aJ.ls.length - (b+1) < d.aJ.ls.length - b; omega)
 refine jF (dF bM) (zm (bN (bN (yL (yK (fw (.int .i64 ((b+1:Nat):Int)) (yS (e:=IntKind.i64.wrap (((b:Nat):Int)+1)) yk (by rw [BI _ (by omega)]; omega)) (Mz rfl (WL.nil ?_))))))))
 have gP:=R.pk [0,1,2,3,4]
 exact yY (b+1,z,B,j,l,n,o,p,r,s,t,u,C,E,F,ag,V,f,ah,W,X,g,ai,Y,h) ⟨rfl,rfl,rfl,rfl,rfl,trivial⟩ (I.2 ⟨gP,by exact K,by exact G,by exact J,by exact L,by omega,by omega,by omega,by omega,by omega,by omega,by omega,by omega,by omega,by omega,et (M) (et (congrArg (fun q=>bi a d q z B j l n o p r s t u C E F f g h) N) (et (iN Z) (et (iN ak) (et (iN au) (et (iN av) (et (iN az) (et (iN aF) (et (iN aH) (et (iN aJ) (et (iN aL) (et (iN aO) (et (iN aU) (et (iN aZ) (et (iN bu) (et (iN bv) (et (iN bJ) (iN bM)))))))))))))))))⟩) (by show d.aJ.ls.length - (b+1) < d.aJ.ls.length - b; omega)
 refine jF (dF dx) (Wp.exit (yV ?_))
 have aW:bi a d d.aJ.ls a.bu a.bO a.bG a.aY a.bF a.bH a.bL a.aV a.bB a.aK a.xN a.bV a.aG.aD a.aG.aH a.ax.ls a.ah.ls a.ai.ls=(z,B,j,l,n,o,p,r,s,t,u,C,E,F,f,g,h):=et (M) (et (congrArg (fun q=>bi a d q z B j l n o p r s t u C E F f g h) (dZ (ls:=d.aJ.ls) (i:=b) (by omega))) rfl)
 refine yV (y8 (yL (sr (La (bf a.ae a.bq a.dw a.aQ z B j l n o p r s t u C E F ag f.length V ah g.length W ai h.length Y) R 1 Tryz.isAgg29 Tryz.sizeOf29 ?_))))
 refine bz (bf a.ae a.bq a.dw a.aQ z B j l n o p r s t u C E F ag f.length V ah g.length W ai h.length Y) 0 R Tryz.sizeOf29 ?_
 intro jH dA
 refine nt (rt (y9 (l6 rfl rfl (zg (cs:=(bf a.ae a.bq a.dw a.aQ z B j l n o p r s t u C E F ag f.length V ah g.length W ai h.length Y)) Tryz.isAgg29 Tryz.sizeOf29 ((dA.cls (i:=0) rfl).lit (k:=0) (m:=21) rfl))) ?_))
 obtain⟨bO,aS⟩:∃ q,fe (bE.mk a.ae a.bq a.dw a.aQ z B j l n o p r s t u C (bC.mk E F) (Ll.mk f) (Ll.mk g) (Ll.mk h))=q:=⟨_,rfl⟩
 obtain⟨jI,dL,bF,dN,iX⟩:=yP dA
 refine jM (cn aD) Tryz.call24 (rC _ _ (bE.mk a.ae a.bq a.dw a.aQ z B j l n o p r s t u C (bC.mk E F) (Ll.mk f) (Ll.mk g) (Ll.mk h)) ag f.length V ah g.length W X ai h.length Y bO dL rfl (fun w9 h9=>aj.rds aB.len (by decide) K ((bF _ bT) w9 h9)) (show f.length≤V∧f.length≤9223372036854775807 from by omega) J rfl (fun w9 h9=>wD (dG J) (aj.rds af.len (by decide) G (wD (dG bA).symm ((bF _ bU) w9 h9)))) (show g.length≤W∧g.length≤9223372036854775807 from by omega) (fun x9 h9=>⟨bF _ ((fun x9 h9=>bB x9 (Am G h9)) x9 h9).1,((fun x9 h9=>bB x9 (Am G h9)) x9 h9).2⟩) rfl (fun w9 h9=>aj.rds aA.len (by decide) L ((bF _ bV) w9 h9)) (show h.length≤Y∧h.length≤9223372036854775807 from by omega) (by first | omega | (dsimp only; omega) | (simp only [List.length_nil]; omega)) aS) ?_
 rintro _ jJ ⟨rfl,dO⟩
 have bP:=dN _ _ dO
 refine Gz (.bool (!bO)) (cn aD) (fw (.bool (!bO)) (yM rfl (cn aD) rfl) (Mz rfl ?_))
 rcases BL (bO) with ae | ae
 refine Ga (aM a S O T P U Q) (cn ae) bP 4 Tryz.isAgg29 Tryz.sizeOf29 (Gz (.pointer (some ⟨bH,2,none⟩)) (cn ae) (Gl (.slice aQ d.aJ.ls.length aV) (cn ae) bP 2 Tryz.isAgg48 ?_))
 obtain⟨bR,aX⟩:∃ q,dQ a d.aJ.ls=q:=⟨_,rfl⟩
 obtain⟨jK,dP,bG,dR,dS⟩:=yP bP
 refine jM (cn ae) Tryz.call26 (qR _ _ a S a.ax.ls.length O T a.ah.ls.length P aI U a.ai.ls.length Q aQ d.aJ.ls.length aV d.aJ.ls bR dP rfl (bG _ bT) (show a.ax.ls.length≤O∧a.ax.ls.length≤9223372036854775807 from by omega) bA rfl (bG _ bU) (show a.ah.ls.length≤P∧a.ah.ls.length≤9223372036854775807 from by omega) (fun x9 h9=>⟨bG _ (bB x9 h9).1,(bB x9 h9).2⟩) rfl (bG _ bV) (show a.ai.ls.length≤Q∧a.ai.ls.length≤9223372036854775807 from by omega) (dS _ 3 _ rfl bI) rfl (by omega) (by first | omega | (dsimp only; omega) | (simp only [List.length_nil]; omega)) aX) ?_
 rintro _ jL ⟨rfl,dU⟩
 have dB:=dR _ _ dU
 refine Gz (.bool (!bR)) (cn ae) (fw (.bool (!bR)) (yM rfl (cn ae) rfl) (nt ?_))
 rcases BL (bR) with bg | bg
 refine jF (cn bg) (sk (yJ (yJ ?_)))
 have bq:=dB.pk [2,3,4]
 refine yK (Kz (.pointer (some ⟨bH,0,none⟩)) (Lz (.int .i64 d.gN) bq 0 Tryz.isAgg47 (Kz (.bool (decide (d.gN=1))) (Mz rfl ?_))))
 by_cases aK:d.gN=1
 refine Gz (.pointer (some ⟨bH,1,none⟩)) (dT aK) (Gl (.int .i64 d.jA) (dT aK) bq 0 Tryz.isAgg47 (Gz (.bool (decide (d.jA=1))) (dT aK) (fw (.bool (decide (d.jA=1))) (yN rfl (dT aK) rfl) (Mz rfl ?_))))
 by_cases aC:d.jA=1
 refine Gz (.pointer (some ⟨bK,1,none⟩)) (dT aC) (Gl (.int .i64 a.bq) (dT aC) bq 2 Tryz.isAgg3 (Gz (.pointer (some ⟨bK,2,none⟩)) (dT aC) (Gl (.int .i64 a.dw) (dT aC) bq 2 Tryz.isAgg3 (Gz (.bool (decide (a.bq=a.dw))) (dT aC) (fw (.bool (decide (a.bq=a.dw))) (yN rfl (dT aC) rfl) (nt ?_))))))
 by_cases bS:a.bq=a.dw
 refine jT (dT bS) (yJ ?_)
 have gT:=bq.pk []
 refine yK (An rfl (rt (tR (rs ?_))))
 have gU:=gT.pk []
 obtain rfl:_=180:=hr.symm.trans (et (aa aN) (et (ip ax) (et (aa aT) (et (ip ay) (et (aa aY) (et (ip aD) (et (aa aW) (et (aa aS) (et (ip ae) (et (aa aX) (et (ip bg) (et (ip aK) (et (ip aC) (ip bS))))))))))))))
 exact⟨rfl,gU⟩
 refine jF (dF bS) (sk (yJ ?_))
 have gV:=bq.pk []
 refine yK (An rfl (rt (rs ?_)))
 have gW:=gV.pk []
 obtain rfl:_=0:=hr.symm.trans (et (aa aN) (et (ip ax) (et (aa aT) (et (ip ay) (et (aa aY) (et (ip aD) (et (aa aW) (et (aa aS) (et (ip ae) (et (aa aX) (et (ip bg) (et (ip aK) (et (ip aC) (iN bS))))))))))))))
 exact⟨rfl,gW⟩
 refine Sz (dF aC) (Sz (dF aC) (Sz (dF aC) (Sz (dF aC) (Sz (dF aC) (fw (.bool false) (yM rfl (dF aC) rfl) (nt (jf (sk (yJ ?_)))))))))
 have gX:=bq.pk []
 refine yK (An rfl (rt (rs ?_)))
 have gY:=gX.pk []
 obtain rfl:_=0:=hr.symm.trans (et (aa aN) (et (ip ax) (et (aa aT) (et (ip ay) (et (aa aY) (et (ip aD) (et (aa aW) (et (aa aS) (et (ip ae) (et (aa aX) (et (ip bg) (et (ip aK) (iN aC)))))))))))))
 exact⟨rfl,gY⟩
 refine Sz (dF aK) (Sz (dF aK) (Sz (dF aK) (fw (.bool false) (yM rfl (dF aK) rfl) (Mz rfl (Sz rfl (Sz rfl (Sz rfl (Sz rfl (Sz rfl (fw (.bool false) (yM rfl rfl rfl) (nt (jf (sk (yJ ?_))))))))))))))
 have gZ:=bq.pk []
 refine yK (An rfl (rt (rs ?_)))
 have ib:=gZ.pk []
 obtain rfl:_=0:=hr.symm.trans (et (aa aN) (et (ip ax) (et (aa aT) (et (ip ay) (et (aa aY) (et (ip aD) (et (aa aW) (et (aa aS) (et (ip ae) (et (aa aX) (et (ip bg) (iN aK))))))))))))
 exact⟨rfl,ib⟩
 refine jT (cn bg) (yJ ?_)
 have ic:=dB.pk [2,3,4]
 refine yK (An rfl (rt (tR (rs ?_))))
 have ig:=ic.pk []
 obtain rfl:_=180:=hr.symm.trans (et (aa aN) (et (ip ax) (et (aa aT) (et (ip ay) (et (aa aY) (et (ip aD) (et (aa aW) (et (aa aS) (et (ip ae) (et (aa aX) (dz bg)))))))))))
 exact⟨rfl,ig⟩
 refine Sz (cn ae) (Sz (cn ae) (Sz (cn ae) (Sz (cn ae) (Sz (cn ae) (fw (.bool true) (yN rfl (cn ae) rfl) (nt (jt (yJ ?_))))))))
 have ik:=bP.pk [2,3,4]
 refine yK (An rfl (rt (tR (rs ?_))))
 have il:=ik.pk []
 obtain rfl:_=180:=hr.symm.trans (et (aa aN) (et (ip ax) (et (aa aT) (et (ip ay) (et (aa aY) (et (ip aD) (et (aa aW) (et (aa aS) (dz ae)))))))))
 exact⟨rfl,il⟩
 refine Sz (cn aD) (Sz (cn aD) (Sz (cn aD) (Sz (cn aD) (Sz (cn aD) (Sz (cn aD) (fw (.bool true) (yN rfl (cn aD) rfl) (Mz rfl (Sz rfl (Sz rfl (Sz rfl (Sz rfl (Sz rfl (fw (.bool true) (yN rfl rfl rfl) (nt (jt (sr (An rfl (rt (tR (rs ?_))))))))))))))))))))
 have iq:=cK.pk []
 obtain rfl:_=180:=hr.symm.trans (et (aa aN) (et (ip ax) (et (aa aT) (et (ip ay) (et (aa aY) (dz aD))))))
 exact⟨rfl,iq⟩
 refine Sz (cn ay) (Sz (cn ay) (Sz (cn ay) (Sz (cn ay) (Sz (cn ay) (Sz (cn ay) (fw (.bool true) (yN rfl (cn ay) rfl) (Mz rfl (Sz rfl (Sz rfl (Sz rfl (Sz rfl (Sz rfl (Sz rfl (fw (.bool true) (yN rfl rfl rfl) (Mz rfl (Sz rfl (Sz rfl (Sz rfl (Sz rfl (Sz rfl (fw (.bool true) (yN rfl rfl rfl) (nt (jt (sr (An rfl (rt (tR (rs ?_))))))))))))))))))))))))))))
 have iw:=cz.pk []
 obtain rfl:_=180:=hr.symm.trans (et (aa aN) (et (ip ax) (et (aa aT) (dz ay))))
 exact⟨rfl,iw⟩
 refine Sz (cn ax) (Sz (cn ax) (Sz (cn ax) (Sz (cn ax) (Sz (cn ax) (Sz (cn ax) (fw (.bool true) (yN rfl (cn ax) rfl) (Mz rfl (Sz rfl (Sz rfl (Sz rfl (Sz rfl (Sz rfl (Sz rfl (fw (.bool true) (yN rfl rfl rfl) (Mz rfl (Sz rfl (Sz rfl (Sz rfl (Sz rfl (Sz rfl (Sz rfl (fw (.bool true) (yN rfl rfl rfl) (Mz rfl (Sz rfl (Sz rfl (Sz rfl (Sz rfl (Sz rfl (fw (.bool true) (yN rfl rfl rfl) (nt (jt (sr (An rfl (rt (tR ?_)))))))))))))))))))))))))))))))))))
 refine rs ?_
 have iy:=bZ.pk []
 obtain rfl:_=180:=hr.symm.trans (et (aa aN) (dz ax))
 exact⟨rfl,iy⟩
end Go.Proofs.YtccjclalngabhaaGreat
