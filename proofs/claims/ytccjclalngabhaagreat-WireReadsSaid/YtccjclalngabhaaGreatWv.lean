/-
 wire: the document's answer, messages of bytes.
-/
import Derived.Test.YtccjclalngabhaaGreatWiD
import Derived.Test.YtccjclalngabhaaGreatWu
namespace Go.Proofs.YtccjclalngabhaaGreat
set_option maxRecDepth 100000
open Go.RowKit
set_option linter.unusedVariables false
set_option linter.unusedSectionVars false
set_option linter.unusedSimpArgs false
def aN (w:Int) (s:Int) (t:Int):List UInt8→Int→Int→Nat→Nat→Nat→Nat→Nat→Nat→Nat→Nat→Nat→Bool→List UInt8→List UInt8→List aB→List aP→List aA→List UInt8→Int→Nat × Nat × Nat × Nat × Nat × (List aP) × Int × Int × Nat × Nat × Nat × Nat × Bool × (List UInt8) × (List UInt8) × (List aB) × (List aA) × (List UInt8) × Int
  | [],b,c,d,e,f,g,h,i,j,k,l,m,n,o,p,q,r,x,y=>(d,e,f,g,h,q,b,c,i,j,k,l,m,n,o,p,r,x,y)
  | u::v,b,c,d,e,f,g,h,i,j,k,l,m,n,o,p,q,r,x,y=>if((u.toNat:Nat):Int)=99 then bnd (aX (RT.mk (Ll.mk x) y)) fun z=>aN w s t v z.1 c d e f g h i j k l m n o p q r z.2.xB.ls z.2.xE else if((u.toNat:Nat):Int)=112 then bnd (aX (RT.mk (Ll.mk x) y)) fun A=>aN w s t v b A.1 d e f g h i j k l m n o p q r A.2.xB.ls A.2.xE else if((u.toNat:Nat):Int)=102 then bnd (fO (RT.mk (Ll.mk x) y)) fun B=>aN w s t v b c d e f g h i j k l B.1 n o p q r B.2.xB.ls B.2.xE else if((u.toNat:Nat):Int)=114 then bnd (bg (RT.mk (Ll.mk x) y)) fun G=>bnd (bg G.2) fun C=>aN w s t v b c d e f g h i j k l m G.1 C.1 p q r C.2.xB.ls C.2.xE else if((u.toNat:Nat):Int)=111 then bnd (jg (RT.mk (Ll.mk x) y)) fun D=>aN w s t v b c d e f g h i j k l m n o D.1 q r D.2.xB.ls D.2.xE else if((u.toNat:Nat):Int)=115 then bnd (jh (RT.mk (Ll.mk x) y)) fun E=>aN w s t v b c d e f g h i j k l m n o p E.1 r E.2.xB.ls E.2.xE else if((u.toNat:Nat):Int)=119 then bnd (ik (RT.mk (Ll.mk x) y)) fun F=>aN w s t v b c d e f g h i j k l m n o p q F.1 F.2.xB.ls F.2.xE else bnd (df (RT.mk (Ll.mk x) y)) fun a=>if((u.toNat:Nat):Int)=113 then aN w s t v b c a.1 e f g h i j k l m n o p q r a.2.xB.ls a.2.xE else if((u.toNat:Nat):Int)=98 then aN w s t v b c d a.1 f g h i j k l m n o p q r a.2.xB.ls a.2.xE else if((u.toNat:Nat):Int)=116 then aN w s t v b c d e a.1 g h i j k l m n o p q r a.2.xB.ls a.2.xE else if((u.toNat:Nat):Int)=108 then aN w s t v b c d e f a.1 h i j k l m n o p q r a.2.xB.ls a.2.xE else if((u.toNat:Nat):Int)=118 then aN w s t v b c d e f g a.1 i j k l m n o p q r a.2.xB.ls a.2.xE else if((u.toNat:Nat):Int)=101 then aN w s t v b c d e f g h a.1 j k l m n o p q r a.2.xB.ls a.2.xE else if((u.toNat:Nat):Int)=109 then aN w s t v b c d e f g h i a.1 k l m n o p q r a.2.xB.ls a.2.xE else if((u.toNat:Nat):Int)=97 then aN w s t v b c d e f g h i j a.1 l m n o p q r a.2.xB.ls a.2.xE else if((u.toNat:Nat):Int)=110 then aN w s t v b c d e f g h i j k a.1 m n o p q r a.2.xB.ls a.2.xE else default
def bS (w:Int) (s:Int) (t:Int):List UInt8→Int→Int→Nat→Nat→Nat→Nat→Nat→Nat→Nat→Nat→Nat→Bool→List UInt8→List UInt8→List aB→List aP→List aA→List UInt8→Int→Nat × Nat × Nat × Nat × Nat × (List aP) × Int × Int × Nat × Nat × Nat × Nat × Bool × (List UInt8) × (List UInt8) × (List aB) × (List aA) × (List UInt8) × Int
  | [],b,c,d,e,f,g,h,i,j,k,l,m,n,o,p,q,r,x,y=>(d,e,f,g,h,q,b,c,i,j,k,l,m,n,o,p,r,x,y)
  | u::v,b,c,d,e,f,g,h,i,j,k,l,m,n,o,p,q,r,x,y=>if((u.toNat:Nat):Int)=99 then bnd (aX (RT.mk (Ll.mk x) y)) fun z=>bS w s t v z.1 c d e f g h i j k l m n o p q r z.2.xB.ls z.2.xE else if((u.toNat:Nat):Int)=112 then bnd (aX (RT.mk (Ll.mk x) y)) fun A=>bS w s t v b A.1 d e f g h i j k l m n o p q r A.2.xB.ls A.2.xE else if((u.toNat:Nat):Int)=102 then bnd (fO (RT.mk (Ll.mk x) y)) fun B=>bS w s t v b c d e f g h i j k l B.1 n o p q r B.2.xB.ls B.2.xE else if((u.toNat:Nat):Int)=114 then bnd (bg (RT.mk (Ll.mk x) y)) fun G=>bnd (bg G.2) fun C=>bS w s t v b c d e f g h i j k l m G.1 C.1 p q r C.2.xB.ls C.2.xE else if((u.toNat:Nat):Int)=111 then bnd (jg (RT.mk (Ll.mk x) y)) fun D=>bS w s t v b c d e f g h i j k l m n o D.1 q r D.2.xB.ls D.2.xE else if((u.toNat:Nat):Int)=115 then bnd (jh (RT.mk (Ll.mk x) y)) fun E=>bS w s t v b c d e f g h i j k l m n o p E.1 r E.2.xB.ls E.2.xE else if((u.toNat:Nat):Int)=119 then bnd (ik (RT.mk (Ll.mk x) y)) fun F=>bS w s t v b c d e f g h i j k l m n o p q F.1 F.2.xB.ls F.2.xE else bnd (df (RT.mk (Ll.mk x) y)) fun a=>if((u.toNat:Nat):Int)=113 then bS w s t v b c a.1 e f g h i j k l m n o p q r a.2.xB.ls a.2.xE else if((u.toNat:Nat):Int)=98 then bS w s t v b c d a.1 f g h i j k l m n o p q r a.2.xB.ls a.2.xE else if((u.toNat:Nat):Int)=116 then bS w s t v b c d e a.1 g h i j k l m n o p q r a.2.xB.ls a.2.xE else if((u.toNat:Nat):Int)=108 then bS w s t v b c d e f a.1 h i j k l m n o p q r a.2.xB.ls a.2.xE else if((u.toNat:Nat):Int)=118 then bS w s t v b c d e f g a.1 i j k l m n o p q r a.2.xB.ls a.2.xE else if((u.toNat:Nat):Int)=101 then bS w s t v b c d e f g h a.1 j k l m n o p q r a.2.xB.ls a.2.xE else if((u.toNat:Nat):Int)=109 then bS w s t v b c d e f g h i a.1 k l m n o p q r a.2.xB.ls a.2.xE else if((u.toNat:Nat):Int)=97 then bS w s t v b c d e f g h i j a.1 l m n o p q r a.2.xB.ls a.2.xE else if((u.toNat:Nat):Int)=110 then bS w s t v b c d e f g h i j k a.1 m n o p q r a.2.xB.ls a.2.xE else default
def jS (j:RT):bE × RT:=
 bnd (aX j) fun a=>if a.2.xE=0 then bnd (dB a.1) fun i=>bnd (if i=([]) then bnd (dL a.2 11) fun f=>(f.xB.ls,f.xE) else(a.2.xB.ls,a.2.xE)) fun sJrbtbJ=>bnd (aX (RT.mk (Ll.mk sJrbtbJ.1) sJrbtbJ.2)) fun d=>bnd (aX d.2) fun b=>bnd (dB a.1) fun g=>bnd (aN a.1 d.1 b.1 g 0 0 0 0 0 0 0 0 0 0 0 false ([]) ([]) ([]) ([]) ([]) b.2.xB.ls b.2.xE) fun sLrbtbJabbbL=>(bE.mk a.1 d.1 b.1 0 sLrbtbJabbbL.2.2.2.2.2.2.1 sLrbtbJabbbL.2.2.2.2.2.2.2.1 sLrbtbJabbbL.1 sLrbtbJabbbL.2.1 sLrbtbJabbbL.2.2.1 sLrbtbJabbbL.2.2.2.1 sLrbtbJabbbL.2.2.2.2.1 sLrbtbJabbbL.2.2.2.2.2.2.2.2.1 sLrbtbJabbbL.2.2.2.2.2.2.2.2.2.1 sLrbtbJabbbL.2.2.2.2.2.2.2.2.2.2.1 sLrbtbJabbbL.2.2.2.2.2.2.2.2.2.2.2.1 sLrbtbJabbbL.2.2.2.2.2.2.2.2.2.2.2.2.1 (bC.mk sLrbtbJabbbL.2.2.2.2.2.2.2.2.2.2.2.2.2.1 sLrbtbJabbbL.2.2.2.2.2.2.2.2.2.2.2.2.2.2.1) (Ll.mk sLrbtbJabbbL.2.2.2.2.2.2.2.2.2.2.2.2.2.2.2.1) (Ll.mk sLrbtbJabbbL.2.2.2.2.2.1) (Ll.mk sLrbtbJabbbL.2.2.2.2.2.2.2.2.2.2.2.2.2.2.2.2.1),RT.mk (Ll.mk sLrbtbJabbbL.2.2.2.2.2.2.2.2.2.2.2.2.2.2.2.2.2.1) sLrbtbJabbbL.2.2.2.2.2.2.2.2.2.2.2.2.2.2.2.2.2.2) else bnd (aX a.2) fun e=>bnd (aX e.2) fun c=>bnd (dB a.1) fun h=>bnd (bS a.1 e.1 c.1 h 0 0 0 0 0 0 0 0 0 0 0 false ([]) ([]) ([]) ([]) ([]) c.2.xB.ls c.2.xE) fun sLrbfbbbL=>(bE.mk a.1 e.1 c.1 0 sLrbfbbbL.2.2.2.2.2.2.1 sLrbfbbbL.2.2.2.2.2.2.2.1 sLrbfbbbL.1 sLrbfbbbL.2.1 sLrbfbbbL.2.2.1 sLrbfbbbL.2.2.2.1 sLrbfbbbL.2.2.2.2.1 sLrbfbbbL.2.2.2.2.2.2.2.2.1 sLrbfbbbL.2.2.2.2.2.2.2.2.2.1 sLrbfbbbL.2.2.2.2.2.2.2.2.2.2.1 sLrbfbbbL.2.2.2.2.2.2.2.2.2.2.2.1 sLrbfbbbL.2.2.2.2.2.2.2.2.2.2.2.2.1 (bC.mk sLrbfbbbL.2.2.2.2.2.2.2.2.2.2.2.2.2.1 sLrbfbbbL.2.2.2.2.2.2.2.2.2.2.2.2.2.2.1) (Ll.mk sLrbfbbbL.2.2.2.2.2.2.2.2.2.2.2.2.2.2.2.1) (Ll.mk sLrbfbbbL.2.2.2.2.2.1) (Ll.mk sLrbfbbbL.2.2.2.2.2.2.2.2.2.2.2.2.2.2.2.2.1),RT.mk (Ll.mk sLrbfbbbL.2.2.2.2.2.2.2.2.2.2.2.2.2.2.2.2.2.1) sLrbfbbbL.2.2.2.2.2.2.2.2.2.2.2.2.2.2.2.2.2.2)
set_option maxHeartbeats 4000000 in
theorem sF (w:World) (D:Nat→Prop) (g0:Nat) (p0:RT) (gF:Option Addr) (fI:Nat) (r0:bE) (r1:RT) (H:Own w D w [blk g0 [.slice gF p0.xB.ls.length fI, .int .i64 p0.xE] 75]) (aG:Ro w D fun w'=>bD w' 1 gF p0.xB.ls.length (List.flatMap eB p0.xB.ls)) (wK:p0.xB.ls.length≤fI∧p0.xB.ls.length≤9223372036854775807) (hr:jS p0=(r0,r1)):
    Calls Tryz.prog 45 #[.pointer (some ⟨g0,0,none⟩)] w (cO fun v w'=> ∃ (kL:Option Addr) (kM:Nat) (kN:Option Addr) (kP:Nat) (kQ:Option Addr) (kR:Nat) (ja:List af) (B1ox0:Option Addr) (b1ox0:Nat),v= .agg (aM r0 kL kM kN kP kQ kR).toArray∧Own w D w' [row kL r0.ax.ls.length kM (List.flatMap aB.cells r0.ax.ls) 64 6,row kN r0.ah.ls.length kP (List.flatMap af.cells ja) 84 3,sepL (List.flatMap yQ ja),row kQ r0.ai.ls.length kR (List.flatMap aA.cells r0.ai.ls) 88 2,blk g0 [.slice B1ox0 r1.xB.ls.length b1ox0, .int .i64 r1.xE] 75]∧(List.map zh ja=r0.ah.ls)∧(aj 1 gF fI p0.xB.ls B1ox0 b1ox0 r1.xB.ls)∧(r0.ax.ls.length≤1000∧r0.ah.ls.length≤1000∧r0.ai.ls.length≤1000∧r0.bG≤18446744073709551615∧r0.aY≤18446744073709551615∧r0.bF≤18446744073709551615∧r0.bH≤18446744073709551615∧r0.bL≤18446744073709551615∧r0.aV≤18446744073709551615∧r0.bB≤18446744073709551615∧r0.aK≤18446744073709551615∧r0.xN≤18446744073709551615)):=by
 refine yR (args:= [.pointer (some ⟨g0,0,none⟩)]) Tryz.func45 rfl rfl rfl ?_
 show Wp _ _ _ [(0, .pointer (some ⟨g0,0,none⟩))] _ _
 refine sr ?_
 refine dE (bf 0 0 0 0 0 0 0 0 0 0 0 0 0 0 0 false ([]) ([]) none 0 0 none 0 0 none 0 0) 29 H ?_
 intro dI Cc wL
 refine ns (Kz (.agg (bf 0 0 0 0 0 0 0 0 0 0 0 0 0 0 0 false ([]) ([]) none 0 0 none 0 0 none 0 0).toArray) ?_)
 refine dE (bf 0 0 0 0 0 0 0 0 0 0 0 0 0 0 0 false ([]) ([]) none 0 0 none 0 0 none 0 0) 29 wL ?_
 intro c Ce wM
 refine bz (bf 0 0 0 0 0 0 0 0 0 0 0 0 0 0 0 false ([]) ([]) none 0 0 none 0 0 none 0 0) 0 wM Tryz.sizeOf29 ?_
 intro Cf wN
 refine ns (Mz rfl ?_)
 have wO:=wN.pk [2,0,1]
 obtain⟨⟨o,bV⟩,jb⟩:∃ q:Int × RT,aX p0=q:=⟨_,rfl⟩
 obtain⟨Cg,qo,qp,qw,zH⟩:=yT wO
 refine cl Tryz.call90 (gG _ _ g0 p0 gF fI o bV qo (qp _ aG) (show p0.xB.ls.length≤fI∧p0.xB.ls.length≤9223372036854775807 from by omega) jb) ?_
 rintro _ Ch ⟨gH,fH,rfl,qx,aJ,kS⟩
 have wP:=qw _ _ qx
 replace aJ:aj 1 gF fI p0.xB.ls gH fH bV.xB.ls:=aJ
 have zI:=(aJ).le
 replace kS:0≤o∧o≤255:=kS
 refine Kz (.pointer (some ⟨c,0,none⟩)) ?_
 have wQ:=wP.pk [1,0,2]
 refine bz [.int .i64 o] 0 wQ Tryz.sizeOf3 ?_
 intro Ci kI
 refine nt (yJ (sr (Mz rfl (Kz (.pointer (some ⟨g0,0,none⟩)) (Kz (.pointer (some ⟨g0,1,none⟩)) (Lz (.int .i64 bV.xE) kI 1 Tryz.isAgg32 (Kz (.bool (decide (bV.xE=0))) (Mz rfl ?_))))))))
 by_cases fo:bV.xE=0
 refine Gz (.pointer (some ⟨c,0,none⟩)) (dT fo) (Gl (.int .i64 o) (dT fo) kI 0 Tryz.isAgg3 ?_)
 obtain⟨gU,kT⟩:∃ q,dB o=q:=⟨_,rfl⟩
 obtain⟨Cj,qy,zJ,qz,zK⟩:=yP kI
 refine jM (dT fo) Tryz.call27 (kD _ _ o gU qy kT) ?_
 rintro _ Ck ⟨rfl,qA,kU⟩
 have qB:=qz _ _ qA
 replace kU:gU.length≤5:=kU
 refine gw (.bool (decide (gU=([])))) (dT fo) (zX rfl rfl) (fw (.bool (decide (gU=([])))) (yN rfl (dT fo) rfl) (nt ?_))
 obtain⟨qC,qD⟩:∃ q:((Option Addr) × Nat × (List UInt8) × Int)→World→Prop,q=fun(i:(Option Addr) × Nat × (List UInt8) × Int) w'=>Own w D w' [blk c (bf o 0 0 0 0 0 0 0 0 0 0 0 0 0 0 false ([]) ([]) none 0 0 none 0 0 none 0 0) 29,blk g0 [.slice i.1 i.2.2.1.length i.2.1, .int .i64 i.2.2.2] 75,blk dI (bf 0 0 0 0 0 0 0 0 0 0 0 0 0 0 0 false ([]) ([]) none 0 0 none 0 0 none 0 0) 29]∧(aj 1 gH fH bV.xB.ls i.1 i.2.1 i.2.2.1∧i.2.2.1.length≤bV.xB.ls.length∧i.2.2.1.length≤bV.xB.ls.length+1∧(if gU=([]) then bnd (dL bV 11) fun gI=>(gI.xB.ls,gI.xE) else(bV.xB.ls,bV.xE))=(i.2.2.1,i.2.2.2)):=⟨_,rfl⟩
 have jc:∀ {iY:Option Addr} {gV:Nat} {fq:List UInt8} {iZ:Int} {w':World},qC (iY,gV,fq,iZ) w'↔Own w D w' [blk c (bf o 0 0 0 0 0 0 0 0 0 0 0 0 0 0 false ([]) ([]) none 0 0 none 0 0 none 0 0) 29,blk g0 [.slice iY fq.length gV, .int .i64 iZ] 75,blk dI (bf 0 0 0 0 0 0 0 0 0 0 0 0 0 0 0 false ([]) ([]) none 0 0 none 0 0 none 0 0) 29]∧aj 1 gH fH bV.xB.ls iY gV fq∧fq.length≤bV.xB.ls.length∧fq.length≤bV.xB.ls.length+1∧(if gU=([]) then bnd (dL bV 11) fun gI=>(gI.xB.ls,gI.xE) else(bV.xB.ls,bV.xE))=(fq,iZ):=by intros; subst qD; exact Iff.rfl
 refine zD (fun i:(Option Addr) × Nat × (List UInt8) × Int=> [(3, .pointer (some ⟨c,0,none⟩)),(2, .pointer (some ⟨dI,0,none⟩)),(0, .pointer (some ⟨g0,0,none⟩))]) qC ?_ ?_
 by_cases kJ:gU=([])
 refine jT (dT kJ) (yK (Mz rfl ?_))
 have wR:=qB.pk [1,0,2]
 obtain⟨kK,kV⟩:∃ q,dL bV 11=q:=⟨_,rfl⟩
 obtain⟨Cm,qE,qF,qG,zL⟩:=yT wR
 refine cl Tryz.call46 (je _ _ g0 bV gH fH 11 kK qE (fun j n=>aj.rds ay (by decide) aJ ((qF _ aG) j n)) (show bV.xB.ls.length≤fH∧bV.xB.ls.length≤9223372036854775807 from by omega) kV) ?_
 rintro _ Cn ⟨qH,qI,rfl,qJ,ib⟩
 have wS:=qG _ _ qJ
 replace ib:aj 1 gH fH bV.xB.ls qH qI kK.xB.ls:=ib
 have zM:=(ib).le
 refine WL.nil ?_
 have wT:=wS.pk [1,0,2]
 exact zu (qH,qI,kK.xB.ls,kK.xE) ⟨rfl,rfl,rfl,trivial⟩ (jc.2 ⟨wT,by exact ib,by omega,by omega,et (ip kJ) (aa kV)⟩)
 refine jF (dF kJ) (zm ?_)
 have wU:=qB.pk [0,1,2]
 exact zu (gH,fH,bV.xB.ls,bV.xE) ⟨rfl,rfl,rfl,trivial⟩ (jc.2 ⟨wU,by exact(aj.refl (by omega)),by omega,by omega,iN kJ⟩)
 rintro ⟨iY,gV,fq,iZ⟩ Co qK
 show Wp _ _ _ [(3, .pointer (some ⟨c,0,none⟩)),(2, .pointer (some ⟨dI,0,none⟩)),(0, .pointer (some ⟨g0,0,none⟩))] _ _
 obtain⟨wV,dJ,zN,zO,qL⟩:=jc.1 qK
 have zP:=(dJ).le
 refine sr (Mz rfl ?_)
 have wW:=wV.pk [1,0,2]
 obtain⟨⟨ak,fu⟩,jd⟩:∃ q:Int × RT,aX (RT.mk (Ll.mk fq) iZ)=q:=⟨_,rfl⟩
 obtain⟨Cq,qM,qN,qO,zQ⟩:=yT wW
 refine cl Tryz.call90 (gG _ _ g0 (RT.mk (Ll.mk fq) iZ) iY gV ak fu qM (fun j n=>aj.rds ay (by decide) dJ ((fun j n=>aj.rds ay (by decide) aJ ((qN _ aG) j n)) j n)) (show fq.length≤gV∧fq.length≤9223372036854775807 from by omega) jd) ?_
 rintro _ zR ⟨ji,ic,rfl,mR,bX,jk⟩
 have qP:=qO _ _ mR
 replace bX:aj 1 iY gV fq ji ic fu.xB.ls:=bX
 have wX:=(bX).le
 replace jk:0≤ak∧ak≤255:=jk
 refine Kz (.pointer (some ⟨c,1,none⟩)) ?_
 have qQ:=qP.pk [1,0,2]
 refine bz [.int .i64 ak] 1 qQ Tryz.sizeOf3 ?_
 intro zT qR
 refine ns (Mz rfl ?_)
 have qU:=qR.pk [1,0,2]
 obtain⟨⟨au,aK⟩,jl⟩:∃ q:Int × RT,aX fu=q:=⟨_,rfl⟩
 obtain⟨zU,mU,mV,mW,wY⟩:=yT qU
 refine cl Tryz.call90 (gG _ _ g0 fu ji ic au aK mU (fun j n=>aj.rds ay (by decide) bX ((fun j n=>aj.rds ay (by decide) dJ ((fun j n=>aj.rds ay (by decide) aJ ((mV _ aG) j n)) j n)) j n)) (show fu.xB.ls.length≤ic∧fu.xB.ls.length≤9223372036854775807 from by omega) jl) ?_
 rintro _ zV ⟨dW,dX,rfl,mX,cz,jm⟩
 have qV:=mW _ _ mX
 replace cz:aj 1 ji ic fu.xB.ls dW dX aK.xB.ls:=cz
 have wZ:=(cz).le
 replace jm:0≤au∧au≤255:=jm
 refine Kz (.pointer (some ⟨c,2,none⟩)) ?_
 have qW:=qV.pk [1,0,2]
 refine bz [.int .i64 au] 2 qW Tryz.sizeOf3 ?_
 intro zW kW
 refine nt (yJ (sr (Kz (.pointer (some ⟨c,0,none⟩)) (Lz (.int .i64 o) kW 0 Tryz.isAgg3 ?_))))
 obtain⟨d,gW⟩:∃ q,dB o=q:=⟨_,rfl⟩
 obtain⟨zY,mY,xc,mZ,xe⟩:=yP kW
 refine cl Tryz.call27 (kD _ _ o d mY gW) ?_
 rintro _ zZ ⟨rfl,ng,jo⟩
 have qX:=mZ _ _ ng
 replace jo:d.length≤5:=jo
 refine WL.do rfl (zS (l:=d) Tryz.underlying9 Tryz.underlying31 Tryz.underlying5 qX rfl (by unfold maxLen; omega) ?_)
 intro dY eX ig qY
 refine Kz (.int .i64 ((d.length:Nat):Int)) (Mn rfl (bo ?_))
 have qZ:Own w D ig [row none 0 0 (List.flatMap aB.cells ([])) 64 6,row dY d.length eX (List.flatMap eB d) 5 1,blk c (bf o ak au 0 0 0 0 0 0 0 0 0 0 0 0 false ([]) ([]) none 0 0 none 0 0 none 0 0) 29,blk g0 [.slice dW aK.xB.ls.length dX, .int .i64 aK.xE] 75,blk dI (bf 0 0 0 0 0 0 0 0 0 0 0 0 0 0 0 false ([]) ([]) none 0 0 none 0 0 none 0 0) 29]:=qY.free (bP 64 6)
 have q8:Own w D ig [sepL (List.flatMap yQ ([])),row none 0 0 (List.flatMap aB.cells ([])) 64 6,row dY d.length eX (List.flatMap eB d) 5 1,blk c (bf o ak au 0 0 0 0 0 0 0 0 0 0 0 0 false ([]) ([]) none 0 0 none 0 0 none 0 0) 29,blk g0 [.slice dW aK.xB.ls.length dX, .int .i64 aK.xE] 75,blk dI (bf 0 0 0 0 0 0 0 0 0 0 0 0 0 0 0 false ([]) ([]) none 0 0 none 0 0 none 0 0) 29]:=qZ.sepNil
 have rf:Own w D ig [row none 0 0 (List.flatMap af.cells ([])) 84 3,sepL (List.flatMap yQ ([])),row none 0 0 (List.flatMap aB.cells ([])) 64 6,row dY d.length eX (List.flatMap eB d) 5 1,blk c (bf o ak au 0 0 0 0 0 0 0 0 0 0 0 0 false ([]) ([]) none 0 0 none 0 0 none 0 0) 29,blk g0 [.slice dW aK.xB.ls.length dX, .int .i64 aK.xE] 75,blk dI (bf 0 0 0 0 0 0 0 0 0 0 0 0 0 0 0 false ([]) ([]) none 0 0 none 0 0 none 0 0) 29]:=q8.free (bP 84 3)
 have rq:Own w D ig [row none 0 0 (List.flatMap aA.cells ([])) 88 2,row none 0 0 (List.flatMap af.cells ([])) 84 3,sepL (List.flatMap yQ ([])),row none 0 0 (List.flatMap aB.cells ([])) 64 6,row dY d.length eX (List.flatMap eB d) 5 1,blk c (bf o ak au 0 0 0 0 0 0 0 0 0 0 0 0 false ([]) ([]) none 0 0 none 0 0 none 0 0) 29,blk g0 [.slice dW aK.xB.ls.length dX, .int .i64 aK.xE] 75,blk dI (bf 0 0 0 0 0 0 0 0 0 0 0 0 0 0 0 false ([]) ([]) none 0 0 none 0 0 none 0 0) 29]:=rf.free (bP 88 2)
 have ru:=rq.pk [4,5,6,7,3,1,2,0]
 obtain⟨kX,ni⟩:∃ q:(Nat × Int × Int × Nat × Nat × Nat × Nat × Nat × Nat × Nat × Nat × Nat × Bool × (List UInt8) × (List UInt8) × (Option Addr) × Nat × (List aB) × (Option Addr) × Nat × (List af) × (List aP) × (Option Addr) × Nat × (List aA) × (Option Addr) × Nat × (List UInt8) × Int)→World→Prop,q=fun(i:Nat × Int × Int × Nat × Nat × Nat × Nat × Nat × Nat × Nat × Nat × Nat × Bool × (List UInt8) × (List UInt8) × (Option Addr) × Nat × (List aB) × (Option Addr) × Nat × (List af) × (List aP) × (Option Addr) × Nat × (List aA) × (Option Addr) × Nat × (List UInt8) × Int) w'=>Own w D w' [row dY d.length eX (List.flatMap eB d) 5 1,blk c (bf o ak au 0 i.2.1 i.2.2.1 i.2.2.2.1 i.2.2.2.2.1 i.2.2.2.2.2.1 i.2.2.2.2.2.2.1 i.2.2.2.2.2.2.2.1 i.2.2.2.2.2.2.2.2.1 i.2.2.2.2.2.2.2.2.2.1 i.2.2.2.2.2.2.2.2.2.2.1 i.2.2.2.2.2.2.2.2.2.2.2.1 i.2.2.2.2.2.2.2.2.2.2.2.2.1 i.2.2.2.2.2.2.2.2.2.2.2.2.2.1 i.2.2.2.2.2.2.2.2.2.2.2.2.2.2.1 i.2.2.2.2.2.2.2.2.2.2.2.2.2.2.2.1 i.2.2.2.2.2.2.2.2.2.2.2.2.2.2.2.2.2.1.length i.2.2.2.2.2.2.2.2.2.2.2.2.2.2.2.2.1 i.2.2.2.2.2.2.2.2.2.2.2.2.2.2.2.2.2.2.1 i.2.2.2.2.2.2.2.2.2.2.2.2.2.2.2.2.2.2.2.2.2.1.length i.2.2.2.2.2.2.2.2.2.2.2.2.2.2.2.2.2.2.2.1 i.2.2.2.2.2.2.2.2.2.2.2.2.2.2.2.2.2.2.2.2.2.2.1 i.2.2.2.2.2.2.2.2.2.2.2.2.2.2.2.2.2.2.2.2.2.2.2.2.1.length i.2.2.2.2.2.2.2.2.2.2.2.2.2.2.2.2.2.2.2.2.2.2.2.1) 29,blk g0 [.slice i.2.2.2.2.2.2.2.2.2.2.2.2.2.2.2.2.2.2.2.2.2.2.2.2.2.1 i.2.2.2.2.2.2.2.2.2.2.2.2.2.2.2.2.2.2.2.2.2.2.2.2.2.2.2.1.length i.2.2.2.2.2.2.2.2.2.2.2.2.2.2.2.2.2.2.2.2.2.2.2.2.2.2.1, .int .i64 i.2.2.2.2.2.2.2.2.2.2.2.2.2.2.2.2.2.2.2.2.2.2.2.2.2.2.2.2] 75,blk dI (bf 0 0 0 0 0 0 0 0 0 0 0 0 0 0 0 false ([]) ([]) none 0 0 none 0 0 none 0 0) 29,row i.2.2.2.2.2.2.2.2.2.2.2.2.2.2.2.1 i.2.2.2.2.2.2.2.2.2.2.2.2.2.2.2.2.2.1.length i.2.2.2.2.2.2.2.2.2.2.2.2.2.2.2.2.1 (List.flatMap aB.cells i.2.2.2.2.2.2.2.2.2.2.2.2.2.2.2.2.2.1) 64 6,row i.2.2.2.2.2.2.2.2.2.2.2.2.2.2.2.2.2.2.1 i.2.2.2.2.2.2.2.2.2.2.2.2.2.2.2.2.2.2.2.2.2.1.length i.2.2.2.2.2.2.2.2.2.2.2.2.2.2.2.2.2.2.2.1 (List.flatMap af.cells i.2.2.2.2.2.2.2.2.2.2.2.2.2.2.2.2.2.2.2.2.1) 84 3,sepL (List.flatMap yQ i.2.2.2.2.2.2.2.2.2.2.2.2.2.2.2.2.2.2.2.2.1),row i.2.2.2.2.2.2.2.2.2.2.2.2.2.2.2.2.2.2.2.2.2.2.1 i.2.2.2.2.2.2.2.2.2.2.2.2.2.2.2.2.2.2.2.2.2.2.2.2.1.length i.2.2.2.2.2.2.2.2.2.2.2.2.2.2.2.2.2.2.2.2.2.2.2.1 (List.flatMap aA.cells i.2.2.2.2.2.2.2.2.2.2.2.2.2.2.2.2.2.2.2.2.2.2.2.2.1) 88 2]∧(List.map zh i.2.2.2.2.2.2.2.2.2.2.2.2.2.2.2.2.2.2.2.2.1=i.2.2.2.2.2.2.2.2.2.2.2.2.2.2.2.2.2.2.2.2.2.1∧aj 1 dW dX aK.xB.ls i.2.2.2.2.2.2.2.2.2.2.2.2.2.2.2.2.2.2.2.2.2.2.2.2.2.1 i.2.2.2.2.2.2.2.2.2.2.2.2.2.2.2.2.2.2.2.2.2.2.2.2.2.2.1 i.2.2.2.2.2.2.2.2.2.2.2.2.2.2.2.2.2.2.2.2.2.2.2.2.2.2.2.1∧i.1≤d.length∧i.2.2.2.2.2.2.2.2.2.2.2.2.2.2.2.2.2.1.length≤1000∧i.2.2.2.2.2.2.2.2.2.2.2.2.2.2.2.2.2.2.2.2.2.1.length≤1000∧i.2.2.2.2.2.2.2.2.2.2.2.2.2.2.2.2.2.2.2.2.2.2.2.2.1.length≤1000∧i.2.2.2.1≤18446744073709551615∧i.2.2.2.2.1≤18446744073709551615∧i.2.2.2.2.2.1≤18446744073709551615∧i.2.2.2.2.2.2.1≤18446744073709551615∧i.2.2.2.2.2.2.2.1≤18446744073709551615∧i.2.2.2.2.2.2.2.2.1≤18446744073709551615∧i.2.2.2.2.2.2.2.2.2.1≤18446744073709551615∧i.2.2.2.2.2.2.2.2.2.2.1≤18446744073709551615∧i.2.2.2.2.2.2.2.2.2.2.2.1≤18446744073709551615∧aN o ak au d 0 0 0 0 0 0 0 0 0 0 0 false ([]) ([]) ([]) ([]) ([]) aK.xB.ls aK.xE=aN o ak au (List.drop i.1 d) i.2.1 i.2.2.1 i.2.2.2.1 i.2.2.2.2.1 i.2.2.2.2.2.1 i.2.2.2.2.2.2.1 i.2.2.2.2.2.2.2.1 i.2.2.2.2.2.2.2.2.1 i.2.2.2.2.2.2.2.2.2.1 i.2.2.2.2.2.2.2.2.2.2.1 i.2.2.2.2.2.2.2.2.2.2.2.1 i.2.2.2.2.2.2.2.2.2.2.2.2.1 i.2.2.2.2.2.2.2.2.2.2.2.2.2.1 i.2.2.2.2.2.2.2.2.2.2.2.2.2.2.1 i.2.2.2.2.2.2.2.2.2.2.2.2.2.2.2.2.2.1 i.2.2.2.2.2.2.2.2.2.2.2.2.2.2.2.2.2.2.2.2.2.1 i.2.2.2.2.2.2.2.2.2.2.2.2.2.2.2.2.2.2.2.2.2.2.2.2.1 i.2.2.2.2.2.2.2.2.2.2.2.2.2.2.2.2.2.2.2.2.2.2.2.2.2.2.2.1 i.2.2.2.2.2.2.2.2.2.2.2.2.2.2.2.2.2.2.2.2.2.2.2.2.2.2.2.2):=⟨_,rfl⟩
 have aO:∀ {a:Nat} {S:Int} {T:Int} {y:Nat} {z:Nat} {A:Nat} {B:Nat} {C:Nat} {E:Nat} {F:Nat} {G:Nat} {I:Nat} {U:Bool} {V:List UInt8} {W:List UInt8} {aR:Option Addr} {aS:Nat} {p:List aB} {aT:Option Addr} {aU:Nat} {bJ:List af} {r:List aP} {aV:Option Addr} {aW:Nat} {s:List aA} {bK:Option Addr} {aH:Nat} {g:List UInt8} {ah:Int} {w':World},kX (a,S,T,y,z,A,B,C,E,F,G,I,U,V,W,aR,aS,p,aT,aU,bJ,r,aV,aW,s,bK,aH,g,ah) w'↔Own w D w' [row dY d.length eX (List.flatMap eB d) 5 1,blk c (bf o ak au 0 S T y z A B C E F G I U V W aR p.length aS aT r.length aU aV s.length aW) 29,blk g0 [.slice bK g.length aH, .int .i64 ah] 75,blk dI (bf 0 0 0 0 0 0 0 0 0 0 0 0 0 0 0 false ([]) ([]) none 0 0 none 0 0 none 0 0) 29,row aR p.length aS (List.flatMap aB.cells p) 64 6,row aT r.length aU (List.flatMap af.cells bJ) 84 3,sepL (List.flatMap yQ bJ),row aV s.length aW (List.flatMap aA.cells s) 88 2]∧List.map zh bJ=r∧aj 1 dW dX aK.xB.ls bK aH g∧a≤d.length∧p.length≤1000∧r.length≤1000∧s.length≤1000∧y≤18446744073709551615∧z≤18446744073709551615∧A≤18446744073709551615∧B≤18446744073709551615∧C≤18446744073709551615∧E≤18446744073709551615∧F≤18446744073709551615∧G≤18446744073709551615∧I≤18446744073709551615∧aN o ak au d 0 0 0 0 0 0 0 0 0 0 0 false ([]) ([]) ([]) ([]) ([]) aK.xB.ls aK.xE=aN o ak au (List.drop a d) S T y z A B C E F G I U V W p r s g ah:=by intros; subst ni; exact Iff.rfl
 refine Wp.loop (fun i:Nat × Int × Int × Nat × Nat × Nat × Nat × Nat × Nat × Nat × Nat × Nat × Bool × (List UInt8) × (List UInt8) × (Option Addr) × Nat × (List aB) × (Option Addr) × Nat × (List af) × (List aP) × (Option Addr) × Nat × (List aA) × (Option Addr) × Nat × (List UInt8) × Int=> [(35, .int .i64 ((i.1:Nat):Int)),(34, .int .i64 ((d.length:Nat):Int)),(33, .slice dY d.length eX),(3, .pointer (some ⟨c,0,none⟩)),(2, .pointer (some ⟨dI,0,none⟩)),(0, .pointer (some ⟨g0,0,none⟩))]) kX (fun i=>d.length - i.1) (0,0,0,0,0,0,0,0,0,0,0,0,false, [], [],none,0, [],none,0, [], [],none,0, [],dW,dX,aK.xB.ls,aK.xE) ⟨rfl,rfl,rfl,rfl,rfl,rfl,trivial⟩ (aO.2 ⟨ru,(show List.map zh ([])=([])∧aj 1 dW dX aK.xB.ls dW dX aK.xB.ls∧0≤d.length∧0≤1000∧0≤1000∧0≤1000∧0≤18446744073709551615∧0≤18446744073709551615∧0≤18446744073709551615∧0≤18446744073709551615∧0≤18446744073709551615∧0≤18446744073709551615∧0≤18446744073709551615∧0≤18446744073709551615∧0≤18446744073709551615∧aN o ak au d 0 0 0 0 0 0 0 0 0 0 0 false ([]) ([]) ([]) ([]) ([]) aK.xB.ls aK.xE=aN o ak au (List.drop 0 d) 0 0 0 0 0 0 0 0 0 0 0 false ([]) ([]) ([]) ([]) ([]) aK.xB.ls aK.xE from ⟨by exact rfl,by exact(aj.refl (by omega)),by omega,by first | omega | exact BJ _,by first | omega | exact BJ _,by first | omega | exact BJ _,by omega,by omega,by omega,by omega,by omega,by omega,by omega,by omega,by omega,rfl⟩)⟩) ?_
 rintro ⟨a,S,T,y,z,A,B,C,E,F,G,I,U,V,W,aR,aS,p,aT,aU,bJ,r,aV,aW,s,bK,aH,g,ah⟩ z8 nk
 show Wp _ _ _ [(35, .int .i64 ((a:Nat):Int)),(34, .int .i64 ((d.length:Nat):Int)),(33, .slice dY d.length eX),(3, .pointer (some ⟨c,0,none⟩)),(2, .pointer (some ⟨dI,0,none⟩)),(0, .pointer (some ⟨g0,0,none⟩))] _ _
 obtain⟨dK,aY,az,xg,xh,xk,xm,xn,xq,xu,xw,xx,xy,xz,xA,xC,aZ⟩:=aO.1 nk
 have xD:=dG aY
 have xG:=(az).le
 refine sr (Kz (.bool (decide (((a:Nat):Int) < ((d.length:Nat):Int)))) (nt (yJ ?_)))
 by_cases kY:((a:Nat):Int) < ((d.length:Nat):Int)
 obtain⟨aD,gX⟩:=dV (ls:=d) (i:=a) ay (by decide) (dK.rds (i:=0) rfl) (by first | omega | (simp; done) | (simp; omega))
 have bH:=drop_at gX
 refine jT (dT kY) (sk (yJ (bo (sr (fw (.pointer (some ⟨ab dY,ao dY+a *1,none⟩)) (yZ (bW) rfl rfl ((dK.rds (i:=0) rfl).addr (i:=a) (by omega)) (by omega)) (fw (.int .u8 ((aD.toNat:Nat):Int)) (y5 rfl (bn.one Tryz.isAgg5 (((dK.rds (i:=0) rfl).elem ay gX (by decide)).at_ (k:=0) rfl))) (Ar rfl (Mn rfl (bo (sr (Kz (.bool (decide (((aD.toNat:Nat):Int)=99))) (An rfl ?_))))))))))))
 by_cases bZ:((aD.toNat:Nat):Int)=99
 refine jT (dT bZ) (yK (Mz rfl ?_))
 have ry:=dK.pk [2,0,1,3,4,5,6,7]
 obtain⟨⟨gJ,il⟩,jq⟩:∃ q:Int × RT,aX (RT.mk (Ll.mk g) ah)=q:=⟨_,rfl⟩
 obtain⟨Aa,ny,nz,nA,xH⟩:=yT ry
 refine cl Tryz.call90 (gG _ _ g0 (RT.mk (Ll.mk g) ah) bK aH gJ il ny (fun j n=>aj.rds ay (by decide) az ((fun j n=>aj.rds ay (by decide) cz ((fun j n=>aj.rds ay (by decide) bX ((fun j n=>aj.rds ay (by decide) dJ ((fun j n=>aj.rds ay (by decide) aJ ((nz _ aG) j n)) j n)) j n)) j n)) j n)) (show g.length≤aH∧g.length≤9223372036854775807 from by omega) jq) ?_
 rintro _ Ab ⟨kZ,lc,rfl,nC,fP,jr⟩
 have rz:=nA _ _ nC
 replace fP:aj 1 bK aH g kZ lc il.xB.ls:=fP
 have xI:=(fP).le
 replace jr:0≤gJ∧gJ≤255:=jr
 refine Kz (.pointer (some ⟨c,4,none⟩)) ?_
 have rA:=rz.pk [2,0,1,3,4,5,6,7]
 refine bz [.int .i64 gJ] 4 rA Tryz.sizeOf3 ?_
 intro Ac rC
 refine WL.nil (bN (bN (yL (yK (fw (.int .i64 ((a+1:Nat):Int)) (yS (e:=IntKind.i64.wrap (((a:Nat):Int)+1)) yk (by rw [BI _ (by omega)]; omega)) (Mz rfl (WL.nil ?_)))))))
 have rD:=rC.pk [2,0,1,3,4,5,6,7]
 exact yY (a+1,gJ,T,y,z,A,B,C,E,F,G,I,U,V,W,aR,aS,p,aT,aU,bJ,r,aV,aW,s,kZ,lc,il.xB.ls,il.xE) ⟨rfl,rfl,rfl,rfl,rfl,rfl,trivial⟩ (aO.2 ⟨rD,by exact aY,by exact(aj.trans az fP),by omega,by first | omega | exact BJ _,by first | omega | exact BJ _,by first | omega | exact BJ _,by omega,by omega,by omega,by omega,by omega,by omega,by omega,by omega,by omega,et (aZ) (et (congrArg (fun q=>aN o ak au q S T y z A B C E F G I U V W p r s g ah) bH) (et (ip bZ) (aa jq)))⟩) (by show d.length - (a+1) < d.length - a; omega)
 refine jF (dF bZ) (sr (Kz (.bool (decide (((aD.toNat:Nat):Int)=112))) (An rfl ?_)))
 by_cases cK:((aD.toNat:Nat):Int)=112
 refine jT (dT cK) (yK (Mz rfl ?_))
 have rE:=dK.pk [2,0,1,3,4,5,6,7]
 obtain⟨⟨gK,iq⟩,jv⟩:∃ q:Int × RT,aX (RT.mk (Ll.mk g) ah)=q:=⟨_,rfl⟩
 obtain⟨Ad,nD,nE,nG,xJ⟩:=yT rE
 refine cl Tryz.call90 (gG _ _ g0 (RT.mk (Ll.mk g) ah) bK aH gK iq nD (fun j n=>aj.rds ay (by decide) az ((fun j n=>aj.rds ay (by decide) cz ((fun j n=>aj.rds ay (by decide) bX ((fun j n=>aj.rds ay (by decide) dJ ((fun j n=>aj.rds ay (by decide) aJ ((nE _ aG) j n)) j n)) j n)) j n)) j n)) (show g.length≤aH∧g.length≤9223372036854775807 from by omega) jv) ?_
 rintro _ Ae ⟨lg,lh,rfl,nH,fQ,jw⟩
 have rF:=nG _ _ nH
 replace fQ:aj 1 bK aH g lg lh iq.xB.ls:=fQ
 have xK:=(fQ).le
 replace jw:0≤gK∧gK≤255:=jw
 refine Kz (.pointer (some ⟨c,5,none⟩)) ?_
 have rG:=rF.pk [2,0,1,3,4,5,6,7]
 refine bz [.int .i64 gK] 5 rG Tryz.sizeOf3 ?_
 intro Af rH
 refine WL.nil (bN (bN (yL (yK (fw (.int .i64 ((a+1:Nat):Int)) (yS (e:=IntKind.i64.wrap (((a:Nat):Int)+1)) yk (by rw [BI _ (by omega)]; omega)) (Mz rfl (WL.nil ?_)))))))
 have rJ:=rH.pk [2,0,1,3,4,5,6,7]
 exact yY (a+1,S,gK,y,z,A,B,C,E,F,G,I,U,V,W,aR,aS,p,aT,aU,bJ,r,aV,aW,s,lg,lh,iq.xB.ls,iq.xE) ⟨rfl,rfl,rfl,rfl,rfl,rfl,trivial⟩ (aO.2 ⟨rJ,by exact aY,by exact(aj.trans az fQ),by omega,by first | omega | exact BJ _,by first | omega | exact BJ _,by first | omega | exact BJ _,by omega,by omega,by omega,by omega,by omega,by omega,by omega,by omega,by omega,et (aZ) (et (congrArg (fun q=>aN o ak au q S T y z A B C E F G I U V W p r s g ah) bH) (et (iN bZ) (et (ip cK) (aa jv))))⟩) (by show d.length - (a+1) < d.length - a; omega)
 refine jF (dF cK) (sr (Kz (.bool (decide (((aD.toNat:Nat):Int)=102))) (An rfl ?_)))
 by_cases dn:((aD.toNat:Nat):Int)=102
 refine jT (dT dn) (yK (Mz rfl ?_))
 have rM:=dK.pk [2,0,1,3,4,5,6,7]
 obtain⟨⟨jy,iw⟩,jA⟩:∃ q:Bool × RT,fO (RT.mk (Ll.mk g) ah)=q:=⟨_,rfl⟩
 obtain⟨Ag,nI,nJ,nK,xL⟩:=yT rM
 refine cl Tryz.call91 (mI _ _ g0 (RT.mk (Ll.mk g) ah) bK aH jy iw nI (fun j n=>aj.rds ay (by decide) az ((fun j n=>aj.rds ay (by decide) cz ((fun j n=>aj.rds ay (by decide) bX ((fun j n=>aj.rds ay (by decide) dJ ((fun j n=>aj.rds ay (by decide) aJ ((nJ _ aG) j n)) j n)) j n)) j n)) j n)) (show g.length≤aH∧g.length≤9223372036854775807 from by omega) jA) ?_
 rintro _ Ah ⟨ll,lm,rfl,nL,fT⟩
 have rO:=nK _ _ nL
 replace fT:aj 1 bK aH g ll lm iw.xB.ls:=fT
 have xM:=(fT).le
 refine Kz (.pointer (some ⟨c,15,none⟩)) ?_
 have rP:=rO.pk [2,0,1,3,4,5,6,7]
 refine bz [.bool jy] 15 rP Tryz.sizeOf4 ?_
 intro Ai rQ
 refine WL.nil (bN (bN (yL (yK (fw (.int .i64 ((a+1:Nat):Int)) (yS (e:=IntKind.i64.wrap (((a:Nat):Int)+1)) yk (by rw [BI _ (by omega)]; omega)) (Mz rfl (WL.nil ?_)))))))
 have rR:=rQ.pk [2,0,1,3,4,5,6,7]
 exact yY (a+1,S,T,y,z,A,B,C,E,F,G,I,jy,V,W,aR,aS,p,aT,aU,bJ,r,aV,aW,s,ll,lm,iw.xB.ls,iw.xE) ⟨rfl,rfl,rfl,rfl,rfl,rfl,trivial⟩ (aO.2 ⟨rR,by exact aY,by exact(aj.trans az fT),by omega,by first | omega | exact BJ _,by first | omega | exact BJ _,by first | omega | exact BJ _,by omega,by omega,by omega,by omega,by omega,by omega,by omega,by omega,by omega,et (aZ) (et (congrArg (fun q=>aN o ak au q S T y z A B C E F G I U V W p r s g ah) bH) (et (iN bZ) (et (iN cK) (et (ip dn) (aa jA)))))⟩) (by show d.length - (a+1) < d.length - a; omega)
 refine jF (dF dn) (sr (Kz (.bool (decide (((aD.toNat:Nat):Int)=114))) (An rfl ?_)))
 by_cases dx:((aD.toNat:Nat):Int)=114
 refine jT (dT dx) (sr (Mz rfl ?_))
 have rT:=dK.pk [2,0,1,3,4,5,6,7]
 obtain⟨⟨jB,fA⟩,jC⟩:∃ q:(List UInt8) × RT,bg (RT.mk (Ll.mk g) ah)=q:=⟨_,rfl⟩
 obtain⟨Aj,nN,nO,nP,xO⟩:=yT rT
 refine cl Tryz.call92 (gP _ _ g0 (RT.mk (Ll.mk g) ah) bK aH jB fA nN (fun j n=>aj.rds ay (by decide) az ((fun j n=>aj.rds ay (by decide) cz ((fun j n=>aj.rds ay (by decide) bX ((fun j n=>aj.rds ay (by decide) dJ ((fun j n=>aj.rds ay (by decide) aJ ((nO _ aG) j n)) j n)) j n)) j n)) j n)) (show g.length≤aH∧g.length≤9223372036854775807 from by omega) jC) ?_
 rintro _ Ak ⟨jD,iy,rfl,nQ,fB⟩
 have rU:=nP _ _ nQ
 replace fB:aj 1 bK aH g jD iy fA.xB.ls:=fB
 have xP:=(fB).le
 refine Kz (.pointer (some ⟨c,16,none⟩)) (Kz (.pointer (some ⟨c,16,none⟩)) ?_)
 have rV:=rU.pk [2,0,1,3,4,5,6,7]
 refine bz [.string ⟨List.toArray jB⟩] 16 rV Tryz.sizeOf9 ?_
 intro Al rW
 refine nt (yK (Mz rfl ?_))
 have rX:=rW.pk [1,0,2,3,4,5,6,7]
 obtain⟨⟨jE,iA⟩,jG⟩:∃ q:(List UInt8) × RT,bg fA=q:=⟨_,rfl⟩
 obtain⟨Am,nR,nS,nT,xQ⟩:=yT rX
 refine cl Tryz.call92 (gP _ _ g0 fA jD iy jE iA nR (fun j n=>aj.rds ay (by decide) fB ((fun j n=>aj.rds ay (by decide) az ((fun j n=>aj.rds ay (by decide) cz ((fun j n=>aj.rds ay (by decide) bX ((fun j n=>aj.rds ay (by decide) dJ ((fun j n=>aj.rds ay (by decide) aJ ((nS _ aG) j n)) j n)) j n)) j n)) j n)) j n)) (show fA.xB.ls.length≤iy∧fA.xB.ls.length≤9223372036854775807 from by omega) jG) ?_
 rintro _ Ao ⟨lq,lu,rfl,nU,fU⟩
 have rY:=nT _ _ nU
 replace fU:aj 1 jD iy fA.xB.ls lq lu iA.xB.ls:=fU
 have xR:=(fU).le
 refine Kz (.pointer (some ⟨c,16,none⟩)) (Kz (.pointer (some ⟨c,17,none⟩)) ?_)
 have rZ:=rY.pk [1,0,2,3,4,5,6,7]
 refine bz [.string ⟨List.toArray jE⟩] 17 rZ Tryz.sizeOf9 ?_
 intro Ap r9
 refine WL.nil (bN (bN (yL (yK (fw (.int .i64 ((a+1:Nat):Int)) (yS (e:=IntKind.i64.wrap (((a:Nat):Int)+1)) yk (by rw [BI _ (by omega)]; omega)) (Mz rfl (WL.nil ?_)))))))
 have si:=r9.pk [2,0,1,3,4,5,6,7]
 exact yY (a+1,S,T,y,z,A,B,C,E,F,G,I,U,jB,jE,aR,aS,p,aT,aU,bJ,r,aV,aW,s,lq,lu,iA.xB.ls,iA.xE) ⟨rfl,rfl,rfl,rfl,rfl,rfl,trivial⟩ (aO.2 ⟨si,by exact aY,by exact(aj.trans (aj.trans az fB) fU),by omega,by first | omega | exact BJ _,by first | omega | exact BJ _,by first | omega | exact BJ _,by omega,by omega,by omega,by omega,by omega,by omega,by omega,by omega,by omega,et (aZ) (et (congrArg (fun q=>aN o ak au q S T y z A B C E F G I U V W p r s g ah) bH) (et (iN bZ) (et (iN cK) (et (iN dn) (et (ip dx) (et (aa jC) (aa jG)))))))⟩) (by show d.length - (a+1) < d.length - a; omega)
 refine jF (dF dx) (sr (Kz (.bool (decide (((aD.toNat:Nat):Int)=111))) (An rfl ?_)))
 by_cases dA:((aD.toNat:Nat):Int)=111
 refine jT (dT dA) (yK (Mz rfl ?_))
 have sj:=dK.pk [2,0,1,3,4,5,6,7]
 obtain⟨⟨iB,iC⟩,jH⟩:∃ q:(List aB) × RT,jg (RT.mk (Ll.mk g) ah)=q:=⟨_,rfl⟩
 obtain⟨Aq,nV,nW,nX,xS⟩:=yT sj
 refine cl Tryz.call93 (pE _ _ g0 (RT.mk (Ll.mk g) ah) bK aH iB iC nV (fun j n=>aj.rds ay (by decide) az ((fun j n=>aj.rds ay (by decide) cz ((fun j n=>aj.rds ay (by decide) bX ((fun j n=>aj.rds ay (by decide) dJ ((fun j n=>aj.rds ay (by decide) aJ ((nW _ aG) j n)) j n)) j n)) j n)) j n)) (show g.length≤aH∧g.length≤9223372036854775807 from by omega) jH) ?_
 rintro _ Au ⟨lv,lw,lC,lD,rfl,nY,fV,jI⟩
 have lF:=nX _ _ nY
 replace fV:aj 1 bK aH g lC lD iC.xB.ls:=fV
 have xU:=(fV).le
 have xV:=lF.rowC (i:=0) rfl
 replace jI:iB.length≤1000:=jI
 refine Kz (.pointer (some ⟨c,18,none⟩)) ?_
 have su:=lF.pk [3,0,1,2,4,5,6,7,8]
 refine bz [.slice lv iB.length lw] 18 su Tryz.sizeOf25 ?_
 intro Av sw
 refine WL.nil (bN (bN (yL (yK (fw (.int .i64 ((a+1:Nat):Int)) (yS (e:=IntKind.i64.wrap (((a:Nat):Int)+1)) yk (by rw [BI _ (by omega)]; omega)) (Mz rfl (WL.nil ?_)))))))
 have sD:=sw.pk [3,0,2,4,1,6,7,8]
 exact yY (a+1,S,T,y,z,A,B,C,E,F,G,I,U,V,W,lv,lw,iB,aT,aU,bJ,r,aV,aW,s,lC,lD,iC.xB.ls,iC.xE) ⟨rfl,rfl,rfl,rfl,rfl,rfl,trivial⟩ (aO.2 ⟨sD,by exact aY,by exact(aj.trans az fV),by omega,by first | omega | exact BJ _,by first | omega | exact BJ _,by first | omega | exact BJ _,by omega,by omega,by omega,by omega,by omega,by omega,by omega,by omega,by omega,et (aZ) (et (congrArg (fun q=>aN o ak au q S T y z A B C E F G I U V W p r s g ah) bH) (et (iN bZ) (et (iN cK) (et (iN dn) (et (iN dx) (et (ip dA) (aa jH)))))))⟩) (by show d.length - (a+1) < d.length - a; omega)
 refine jF (dF dA) (sr (Kz (.bool (decide (((aD.toNat:Nat):Int)=115))) (An rfl ?_)))
 by_cases dM:((aD.toNat:Nat):Int)=115
 refine jT (dT dM) (yK (Mz rfl ?_))
 have sG:=dK.pk [2,0,1,3,4,5,6,7]
 obtain⟨⟨iD,iE⟩,jJ⟩:∃ q:(List aP) × RT,jh (RT.mk (Ll.mk g) ah)=q:=⟨_,rfl⟩
 obtain⟨Aw,nZ,og,oh,xW⟩:=yT sG
 refine cl Tryz.call94 (pF _ _ g0 (RT.mk (Ll.mk g) ah) bK aH iD iE nZ (fun j n=>aj.rds ay (by decide) az ((fun j n=>aj.rds ay (by decide) cz ((fun j n=>aj.rds ay (by decide) bX ((fun j n=>aj.rds ay (by decide) dJ ((fun j n=>aj.rds ay (by decide) aJ ((og _ aG) j n)) j n)) j n)) j n)) j n)) (show g.length≤aH∧g.length≤9223372036854775807 from by omega) jJ) ?_
 rintro _ Ay ⟨lG,lH,sH,lI,lJ,rfl,ol,jK,fZ,jL⟩
 have lK:=oh _ _ ol
 replace fZ:aj 1 bK aH g lI lJ iE.xB.ls:=fZ
 have xX:=(fZ).le
 have xY:=dG jK
 have xZ:=lK.rowC (i:=0) rfl
 replace jL:iD.length≤1000:=jL
 refine Kz (.pointer (some ⟨c,19,none⟩)) ?_
 have sI:=lK.pk [4,0,1,2,3,5,6,7,8,9]
 refine bz [.slice lG iD.length lH] 19 sI Tryz.sizeOf26 ?_
 intro Az sJ
 refine WL.nil (bN (bN (yL (yK (fw (.int .i64 ((a+1:Nat):Int)) (yS (e:=IntKind.i64.wrap (((a:Nat):Int)+1)) yk (by rw [BI _ (by omega)]; omega)) (Mz rfl (WL.nil ?_)))))))
 have sK:=sJ.pk [4,0,3,5,6,1,2,9]
 exact yY (a+1,S,T,y,z,A,B,C,E,F,G,I,U,V,W,aR,aS,p,lG,lH,sH,iD,aV,aW,s,lI,lJ,iE.xB.ls,iE.xE) ⟨rfl,rfl,rfl,rfl,rfl,rfl,trivial⟩ (aO.2 ⟨sK,by exact jK,by exact(aj.trans az fZ),by omega,by first | omega | exact BJ _,by first | omega | exact BJ _,by first | omega | exact BJ _,by omega,by omega,by omega,by omega,by omega,by omega,by omega,by omega,by omega,et (aZ) (et (congrArg (fun q=>aN o ak au q S T y z A B C E F G I U V W p r s g ah) bH) (et (iN bZ) (et (iN cK) (et (iN dn) (et (iN dx) (et (iN dA) (et (ip dM) (aa jJ))))))))⟩) (by show d.length - (a+1) < d.length - a; omega)
 refine jF (dF dM) (sr (Kz (.bool (decide (((aD.toNat:Nat):Int)=119))) (An rfl ?_)))
 by_cases dQ:((aD.toNat:Nat):Int)=119
 refine jT (dT dQ) (yK (Mz rfl ?_))
 have sM:=dK.pk [2,0,1,3,4,5,6,7]
 obtain⟨⟨iF,iG⟩,jN⟩:∃ q:(List aA) × RT,ik (RT.mk (Ll.mk g) ah)=q:=⟨_,rfl⟩
 obtain⟨AA,om,oo,oq,x8⟩:=yT sM
 refine cl Tryz.call95 (nM _ _ g0 (RT.mk (Ll.mk g) ah) bK aH iF iG om (fun j n=>aj.rds ay (by decide) az ((fun j n=>aj.rds ay (by decide) cz ((fun j n=>aj.rds ay (by decide) bX ((fun j n=>aj.rds ay (by decide) dJ ((fun j n=>aj.rds ay (by decide) aJ ((oo _ aG) j n)) j n)) j n)) j n)) j n)) (show g.length≤aH∧g.length≤9223372036854775807 from by omega) jN) ?_
 rintro _ AB ⟨lL,lM,lN,lQ,rfl,ou,gm,jO⟩
 have lS:=oq _ _ ou
 replace gm:aj 1 bK aH g lN lQ iG.xB.ls:=gm
 have x9:=(gm).le
 have yc:=lS.rowC (i:=0) rfl
 replace jO:iF.length≤1000:=jO
 refine Kz (.pointer (some ⟨c,20,none⟩)) ?_
 have sN:=lS.pk [3,0,1,2,4,5,6,7,8]
 refine bz [.slice lL iF.length lM] 20 sN Tryz.sizeOf27 ?_
 intro AC sO
 refine WL.nil (bN (bN (yL (yK (fw (.int .i64 ((a+1:Nat):Int)) (yS (e:=IntKind.i64.wrap (((a:Nat):Int)+1)) yk (by rw [BI _ (by omega)]; omega)) (Mz rfl (WL.nil ?_)))))))
 have sP:=sO.pk [3,0,2,4,5,6,7,1]
 exact yY (a+1,S,T,y,z,A,B,C,E,F,G,I,U,V,W,aR,aS,p,aT,aU,bJ,r,lL,lM,iF,lN,lQ,iG.xB.ls,iG.xE) ⟨rfl,rfl,rfl,rfl,rfl,rfl,trivial⟩ (aO.2 ⟨sP,by exact aY,by exact(aj.trans az gm),by omega,by first | omega | exact BJ _,by first | omega | exact BJ _,by first | omega | exact BJ _,by omega,by omega,by omega,by omega,by omega,by omega,by omega,by omega,by omega,et (aZ) (et (congrArg (fun q=>aN o ak au q S T y z A B C E F G I U V W p r s g ah) bH) (et (iN bZ) (et (iN cK) (et (iN dn) (et (iN dx) (et (iN dA) (et (iN dM) (et (ip dQ) (aa jN)))))))))⟩) (by show d.length - (a+1) < d.length - a; omega)
 refine jF (dF dQ) (sr (Mz rfl ?_))
 have sQ:=dK.pk [2,0,1,3,4,5,6,7]
 obtain⟨⟨bO,bQ⟩,dD⟩:∃ q:Nat × RT,df (RT.mk (Ll.mk g) ah)=q:=⟨_,rfl⟩
 obtain⟨AJ,ow,oz,oC,yf⟩:=yT sQ
 refine cl Tryz.call96 (nu _ _ g0 (RT.mk (Ll.mk g) ah) bK aH bO bQ ow (fun j n=>aj.rds ay (by decide) az ((fun j n=>aj.rds ay (by decide) cz ((fun j n=>aj.rds ay (by decide) bX ((fun j n=>aj.rds ay (by decide) dJ ((fun j n=>aj.rds ay (by decide) aJ ((oz _ aG) j n)) j n)) j n)) j n)) j n)) (show g.length≤aH∧g.length≤9223372036854775807 from by omega) dD) ?_
 rintro _ AL ⟨d9,ed,rfl,oD,di,jP⟩
 have eP:=oC _ _ oD
 replace di:aj 1 bK aH g d9 ed bQ.xB.ls:=di
 have yg:=(di).le
 replace jP:bO≤18446744073709551615:=jP
 refine An rfl (yK (Mz rfl ?_))
 refine WL.do rfl (zf Tryz.call47 rfl ?_ (fun _ _ k=>k))
 refine yR (args:= [.pointer (some ⟨c,0,none⟩), .int .u8 ((aD.toNat:Nat):Int)]) Tryz.func47 rfl rfl rfl ?_
 show Wp _ _ _ [(0, .pointer (some ⟨c,0,none⟩)),(1, .int .u8 ((aD.toNat:Nat):Int))] _ _
 refine sr (An rfl (yJ (sr (Mn rfl (bo (sr (Kz (.bool (decide (((aD.toNat:Nat):Int)=113))) (An rfl ?_))))))))
 by_cases dS:((aD.toNat:Nat):Int)=113
 refine jT (dT dS) (sr (Mz rfl (Kz (.pointer (some ⟨c,0,none⟩)) (Kz (.pointer (some ⟨c,6,none⟩)) (An rfl (rt (bR (tR (rs (Mz rfl (Kz (.pointer (some ⟨c,6,none⟩)) ?_)))))))))))
 have sS:=eP.pk [2,0,1,3,4,5,6,7]
 refine bz [.int .u64 ((bO:Nat):Int)] 6 sS Tryz.sizeOf22 ?_
 intro AO sU
 refine WL.nil (bN (bN (yL (yK (fw (.int .i64 ((a+1:Nat):Int)) (yS (e:=IntKind.i64.wrap (((a:Nat):Int)+1)) yk (by rw [BI _ (by omega)]; omega)) (Mz rfl (WL.nil ?_)))))))
 have sV:=sU.pk [2,0,1,3,4,5,6,7]
 exact yY (a+1,S,T,bO,z,A,B,C,E,F,G,I,U,V,W,aR,aS,p,aT,aU,bJ,r,aV,aW,s,d9,ed,bQ.xB.ls,bQ.xE) ⟨rfl,rfl,rfl,rfl,rfl,rfl,trivial⟩ (aO.2 ⟨sV,by exact aY,by exact(aj.trans az di),by omega,by first | omega | exact BJ _,by first | omega | exact BJ _,by first | omega | exact BJ _,by omega,by omega,by omega,by omega,by omega,by omega,by omega,by omega,by omega,et (aZ) (et (congrArg (fun q=>aN o ak au q S T y z A B C E F G I U V W p r s g ah) bH) (et (iN bZ) (et (iN cK) (et (iN dn) (et (iN dx) (et (iN dA) (et (iN dM) (et (iN dQ) (et (aa dD) (ip dS))))))))))⟩) (by show d.length - (a+1) < d.length - a; omega)
 refine jF (dF dS) (sr (Kz (.bool (decide (((aD.toNat:Nat):Int)=98))) (An rfl ?_)))
 by_cases ek:((aD.toNat:Nat):Int)=98
 refine jT (dT ek) (sr (Mz rfl (Kz (.pointer (some ⟨c,0,none⟩)) (Kz (.pointer (some ⟨c,7,none⟩)) (An rfl (rt (bR (tR (rs (Mz rfl (Kz (.pointer (some ⟨c,7,none⟩)) ?_)))))))))))
 have sW:=eP.pk [2,0,1,3,4,5,6,7]
 refine bz [.int .u64 ((bO:Nat):Int)] 7 sW Tryz.sizeOf22 ?_
 intro AP sZ
 refine WL.nil (bN (bN (yL (yK (fw (.int .i64 ((a+1:Nat):Int)) (yS (e:=IntKind.i64.wrap (((a:Nat):Int)+1)) yk (by rw [BI _ (by omega)]; omega)) (Mz rfl (WL.nil ?_)))))))
 have tq:=sZ.pk [2,0,1,3,4,5,6,7]
 exact yY (a+1,S,T,y,bO,A,B,C,E,F,G,I,U,V,W,aR,aS,p,aT,aU,bJ,r,aV,aW,s,d9,ed,bQ.xB.ls,bQ.xE) ⟨rfl,rfl,rfl,rfl,rfl,rfl,trivial⟩ (aO.2 ⟨tq,by exact aY,by exact(aj.trans az di),by omega,by first | omega | exact BJ _,by first | omega | exact BJ _,by first | omega | exact BJ _,by omega,by omega,by omega,by omega,by omega,by omega,by omega,by omega,by omega,et (aZ) (et (congrArg (fun q=>aN o ak au q S T y z A B C E F G I U V W p r s g ah) bH) (et (iN bZ) (et (iN cK) (et (iN dn) (et (iN dx) (et (iN dA) (et (iN dM) (et (iN dQ) (et (aa dD) (et (iN dS) (ip ek)))))))))))⟩) (by show d.length - (a+1) < d.length - a; omega)
 refine jF (dF ek) (sr (Kz (.bool (decide (((aD.toNat:Nat):Int)=116))) (An rfl ?_)))
 by_cases eQ:((aD.toNat:Nat):Int)=116
 refine jT (dT eQ) (sr (Mz rfl (Kz (.pointer (some ⟨c,0,none⟩)) (Kz (.pointer (some ⟨c,8,none⟩)) (An rfl (rt (bR (tR (rs (Mz rfl (Kz (.pointer (some ⟨c,8,none⟩)) ?_)))))))))))
 have tu:=eP.pk [2,0,1,3,4,5,6,7]
 refine bz [.int .u64 ((bO:Nat):Int)] 8 tu Tryz.sizeOf22 ?_
 intro AQ tC
 refine WL.nil (bN (bN (yL (yK (fw (.int .i64 ((a+1:Nat):Int)) (yS (e:=IntKind.i64.wrap (((a:Nat):Int)+1)) yk (by rw [BI _ (by omega)]; omega)) (Mz rfl (WL.nil ?_)))))))
 have tF:=tC.pk [2,0,1,3,4,5,6,7]
 exact yY (a+1,S,T,y,z,bO,B,C,E,F,G,I,U,V,W,aR,aS,p,aT,aU,bJ,r,aV,aW,s,d9,ed,bQ.xB.ls,bQ.xE) ⟨rfl,rfl,rfl,rfl,rfl,rfl,trivial⟩ (aO.2 ⟨tF,by exact aY,by exact(aj.trans az di),by omega,by first | omega | exact BJ _,by first | omega | exact BJ _,by first | omega | exact BJ _,by omega,by omega,by omega,by omega,by omega,by omega,by omega,by omega,by omega,et (aZ) (et (congrArg (fun q=>aN o ak au q S T y z A B C E F G I U V W p r s g ah) bH) (et (iN bZ) (et (iN cK) (et (iN dn) (et (iN dx) (et (iN dA) (et (iN dM) (et (iN dQ) (et (aa dD) (et (iN dS) (et (iN ek) (ip eQ))))))))))))⟩) (by show d.length - (a+1) < d.length - a; omega)
 refine jF (dF eQ) (sr (Kz (.bool (decide (((aD.toNat:Nat):Int)=108))) (An rfl ?_)))
 by_cases eY:((aD.toNat:Nat):Int)=108
 refine jT (dT eY) (sr (Mz rfl (Kz (.pointer (some ⟨c,0,none⟩)) (Kz (.pointer (some ⟨c,9,none⟩)) (An rfl (rt (bR (tR (rs (Mz rfl (Kz (.pointer (some ⟨c,9,none⟩)) ?_)))))))))))
 have tH:=eP.pk [2,0,1,3,4,5,6,7]
 refine bz [.int .u64 ((bO:Nat):Int)] 9 tH Tryz.sizeOf22 ?_
 intro AR tJ
 refine WL.nil (bN (bN (yL (yK (fw (.int .i64 ((a+1:Nat):Int)) (yS (e:=IntKind.i64.wrap (((a:Nat):Int)+1)) yk (by rw [BI _ (by omega)]; omega)) (Mz rfl (WL.nil ?_)))))))
 have tK:=tJ.pk [2,0,1,3,4,5,6,7]
 exact yY (a+1,S,T,y,z,A,bO,C,E,F,G,I,U,V,W,aR,aS,p,aT,aU,bJ,r,aV,aW,s,d9,ed,bQ.xB.ls,bQ.xE) ⟨rfl,rfl,rfl,rfl,rfl,rfl,trivial⟩ (aO.2 ⟨tK,by exact aY,by exact(aj.trans az di),by omega,by first | omega | exact BJ _,by first | omega | exact BJ _,by first | omega | exact BJ _,by omega,by omega,by omega,by omega,by omega,by omega,by omega,by omega,by omega,et (aZ) (et (congrArg (fun q=>aN o ak au q S T y z A B C E F G I U V W p r s g ah) bH) (et (iN bZ) (et (iN cK) (et (iN dn) (et (iN dx) (et (iN dA) (et (iN dM) (et (iN dQ) (et (aa dD) (et (iN dS) (et (iN ek) (et (iN eQ) (ip eY)))))))))))))⟩) (by show d.length - (a+1) < d.length - a; omega)
 refine jF (dF eY) (sr (Kz (.bool (decide (((aD.toNat:Nat):Int)=118))) (An rfl ?_)))
 by_cases fC:((aD.toNat:Nat):Int)=118
 refine jT (dT fC) (sr (Mz rfl (Kz (.pointer (some ⟨c,0,none⟩)) (Kz (.pointer (some ⟨c,10,none⟩)) (An rfl (rt (bR (tR (rs (Mz rfl (Kz (.pointer (some ⟨c,10,none⟩)) ?_)))))))))))
 have tN:=eP.pk [2,0,1,3,4,5,6,7]
 refine bz [.int .u64 ((bO:Nat):Int)] 10 tN Tryz.sizeOf22 ?_
 intro AU tO
 refine WL.nil (bN (bN (yL (yK (fw (.int .i64 ((a+1:Nat):Int)) (yS (e:=IntKind.i64.wrap (((a:Nat):Int)+1)) yk (by rw [BI _ (by omega)]; omega)) (Mz rfl (WL.nil ?_)))))))
 have tQ:=tO.pk [2,0,1,3,4,5,6,7]
 exact yY (a+1,S,T,y,z,A,B,bO,E,F,G,I,U,V,W,aR,aS,p,aT,aU,bJ,r,aV,aW,s,d9,ed,bQ.xB.ls,bQ.xE) ⟨rfl,rfl,rfl,rfl,rfl,rfl,trivial⟩ (aO.2 ⟨tQ,by exact aY,by exact(aj.trans az di),by omega,by first | omega | exact BJ _,by first | omega | exact BJ _,by first | omega | exact BJ _,by omega,by omega,by omega,by omega,by omega,by omega,by omega,by omega,by omega,et (aZ) (et (congrArg (fun q=>aN o ak au q S T y z A B C E F G I U V W p r s g ah) bH) (et (iN bZ) (et (iN cK) (et (iN dn) (et (iN dx) (et (iN dA) (et (iN dM) (et (iN dQ) (et (aa dD) (et (iN dS) (et (iN ek) (et (iN eQ) (et (iN eY) (ip fC))))))))))))))⟩) (by show d.length - (a+1) < d.length - a; omega)
 refine jF (dF fC) (sr (Kz (.bool (decide (((aD.toNat:Nat):Int)=101))) (An rfl ?_)))
 by_cases fK:((aD.toNat:Nat):Int)=101
 refine jT (dT fK) (sr (Mz rfl (Kz (.pointer (some ⟨c,0,none⟩)) (Kz (.pointer (some ⟨c,11,none⟩)) (An rfl (rt (bR (tR (rs (Mz rfl (Kz (.pointer (some ⟨c,11,none⟩)) ?_)))))))))))
 have tT:=eP.pk [2,0,1,3,4,5,6,7]
 refine bz [.int .u64 ((bO:Nat):Int)] 11 tT Tryz.sizeOf22 ?_
 intro AV tV
 refine WL.nil (bN (bN (yL (yK (fw (.int .i64 ((a+1:Nat):Int)) (yS (e:=IntKind.i64.wrap (((a:Nat):Int)+1)) yk (by rw [BI _ (by omega)]; omega)) (Mz rfl (WL.nil ?_)))))))
 have tX:=tV.pk [2,0,1,3,4,5,6,7]
 exact yY (a+1,S,T,y,z,A,B,C,bO,F,G,I,U,V,W,aR,aS,p,aT,aU,bJ,r,aV,aW,s,d9,ed,bQ.xB.ls,bQ.xE) ⟨rfl,rfl,rfl,rfl,rfl,rfl,trivial⟩ (aO.2 ⟨tX,by exact aY,by exact(aj.trans az di),by omega,by first | omega | exact BJ _,by first | omega | exact BJ _,by first | omega | exact BJ _,by omega,by omega,by omega,by omega,by omega,by omega,by omega,by omega,by omega,et (aZ) (et (congrArg (fun q=>aN o ak au q S T y z A B C E F G I U V W p r s g ah) bH) (et (iN bZ) (et (iN cK) (et (iN dn) (et (iN dx) (et (iN dA) (et (iN dM) (et (iN dQ) (et (aa dD) (et (iN dS) (et (iN ek) (et (iN eQ) (et (iN eY) (et (iN fC) (ip fK)))))))))))))))⟩) (by show d.length - (a+1) < d.length - a; omega)
 refine jF (dF fK) (sr (Kz (.bool (decide (((aD.toNat:Nat):Int)=109))) (An rfl ?_)))
 by_cases gL:((aD.toNat:Nat):Int)=109
 refine jT (dT gL) (sr (Mz rfl (Kz (.pointer (some ⟨c,0,none⟩)) (Kz (.pointer (some ⟨c,12,none⟩)) (An rfl (rt (bR (tR (rs (Mz rfl (Kz (.pointer (some ⟨c,12,none⟩)) ?_)))))))))))
 have tY:=eP.pk [2,0,1,3,4,5,6,7]
 refine bz [.int .u64 ((bO:Nat):Int)] 12 tY Tryz.sizeOf22 ?_
 intro AX tZ
 refine WL.nil (bN (bN (yL (yK (fw (.int .i64 ((a+1:Nat):Int)) (yS (e:=IntKind.i64.wrap (((a:Nat):Int)+1)) yk (by rw [BI _ (by omega)]; omega)) (Mz rfl (WL.nil ?_)))))))
 have uf:=tZ.pk [2,0,1,3,4,5,6,7]
 exact yY (a+1,S,T,y,z,A,B,C,E,bO,G,I,U,V,W,aR,aS,p,aT,aU,bJ,r,aV,aW,s,d9,ed,bQ.xB.ls,bQ.xE) ⟨rfl,rfl,rfl,rfl,rfl,rfl,trivial⟩ (aO.2 ⟨uf,by exact aY,by exact(aj.trans az di),by omega,by first | omega | exact BJ _,by first | omega | exact BJ _,by first | omega | exact BJ _,by omega,by omega,by omega,by omega,by omega,by omega,by omega,by omega,by omega,et (aZ) (et (congrArg (fun q=>aN o ak au q S T y z A B C E F G I U V W p r s g ah) bH) (et (iN bZ) (et (iN cK) (et (iN dn) (et (iN dx) (et (iN dA) (et (iN dM) (et (iN dQ) (et (aa dD) (et (iN dS) (et (iN ek) (et (iN eQ) (et (iN eY) (et (iN fC) (et (iN fK) (ip gL))))))))))))))))⟩) (by show d.length - (a+1) < d.length - a; omega)
 refine jF (dF gL) (sr (Kz (.bool (decide (((aD.toNat:Nat):Int)=97))) (An rfl ?_)))
 by_cases iH:((aD.toNat:Nat):Int)=97
 refine jT (dT iH) (sr (Mz rfl (Kz (.pointer (some ⟨c,0,none⟩)) (Kz (.pointer (some ⟨c,13,none⟩)) (An rfl (rt (bR (tR (rs (Mz rfl (Kz (.pointer (some ⟨c,13,none⟩)) ?_)))))))))))
 have ug:=eP.pk [2,0,1,3,4,5,6,7]
 refine bz [.int .u64 ((bO:Nat):Int)] 13 ug Tryz.sizeOf22 ?_
 intro AY uh
 refine WL.nil (bN (bN (yL (yK (fw (.int .i64 ((a+1:Nat):Int)) (yS (e:=IntKind.i64.wrap (((a:Nat):Int)+1)) yk (by rw [BI _ (by omega)]; omega)) (Mz rfl (WL.nil ?_)))))))
 have ui:=uh.pk [2,0,1,3,4,5,6,7]
 exact yY (a+1,S,T,y,z,A,B,C,E,F,bO,I,U,V,W,aR,aS,p,aT,aU,bJ,r,aV,aW,s,d9,ed,bQ.xB.ls,bQ.xE) ⟨rfl,rfl,rfl,rfl,rfl,rfl,trivial⟩ (aO.2 ⟨ui,by exact aY,by exact(aj.trans az di),by omega,by first | omega | exact BJ _,by first | omega | exact BJ _,by first | omega | exact BJ _,by omega,by omega,by omega,by omega,by omega,by omega,by omega,by omega,by omega,et (aZ) (et (congrArg (fun q=>aN o ak au q S T y z A B C E F G I U V W p r s g ah) bH) (et (iN bZ) (et (iN cK) (et (iN dn) (et (iN dx) (et (iN dA) (et (iN dM) (et (iN dQ) (et (aa dD) (et (iN dS) (et (iN ek) (et (iN eQ) (et (iN eY) (et (iN fC) (et (iN fK) (et (iN gL) (ip iH)))))))))))))))))⟩) (by show d.length - (a+1) < d.length - a; omega)
 refine jF (dF iH) (sr (Kz (.bool (decide (((aD.toNat:Nat):Int)=110))) (An rfl ?_)))
 by_cases lT:((aD.toNat:Nat):Int)=110
 refine jT (dT lT) (sr (Mz rfl (Kz (.pointer (some ⟨c,0,none⟩)) (Kz (.pointer (some ⟨c,14,none⟩)) (An rfl (rt (bR (tR (rs (Mz rfl (Kz (.pointer (some ⟨c,14,none⟩)) ?_)))))))))))
 have uj:=eP.pk [2,0,1,3,4,5,6,7]
 refine bz [.int .u64 ((bO:Nat):Int)] 14 uj Tryz.sizeOf22 ?_
 intro AZ uk
 refine WL.nil (bN (bN (yL (yK (fw (.int .i64 ((a+1:Nat):Int)) (yS (e:=IntKind.i64.wrap (((a:Nat):Int)+1)) yk (by rw [BI _ (by omega)]; omega)) (Mz rfl (WL.nil ?_)))))))
 have ul:=uk.pk [2,0,1,3,4,5,6,7]
 exact yY (a+1,S,T,y,z,A,B,C,E,F,G,bO,U,V,W,aR,aS,p,aT,aU,bJ,r,aV,aW,s,d9,ed,bQ.xB.ls,bQ.xE) ⟨rfl,rfl,rfl,rfl,rfl,rfl,trivial⟩ (aO.2 ⟨ul,by exact aY,by exact(aj.trans az di),by omega,by first | omega | exact BJ _,by first | omega | exact BJ _,by first | omega | exact BJ _,by omega,by omega,by omega,by omega,by omega,by omega,by omega,by omega,by omega,et (aZ) (et (congrArg (fun q=>aN o ak au q S T y z A B C E F G I U V W p r s g ah) bH) (et (iN bZ) (et (iN cK) (et (iN dn) (et (iN dx) (et (iN dA) (et (iN dM) (et (iN dQ) (et (aa dD) (et (iN dS) (et (iN ek) (et (iN eQ) (et (iN eY) (et (iN fC) (et (iN fK) (et (iN gL) (et (iN iH) (ip lT))))))))))))))))))⟩) (by show d.length - (a+1) < d.length - a; omega)
 exfalso; have q9:=tL gW gX; omega
 refine jF (dF kY) (Wp.exit (yV ?_))
 have oF:aN o ak au d 0 0 0 0 0 0 0 0 0 0 0 false ([]) ([]) ([]) ([]) ([]) aK.xB.ls aK.xE=(y,z,A,B,C,r,S,T,E,F,G,I,U,V,W,p,s,g,ah):=et (aZ) (et (congrArg (fun q=>aN o ak au q S T y z A B C E F G I U V W p r s g ah) (dZ (ls:=d) (i:=a) (by omega))) rfl)
 refine yV (y8 (yL (sr (La (bf o ak au 0 S T y z A B C E F G I U V W aR p.length aS aT r.length aU aV s.length aW) dK 1 Tryz.isAgg29 Tryz.sizeOf29 ?_))))
 have um:=dK.pk [3,0,1,2,4,5,6,7]
 refine bz (bf o ak au 0 S T y z A B C E F G I U V W aR p.length aS aT r.length aU aV s.length aW) 0 um Tryz.sizeOf29 ?_
 intro A7 lU
 refine nt (rt (y9 (l6 rfl rfl (zg (cs:=(bf o ak au 0 S T y z A B C E F G I U V W aR p.length aS aT r.length aU aV s.length aW)) Tryz.isAgg29 Tryz.sizeOf29 ((lU.cls (i:=0) rfl).lit (k:=0) (m:=21) rfl))) ?_))
 have uo:=lU.pk [4,5,6,7,3]
 have e:jS p0=(bE.mk o ak au 0 S T y z A B C E F G I U (bC.mk V W) (Ll.mk p) (Ll.mk r) (Ll.mk s),RT.mk (Ll.mk g) ah):=et (aa jb) (et (ip fo) (et (aa kT) (et (aa qL) (et (aa jd) (et (aa jl) (et (aa gW) (aa oF)))))))
 obtain⟨rfl,rfl⟩:=dN (e.symm.trans hr)
 exact⟨aR,aS,aT,aU,aV,aW,bJ,bK,aH,rfl,uo,aY,(aj.trans (aj.trans (aj.trans (aj.trans aJ dJ) bX) cz) az),(by first | omega | (dsimp only; omega) | (simp only [List.length_nil]; omega) | (refine⟨?_, ?_⟩ <;> (dsimp only; omega)))⟩
 refine Sz (dF fo) (Sz (dF fo) (Sz (dF fo) (Sz (dF fo) (fw (.bool false) (yM rfl (dF fo) rfl) (nt (jf (sk (sr (Mz rfl ?_)))))))))
 have uq:=kI.pk [1,0,2]
 obtain⟨⟨av,fD⟩,jQ⟩:∃ q:Int × RT,aX bV=q:=⟨_,rfl⟩
 obtain⟨A8,oG,oH,oI,yh⟩:=yT uq
 refine cl Tryz.call90 (gG _ _ g0 bV gH fH av fD oG (fun j n=>aj.rds ay (by decide) aJ ((oH _ aG) j n)) (show bV.xB.ls.length≤fH∧bV.xB.ls.length≤9223372036854775807 from by omega) jQ) ?_
 rintro _ A9 ⟨jR,iI,rfl,oJ,bY,jU⟩
 have ut:=oI _ _ oJ
 replace bY:aj 1 gH fH bV.xB.ls jR iI fD.xB.ls:=bY
 have yj:=(bY).le
 replace jU:0≤av∧av≤255:=jU
 refine Kz (.pointer (some ⟨c,1,none⟩)) ?_
 have uu:=ut.pk [1,0,2]
 refine bz [.int .i64 av] 1 uu Tryz.sizeOf3 ?_
 intro Ba uw
 refine ns (Mz rfl ?_)
 have uy:=uw.pk [1,0,2]
 obtain⟨⟨ax,aL⟩,jV⟩:∃ q:Int × RT,aX fD=q:=⟨_,rfl⟩
 obtain⟨Bb,oK,oL,oM,yl⟩:=yT uy
 refine cl Tryz.call90 (gG _ _ g0 fD jR iI ax aL oK (fun j n=>aj.rds ay (by decide) bY ((fun j n=>aj.rds ay (by decide) aJ ((oL _ aG) j n)) j n)) (show fD.xB.ls.length≤iI∧fD.xB.ls.length≤9223372036854775807 from by omega) jV) ?_
 rintro _ Bc ⟨eu,eD,rfl,oN,cB,jW⟩
 have uz:=oM _ _ oN
 replace cB:aj 1 jR iI fD.xB.ls eu eD aL.xB.ls:=cB
 have ym:=(cB).le
 replace jW:0≤ax∧ax≤255:=jW
 refine Kz (.pointer (some ⟨c,2,none⟩)) ?_
 have uA:=uz.pk [1,0,2]
 refine bz [.int .i64 ax] 2 uA Tryz.sizeOf3 ?_
 intro Bd lV
 refine nt (yJ (sr (Kz (.pointer (some ⟨c,0,none⟩)) (Lz (.int .i64 o) lV 0 Tryz.isAgg3 ?_))))
 obtain⟨f,gY⟩:∃ q,dB o=q:=⟨_,rfl⟩
 obtain⟨Be,oO,yn,oP,yo⟩:=yP lV
 refine cl Tryz.call27 (kD _ _ o f oO gY) ?_
 rintro _ Bf ⟨rfl,oQ,jX⟩
 have uB:=oP _ _ oQ
 replace jX:f.length≤5:=jX
 refine WL.do rfl (zS (l:=f) Tryz.underlying9 Tryz.underlying31 Tryz.underlying5 uB rfl (by unfold maxLen; omega) ?_)
 intro eF eZ iJ uC
 refine Kz (.int .i64 ((f.length:Nat):Int)) (Mn rfl (bo ?_))
 have uD:Own w D iJ [row none 0 0 (List.flatMap aB.cells ([])) 64 6,row eF f.length eZ (List.flatMap eB f) 5 1,blk c (bf o av ax 0 0 0 0 0 0 0 0 0 0 0 0 false ([]) ([]) none 0 0 none 0 0 none 0 0) 29,blk g0 [.slice eu aL.xB.ls.length eD, .int .i64 aL.xE] 75,blk dI (bf 0 0 0 0 0 0 0 0 0 0 0 0 0 0 0 false ([]) ([]) none 0 0 none 0 0 none 0 0) 29]:=uC.free (bP 64 6)
 have uE:Own w D iJ [sepL (List.flatMap yQ ([])),row none 0 0 (List.flatMap aB.cells ([])) 64 6,row eF f.length eZ (List.flatMap eB f) 5 1,blk c (bf o av ax 0 0 0 0 0 0 0 0 0 0 0 0 false ([]) ([]) none 0 0 none 0 0 none 0 0) 29,blk g0 [.slice eu aL.xB.ls.length eD, .int .i64 aL.xE] 75,blk dI (bf 0 0 0 0 0 0 0 0 0 0 0 0 0 0 0 false ([]) ([]) none 0 0 none 0 0 none 0 0) 29]:=uD.sepNil
 have uF:Own w D iJ [row none 0 0 (List.flatMap af.cells ([])) 84 3,sepL (List.flatMap yQ ([])),row none 0 0 (List.flatMap aB.cells ([])) 64 6,row eF f.length eZ (List.flatMap eB f) 5 1,blk c (bf o av ax 0 0 0 0 0 0 0 0 0 0 0 0 false ([]) ([]) none 0 0 none 0 0 none 0 0) 29,blk g0 [.slice eu aL.xB.ls.length eD, .int .i64 aL.xE] 75,blk dI (bf 0 0 0 0 0 0 0 0 0 0 0 0 0 0 0 false ([]) ([]) none 0 0 none 0 0 none 0 0) 29]:=uE.free (bP 84 3)
 have uG:Own w D iJ [row none 0 0 (List.flatMap aA.cells ([])) 88 2,row none 0 0 (List.flatMap af.cells ([])) 84 3,sepL (List.flatMap yQ ([])),row none 0 0 (List.flatMap aB.cells ([])) 64 6,row eF f.length eZ (List.flatMap eB f) 5 1,blk c (bf o av ax 0 0 0 0 0 0 0 0 0 0 0 0 false ([]) ([]) none 0 0 none 0 0 none 0 0) 29,blk g0 [.slice eu aL.xB.ls.length eD, .int .i64 aL.xE] 75,blk dI (bf 0 0 0 0 0 0 0 0 0 0 0 0 0 0 0 false ([]) ([]) none 0 0 none 0 0 none 0 0) 29]:=uF.free (bP 88 2)
 have uH:=uG.pk [4,5,6,7,3,1,2,0]
 obtain⟨lW,oU⟩:∃ q:(Nat × Int × Int × Nat × Nat × Nat × Nat × Nat × Nat × Nat × Nat × Nat × Bool × (List UInt8) × (List UInt8) × (Option Addr) × Nat × (List aB) × (Option Addr) × Nat × (List af) × (List aP) × (Option Addr) × Nat × (List aA) × (Option Addr) × Nat × (List UInt8) × Int)→World→Prop,q=fun(i:Nat × Int × Int × Nat × Nat × Nat × Nat × Nat × Nat × Nat × Nat × Nat × Bool × (List UInt8) × (List UInt8) × (Option Addr) × Nat × (List aB) × (Option Addr) × Nat × (List af) × (List aP) × (Option Addr) × Nat × (List aA) × (Option Addr) × Nat × (List UInt8) × Int) w'=>Own w D w' [row eF f.length eZ (List.flatMap eB f) 5 1,blk c (bf o av ax 0 i.2.1 i.2.2.1 i.2.2.2.1 i.2.2.2.2.1 i.2.2.2.2.2.1 i.2.2.2.2.2.2.1 i.2.2.2.2.2.2.2.1 i.2.2.2.2.2.2.2.2.1 i.2.2.2.2.2.2.2.2.2.1 i.2.2.2.2.2.2.2.2.2.2.1 i.2.2.2.2.2.2.2.2.2.2.2.1 i.2.2.2.2.2.2.2.2.2.2.2.2.1 i.2.2.2.2.2.2.2.2.2.2.2.2.2.1 i.2.2.2.2.2.2.2.2.2.2.2.2.2.2.1 i.2.2.2.2.2.2.2.2.2.2.2.2.2.2.2.1 i.2.2.2.2.2.2.2.2.2.2.2.2.2.2.2.2.2.1.length i.2.2.2.2.2.2.2.2.2.2.2.2.2.2.2.2.1 i.2.2.2.2.2.2.2.2.2.2.2.2.2.2.2.2.2.2.1 i.2.2.2.2.2.2.2.2.2.2.2.2.2.2.2.2.2.2.2.2.2.1.length i.2.2.2.2.2.2.2.2.2.2.2.2.2.2.2.2.2.2.2.1 i.2.2.2.2.2.2.2.2.2.2.2.2.2.2.2.2.2.2.2.2.2.2.1 i.2.2.2.2.2.2.2.2.2.2.2.2.2.2.2.2.2.2.2.2.2.2.2.2.1.length i.2.2.2.2.2.2.2.2.2.2.2.2.2.2.2.2.2.2.2.2.2.2.2.1) 29,blk g0 [.slice i.2.2.2.2.2.2.2.2.2.2.2.2.2.2.2.2.2.2.2.2.2.2.2.2.2.1 i.2.2.2.2.2.2.2.2.2.2.2.2.2.2.2.2.2.2.2.2.2.2.2.2.2.2.2.1.length i.2.2.2.2.2.2.2.2.2.2.2.2.2.2.2.2.2.2.2.2.2.2.2.2.2.2.1, .int .i64 i.2.2.2.2.2.2.2.2.2.2.2.2.2.2.2.2.2.2.2.2.2.2.2.2.2.2.2.2] 75,blk dI (bf 0 0 0 0 0 0 0 0 0 0 0 0 0 0 0 false ([]) ([]) none 0 0 none 0 0 none 0 0) 29,row i.2.2.2.2.2.2.2.2.2.2.2.2.2.2.2.1 i.2.2.2.2.2.2.2.2.2.2.2.2.2.2.2.2.2.1.length i.2.2.2.2.2.2.2.2.2.2.2.2.2.2.2.2.1 (List.flatMap aB.cells i.2.2.2.2.2.2.2.2.2.2.2.2.2.2.2.2.2.1) 64 6,row i.2.2.2.2.2.2.2.2.2.2.2.2.2.2.2.2.2.2.1 i.2.2.2.2.2.2.2.2.2.2.2.2.2.2.2.2.2.2.2.2.2.1.length i.2.2.2.2.2.2.2.2.2.2.2.2.2.2.2.2.2.2.2.1 (List.flatMap af.cells i.2.2.2.2.2.2.2.2.2.2.2.2.2.2.2.2.2.2.2.2.1) 84 3,sepL (List.flatMap yQ i.2.2.2.2.2.2.2.2.2.2.2.2.2.2.2.2.2.2.2.2.1),row i.2.2.2.2.2.2.2.2.2.2.2.2.2.2.2.2.2.2.2.2.2.2.1 i.2.2.2.2.2.2.2.2.2.2.2.2.2.2.2.2.2.2.2.2.2.2.2.2.1.length i.2.2.2.2.2.2.2.2.2.2.2.2.2.2.2.2.2.2.2.2.2.2.2.1 (List.flatMap aA.cells i.2.2.2.2.2.2.2.2.2.2.2.2.2.2.2.2.2.2.2.2.2.2.2.2.1) 88 2]∧(List.map zh i.2.2.2.2.2.2.2.2.2.2.2.2.2.2.2.2.2.2.2.2.1=i.2.2.2.2.2.2.2.2.2.2.2.2.2.2.2.2.2.2.2.2.2.1∧aj 1 eu eD aL.xB.ls i.2.2.2.2.2.2.2.2.2.2.2.2.2.2.2.2.2.2.2.2.2.2.2.2.2.1 i.2.2.2.2.2.2.2.2.2.2.2.2.2.2.2.2.2.2.2.2.2.2.2.2.2.2.1 i.2.2.2.2.2.2.2.2.2.2.2.2.2.2.2.2.2.2.2.2.2.2.2.2.2.2.2.1∧i.1≤f.length∧i.2.2.2.2.2.2.2.2.2.2.2.2.2.2.2.2.2.1.length≤1000∧i.2.2.2.2.2.2.2.2.2.2.2.2.2.2.2.2.2.2.2.2.2.1.length≤1000∧i.2.2.2.2.2.2.2.2.2.2.2.2.2.2.2.2.2.2.2.2.2.2.2.2.1.length≤1000∧i.2.2.2.1≤18446744073709551615∧i.2.2.2.2.1≤18446744073709551615∧i.2.2.2.2.2.1≤18446744073709551615∧i.2.2.2.2.2.2.1≤18446744073709551615∧i.2.2.2.2.2.2.2.1≤18446744073709551615∧i.2.2.2.2.2.2.2.2.1≤18446744073709551615∧i.2.2.2.2.2.2.2.2.2.1≤18446744073709551615∧i.2.2.2.2.2.2.2.2.2.2.1≤18446744073709551615∧i.2.2.2.2.2.2.2.2.2.2.2.1≤18446744073709551615∧bS o av ax f 0 0 0 0 0 0 0 0 0 0 0 false ([]) ([]) ([]) ([]) ([]) aL.xB.ls aL.xE=bS o av ax (List.drop i.1 f) i.2.1 i.2.2.1 i.2.2.2.1 i.2.2.2.2.1 i.2.2.2.2.2.1 i.2.2.2.2.2.2.1 i.2.2.2.2.2.2.2.1 i.2.2.2.2.2.2.2.2.1 i.2.2.2.2.2.2.2.2.2.1 i.2.2.2.2.2.2.2.2.2.2.1 i.2.2.2.2.2.2.2.2.2.2.2.1 i.2.2.2.2.2.2.2.2.2.2.2.2.1 i.2.2.2.2.2.2.2.2.2.2.2.2.2.1 i.2.2.2.2.2.2.2.2.2.2.2.2.2.2.1 i.2.2.2.2.2.2.2.2.2.2.2.2.2.2.2.2.2.1 i.2.2.2.2.2.2.2.2.2.2.2.2.2.2.2.2.2.2.2.2.2.1 i.2.2.2.2.2.2.2.2.2.2.2.2.2.2.2.2.2.2.2.2.2.2.2.2.1 i.2.2.2.2.2.2.2.2.2.2.2.2.2.2.2.2.2.2.2.2.2.2.2.2.2.2.2.1 i.2.2.2.2.2.2.2.2.2.2.2.2.2.2.2.2.2.2.2.2.2.2.2.2.2.2.2.2):=⟨_,rfl⟩
 have aQ:∀ {b:Nat} {X:Int} {Y:Int} {J:Nat} {K:Nat} {L:Nat} {M:Nat} {N:Nat} {O:Nat} {P:Nat} {Q:Nat} {R:Nat} {Z:Bool} {ae:List UInt8} {ag:List UInt8} {bi:Option Addr} {bq:Nat} {t:List aB} {bu:Option Addr} {bv:Nat} {bL:List af} {u:List aP} {bA:Option Addr} {bB:Nat} {x:List aA} {bM:Option Addr} {aI:Nat} {h:List UInt8} {ai:Int} {w':World},lW (b,X,Y,J,K,L,M,N,O,P,Q,R,Z,ae,ag,bi,bq,t,bu,bv,bL,u,bA,bB,x,bM,aI,h,ai) w'↔Own w D w' [row eF f.length eZ (List.flatMap eB f) 5 1,blk c (bf o av ax 0 X Y J K L M N O P Q R Z ae ag bi t.length bq bu u.length bv bA x.length bB) 29,blk g0 [.slice bM h.length aI, .int .i64 ai] 75,blk dI (bf 0 0 0 0 0 0 0 0 0 0 0 0 0 0 0 false ([]) ([]) none 0 0 none 0 0 none 0 0) 29,row bi t.length bq (List.flatMap aB.cells t) 64 6,row bu u.length bv (List.flatMap af.cells bL) 84 3,sepL (List.flatMap yQ bL),row bA x.length bB (List.flatMap aA.cells x) 88 2]∧List.map zh bL=u∧aj 1 eu eD aL.xB.ls bM aI h∧b≤f.length∧t.length≤1000∧u.length≤1000∧x.length≤1000∧J≤18446744073709551615∧K≤18446744073709551615∧L≤18446744073709551615∧M≤18446744073709551615∧N≤18446744073709551615∧O≤18446744073709551615∧P≤18446744073709551615∧Q≤18446744073709551615∧R≤18446744073709551615∧bS o av ax f 0 0 0 0 0 0 0 0 0 0 0 false ([]) ([]) ([]) ([]) ([]) aL.xB.ls aL.xE=bS o av ax (List.drop b f) X Y J K L M N O P Q R Z ae ag t u x h ai:=by intros; subst oU; exact Iff.rfl
 refine Wp.loop (fun i:Nat × Int × Int × Nat × Nat × Nat × Nat × Nat × Nat × Nat × Nat × Nat × Bool × (List UInt8) × (List UInt8) × (Option Addr) × Nat × (List aB) × (Option Addr) × Nat × (List af) × (List aP) × (Option Addr) × Nat × (List aA) × (Option Addr) × Nat × (List UInt8) × Int=> [(35, .int .i64 ((i.1:Nat):Int)),(34, .int .i64 ((f.length:Nat):Int)),(33, .slice eF f.length eZ),(3, .pointer (some ⟨c,0,none⟩)),(2, .pointer (some ⟨dI,0,none⟩)),(0, .pointer (some ⟨g0,0,none⟩))]) lW (fun i=>f.length - i.1) (0,0,0,0,0,0,0,0,0,0,0,0,false, [], [],none,0, [],none,0, [], [],none,0, [],eu,eD,aL.xB.ls,aL.xE) ⟨rfl,rfl,rfl,rfl,rfl,rfl,trivial⟩ (aQ.2 ⟨uH,(show List.map zh ([])=([])∧aj 1 eu eD aL.xB.ls eu eD aL.xB.ls∧0≤f.length∧0≤1000∧0≤1000∧0≤1000∧0≤18446744073709551615∧0≤18446744073709551615∧0≤18446744073709551615∧0≤18446744073709551615∧0≤18446744073709551615∧0≤18446744073709551615∧0≤18446744073709551615∧0≤18446744073709551615∧0≤18446744073709551615∧bS o av ax f 0 0 0 0 0 0 0 0 0 0 0 false ([]) ([]) ([]) ([]) ([]) aL.xB.ls aL.xE=bS o av ax (List.drop 0 f) 0 0 0 0 0 0 0 0 0 0 0 false ([]) ([]) ([]) ([]) ([]) aL.xB.ls aL.xE from ⟨by exact rfl,by exact(aj.refl (by omega)),by omega,by first | omega | exact BJ _,by first | omega | exact BJ _,by first | omega | exact BJ _,by omega,by omega,by omega,by omega,by omega,by omega,by omega,by omega,by omega,rfl⟩)⟩) ?_
 rintro ⟨b,X,Y,J,K,L,M,N,O,P,Q,R,Z,ae,ag,bi,bq,t,bu,bv,bL,u,bA,bB,x,bM,aI,h,ai⟩ Bg oV
 show Wp _ _ _ [(35, .int .i64 ((b:Nat):Int)),(34, .int .i64 ((f.length:Nat):Int)),(33, .slice eF f.length eZ),(3, .pointer (some ⟨c,0,none⟩)),(2, .pointer (some ⟨dI,0,none⟩)),(0, .pointer (some ⟨g0,0,none⟩))] _ _
 obtain⟨dO,bF,aC,yt,yu,yw,yx,yz,yA,yB,yC,yD,yE,yF,yG,yH,bG⟩:=aQ.1 oV
 have yI:=dG bF
 have yO:=(aC).le
 refine sr (Kz (.bool (decide (((b:Nat):Int) < ((f.length:Nat):Int)))) (nt (yJ ?_)))
 by_cases lX:((b:Nat):Int) < ((f.length:Nat):Int)
 obtain⟨aF,gZ⟩:=dV (ls:=f) (i:=b) ay (by decide) (dO.rds (i:=0) rfl) (by first | omega | (simp; done) | (simp; omega))
 have bI:=drop_at gZ
 refine jT (dT lX) (sk (yJ (bo (sr (fw (.pointer (some ⟨ab eF,ao eF+b *1,none⟩)) (yZ (bW) rfl rfl ((dO.rds (i:=0) rfl).addr (i:=b) (by omega)) (by omega)) (fw (.int .u8 ((aF.toNat:Nat):Int)) (y5 rfl (bn.one Tryz.isAgg5 (((dO.rds (i:=0) rfl).elem ay gZ (by decide)).at_ (k:=0) rfl))) (Ar rfl (Mn rfl (bo (sr (Kz (.bool (decide (((aF.toNat:Nat):Int)=99))) (An rfl ?_))))))))))))
 by_cases cu:((aF.toNat:Nat):Int)=99
 refine jT (dT cu) (yK (Mz rfl ?_))
 have uI:=dO.pk [2,0,1,3,4,5,6,7]
 obtain⟨⟨gM,iK⟩,jY⟩:∃ q:Int × RT,aX (RT.mk (Ll.mk h) ai)=q:=⟨_,rfl⟩
 obtain⟨Bh,oW,oZ,o5,yU⟩:=yT uI
 refine cl Tryz.call90 (gG _ _ g0 (RT.mk (Ll.mk h) ai) bM aI gM iK oW (fun j n=>aj.rds ay (by decide) aC ((fun j n=>aj.rds ay (by decide) cB ((fun j n=>aj.rds ay (by decide) bY ((fun j n=>aj.rds ay (by decide) aJ ((oZ _ aG) j n)) j n)) j n)) j n)) (show h.length≤aI∧h.length≤9223372036854775807 from by omega) jY) ?_
 rintro _ Bi ⟨lY,lZ,rfl,o6,gp,jZ⟩
 have uJ:=o5 _ _ o6
 replace gp:aj 1 bM aI h lY lZ iK.xB.ls:=gp
 have yX:=(gp).le
 replace jZ:0≤gM∧gM≤255:=jZ
 refine Kz (.pointer (some ⟨c,4,none⟩)) ?_
 have uK:=uJ.pk [2,0,1,3,4,5,6,7]
 refine bz [.int .i64 gM] 4 uK Tryz.sizeOf3 ?_
 intro Bj uL
 refine WL.nil (bN (bN (yL (yK (fw (.int .i64 ((b+1:Nat):Int)) (yS (e:=IntKind.i64.wrap (((b:Nat):Int)+1)) yk (by rw [BI _ (by omega)]; omega)) (Mz rfl (WL.nil ?_)))))))
 have uM:=uL.pk [2,0,1,3,4,5,6,7]
 exact yY (b+1,gM,Y,J,K,L,M,N,O,P,Q,R,Z,ae,ag,bi,bq,t,bu,bv,bL,u,bA,bB,x,lY,lZ,iK.xB.ls,iK.xE) ⟨rfl,rfl,rfl,rfl,rfl,rfl,trivial⟩ (aQ.2 ⟨uM,by exact bF,by exact(aj.trans aC gp),by omega,by first | omega | exact BJ _,by first | omega | exact BJ _,by first | omega | exact BJ _,by omega,by omega,by omega,by omega,by omega,by omega,by omega,by omega,by omega,et (bG) (et (congrArg (fun q=>bS o av ax q X Y J K L M N O P Q R Z ae ag t u x h ai) bI) (et (ip cu) (aa jY)))⟩) (by show f.length - (b+1) < f.length - b; omega)
 refine jF (dF cu) (sr (Kz (.bool (decide (((aF.toNat:Nat):Int)=112))) (An rfl ?_)))
 by_cases cZ:((aF.toNat:Nat):Int)=112
 refine jT (dT cZ) (yK (Mz rfl ?_))
 have uN:=dO.pk [2,0,1,3,4,5,6,7]
 obtain⟨⟨gN,iL⟩,j3⟩:∃ q:Int × RT,aX (RT.mk (Ll.mk h) ai)=q:=⟨_,rfl⟩
 obtain⟨Bl,o7,o8,o9,y7⟩:=yT uN
 refine cl Tryz.call90 (gG _ _ g0 (RT.mk (Ll.mk h) ai) bM aI gN iL o7 (fun j n=>aj.rds ay (by decide) aC ((fun j n=>aj.rds ay (by decide) cB ((fun j n=>aj.rds ay (by decide) bY ((fun j n=>aj.rds ay (by decide) aJ ((o8 _ aG) j n)) j n)) j n)) j n)) (show h.length≤aI∧h.length≤9223372036854775807 from by omega) j3) ?_
 rintro _ Bn ⟨l5,l7,rfl,pg,gq,j4⟩
 have uO:=o9 _ _ pg
 replace gq:aj 1 bM aI h l5 l7 iL.xB.ls:=gq
 have za:=(gq).le
 replace j4:0≤gN∧gN≤255:=j4
 refine Kz (.pointer (some ⟨c,5,none⟩)) ?_
 have uP:=uO.pk [2,0,1,3,4,5,6,7]
 refine bz [.int .i64 gN] 5 uP Tryz.sizeOf3 ?_
 intro Bo uQ
 refine WL.nil (bN (bN (yL (yK (fw (.int .i64 ((b+1:Nat):Int)) (yS (e:=IntKind.i64.wrap (((b:Nat):Int)+1)) yk (by rw [BI _ (by omega)]; omega)) (Mz rfl (WL.nil ?_)))))))
 have uR:=uQ.pk [2,0,1,3,4,5,6,7]
 exact yY (b+1,X,gN,J,K,L,M,N,O,P,Q,R,Z,ae,ag,bi,bq,t,bu,bv,bL,u,bA,bB,x,l5,l7,iL.xB.ls,iL.xE) ⟨rfl,rfl,rfl,rfl,rfl,rfl,trivial⟩ (aQ.2 ⟨uR,by exact bF,by exact(aj.trans aC gq),by omega,by first | omega | exact BJ _,by first | omega | exact BJ _,by first | omega | exact BJ _,by omega,by omega,by omega,by omega,by omega,by omega,by omega,by omega,by omega,et (bG) (et (congrArg (fun q=>bS o av ax q X Y J K L M N O P Q R Z ae ag t u x h ai) bI) (et (iN cu) (et (ip cZ) (aa j3))))⟩) (by show f.length - (b+1) < f.length - b; omega)
 refine jF (dF cZ) (sr (Kz (.bool (decide (((aF.toNat:Nat):Int)=102))) (An rfl ?_)))
 by_cases dw:((aF.toNat:Nat):Int)=102
 refine jT (dT dw) (yK (Mz rfl ?_))
 have uS:=dO.pk [2,0,1,3,4,5,6,7]
 obtain⟨⟨j5,iM⟩,j6⟩:∃ q:Bool × RT,fO (RT.mk (Ll.mk h) ai)=q:=⟨_,rfl⟩
 obtain⟨Bp,pq,pu,pz,zb⟩:=yT uS
 refine cl Tryz.call91 (mI _ _ g0 (RT.mk (Ll.mk h) ai) bM aI j5 iM pq (fun j n=>aj.rds ay (by decide) aC ((fun j n=>aj.rds ay (by decide) cB ((fun j n=>aj.rds ay (by decide) bY ((fun j n=>aj.rds ay (by decide) aJ ((pu _ aG) j n)) j n)) j n)) j n)) (show h.length≤aI∧h.length≤9223372036854775807 from by omega) j6) ?_
 rintro _ Bq ⟨l8,l9,rfl,pG,gu⟩
 have uT:=pz _ _ pG
 replace gu:aj 1 bM aI h l8 l9 iM.xB.ls:=gu
 have ze:=(gu).le
 refine Kz (.pointer (some ⟨c,15,none⟩)) ?_
 have uU:=uT.pk [2,0,1,3,4,5,6,7]
 refine bz [.bool j5] 15 uU Tryz.sizeOf4 ?_
 intro Br uV
 refine WL.nil (bN (bN (yL (yK (fw (.int .i64 ((b+1:Nat):Int)) (yS (e:=IntKind.i64.wrap (((b:Nat):Int)+1)) yk (by rw [BI _ (by omega)]; omega)) (Mz rfl (WL.nil ?_)))))))
 have uW:=uV.pk [2,0,1,3,4,5,6,7]
 exact yY (b+1,X,Y,J,K,L,M,N,O,P,Q,R,j5,ae,ag,bi,bq,t,bu,bv,bL,u,bA,bB,x,l8,l9,iM.xB.ls,iM.xE) ⟨rfl,rfl,rfl,rfl,rfl,rfl,trivial⟩ (aQ.2 ⟨uW,by exact bF,by exact(aj.trans aC gu),by omega,by first | omega | exact BJ _,by first | omega | exact BJ _,by first | omega | exact BJ _,by omega,by omega,by omega,by omega,by omega,by omega,by omega,by omega,by omega,et (bG) (et (congrArg (fun q=>bS o av ax q X Y J K L M N O P Q R Z ae ag t u x h ai) bI) (et (iN cu) (et (iN cZ) (et (ip dw) (aa j6)))))⟩) (by show f.length - (b+1) < f.length - b; omega)
 refine jF (dF dw) (sr (Kz (.bool (decide (((aF.toNat:Nat):Int)=114))) (An rfl ?_)))
 by_cases dz:((aF.toNat:Nat):Int)=114
 refine jT (dT dz) (sr (Mz rfl ?_))
 have uX:=dO.pk [2,0,1,3,4,5,6,7]
 obtain⟨⟨kg,fE⟩,ko⟩:∃ q:(List UInt8) × RT,bg (RT.mk (Ll.mk h) ai)=q:=⟨_,rfl⟩
 obtain⟨Bt,pI,pJ,pK,zi⟩:=yT uX
 refine cl Tryz.call92 (gP _ _ g0 (RT.mk (Ll.mk h) ai) bM aI kg fE pI (fun j n=>aj.rds ay (by decide) aC ((fun j n=>aj.rds ay (by decide) cB ((fun j n=>aj.rds ay (by decide) bY ((fun j n=>aj.rds ay (by decide) aJ ((pJ _ aG) j n)) j n)) j n)) j n)) (show h.length≤aI∧h.length≤9223372036854775807 from by omega) ko) ?_
 rintro _ Bu ⟨kr,iO,rfl,pM,fF⟩
 have uY:=pK _ _ pM
 replace fF:aj 1 bM aI h kr iO fE.xB.ls:=fF
 have zk:=(fF).le
 refine Kz (.pointer (some ⟨c,16,none⟩)) (Kz (.pointer (some ⟨c,16,none⟩)) ?_)
 have uZ:=uY.pk [2,0,1,3,4,5,6,7]
 refine bz [.string ⟨List.toArray kg⟩] 16 uZ Tryz.sizeOf9 ?_
 intro Bv u6
 refine nt (yK (Mz rfl ?_))
 have u7:=u6.pk [1,0,2,3,4,5,6,7]
 obtain⟨⟨ku,iP⟩,kv⟩:∃ q:(List UInt8) × RT,bg fE=q:=⟨_,rfl⟩
 obtain⟨Bw,pO,pQ,pR,zl⟩:=yT u7
 refine cl Tryz.call92 (gP _ _ g0 fE kr iO ku iP pO (fun j n=>aj.rds ay (by decide) fF ((fun j n=>aj.rds ay (by decide) aC ((fun j n=>aj.rds ay (by decide) cB ((fun j n=>aj.rds ay (by decide) bY ((fun j n=>aj.rds ay (by decide) aJ ((pQ _ aG) j n)) j n)) j n)) j n)) j n)) (show fE.xB.ls.length≤iO∧fE.xB.ls.length≤9223372036854775807 from by omega) kv) ?_
 rintro _ Bz ⟨ma,mf,rfl,pU,gy⟩
 have ve:=pR _ _ pU
 replace gy:aj 1 kr iO fE.xB.ls ma mf iP.xB.ls:=gy
 have zn:=(gy).le
 refine Kz (.pointer (some ⟨c,16,none⟩)) (Kz (.pointer (some ⟨c,17,none⟩)) ?_)
 have vg:=ve.pk [1,0,2,3,4,5,6,7]
 refine bz [.string ⟨List.toArray ku⟩] 17 vg Tryz.sizeOf9 ?_
 intro BA vk
 refine WL.nil (bN (bN (yL (yK (fw (.int .i64 ((b+1:Nat):Int)) (yS (e:=IntKind.i64.wrap (((b:Nat):Int)+1)) yk (by rw [BI _ (by omega)]; omega)) (Mz rfl (WL.nil ?_)))))))
 have vo:=vk.pk [2,0,1,3,4,5,6,7]
 exact yY (b+1,X,Y,J,K,L,M,N,O,P,Q,R,Z,kg,ku,bi,bq,t,bu,bv,bL,u,bA,bB,x,ma,mf,iP.xB.ls,iP.xE) ⟨rfl,rfl,rfl,rfl,rfl,rfl,trivial⟩ (aQ.2 ⟨vo,by exact bF,by exact(aj.trans (aj.trans aC fF) gy),by omega,by first | omega | exact BJ _,by first | omega | exact BJ _,by first | omega | exact BJ _,by omega,by omega,by omega,by omega,by omega,by omega,by omega,by omega,by omega,et (bG) (et (congrArg (fun q=>bS o av ax q X Y J K L M N O P Q R Z ae ag t u x h ai) bI) (et (iN cu) (et (iN cZ) (et (iN dw) (et (ip dz) (et (aa ko) (aa kv)))))))⟩) (by show f.length - (b+1) < f.length - b; omega)
 refine jF (dF dz) (sr (Kz (.bool (decide (((aF.toNat:Nat):Int)=111))) (An rfl ?_)))
 by_cases dC:((aF.toNat:Nat):Int)=111
 refine jT (dT dC) (yK (Mz rfl ?_))
 have vv:=dO.pk [2,0,1,3,4,5,6,7]
 obtain⟨⟨iQ,iR⟩,kw⟩:∃ q:(List aB) × RT,jg (RT.mk (Ll.mk h) ai)=q:=⟨_,rfl⟩
 obtain⟨BB,pV,pW,pX,zo⟩:=yT vv
 refine cl Tryz.call93 (pE _ _ g0 (RT.mk (Ll.mk h) ai) bM aI iQ iR pV (fun j n=>aj.rds ay (by decide) aC ((fun j n=>aj.rds ay (by decide) cB ((fun j n=>aj.rds ay (by decide) bY ((fun j n=>aj.rds ay (by decide) aJ ((pW _ aG) j n)) j n)) j n)) j n)) (show h.length≤aI∧h.length≤9223372036854775807 from by omega) kw) ?_
 rintro _ BC ⟨mg,mh,mi,mo,rfl,pY,gz,ky⟩
 have mq:=pX _ _ pY
 replace gz:aj 1 bM aI h mi mo iR.xB.ls:=gz
 have zq:=(gz).le
 have zt:=mq.rowC (i:=0) rfl
 replace ky:iQ.length≤1000:=ky
 refine Kz (.pointer (some ⟨c,18,none⟩)) ?_
 have vw:=mq.pk [3,0,1,2,4,5,6,7,8]
 refine bz [.slice mg iQ.length mh] 18 vw Tryz.sizeOf25 ?_
 intro BD vz
 refine WL.nil (bN (bN (yL (yK (fw (.int .i64 ((b+1:Nat):Int)) (yS (e:=IntKind.i64.wrap (((b:Nat):Int)+1)) yk (by rw [BI _ (by omega)]; omega)) (Mz rfl (WL.nil ?_)))))))
 have vB:=vz.pk [3,0,2,4,1,6,7,8]
 exact yY (b+1,X,Y,J,K,L,M,N,O,P,Q,R,Z,ae,ag,mg,mh,iQ,bu,bv,bL,u,bA,bB,x,mi,mo,iR.xB.ls,iR.xE) ⟨rfl,rfl,rfl,rfl,rfl,rfl,trivial⟩ (aQ.2 ⟨vB,by exact bF,by exact(aj.trans aC gz),by omega,by first | omega | exact BJ _,by first | omega | exact BJ _,by first | omega | exact BJ _,by omega,by omega,by omega,by omega,by omega,by omega,by omega,by omega,by omega,et (bG) (et (congrArg (fun q=>bS o av ax q X Y J K L M N O P Q R Z ae ag t u x h ai) bI) (et (iN cu) (et (iN cZ) (et (iN dw) (et (iN dz) (et (ip dC) (aa kw)))))))⟩) (by show f.length - (b+1) < f.length - b; omega)
 refine jF (dF dC) (sr (Kz (.bool (decide (((aF.toNat:Nat):Int)=115))) (An rfl ?_)))
 by_cases dP:((aF.toNat:Nat):Int)=115
 refine jT (dT dP) (yK (Mz rfl ?_))
 have vC:=dO.pk [2,0,1,3,4,5,6,7]
 obtain⟨⟨iT,iU⟩,kz⟩:∃ q:(List aP) × RT,jh (RT.mk (Ll.mk h) ai)=q:=⟨_,rfl⟩
 obtain⟨BF,p8,p9,qa,zw⟩:=yT vC
 refine cl Tryz.call94 (pF _ _ g0 (RT.mk (Ll.mk h) ai) bM aI iT iU p8 (fun j n=>aj.rds ay (by decide) aC ((fun j n=>aj.rds ay (by decide) cB ((fun j n=>aj.rds ay (by decide) bY ((fun j n=>aj.rds ay (by decide) aJ ((p9 _ aG) j n)) j n)) j n)) j n)) (show h.length≤aI∧h.length≤9223372036854775807 from by omega) kz) ?_
 rintro _ BG ⟨mr,mD,vD,mE,mF,rfl,qb,kC,gB,kE⟩
 have mG:=qa _ _ qb
 replace gB:aj 1 bM aI h mE mF iU.xB.ls:=gB
 have zx:=(gB).le
 have zy:=dG kC
 have zz:=mG.rowC (i:=0) rfl
 replace kE:iT.length≤1000:=kE
 refine Kz (.pointer (some ⟨c,19,none⟩)) ?_
 have vE:=mG.pk [4,0,1,2,3,5,6,7,8,9]
 refine bz [.slice mr iT.length mD] 19 vE Tryz.sizeOf26 ?_
 intro BH vF
 refine WL.nil (bN (bN (yL (yK (fw (.int .i64 ((b+1:Nat):Int)) (yS (e:=IntKind.i64.wrap (((b:Nat):Int)+1)) yk (by rw [BI _ (by omega)]; omega)) (Mz rfl (WL.nil ?_)))))))
 have vG:=vF.pk [4,0,3,5,6,1,2,9]
 exact yY (b+1,X,Y,J,K,L,M,N,O,P,Q,R,Z,ae,ag,bi,bq,t,mr,mD,vD,iT,bA,bB,x,mE,mF,iU.xB.ls,iU.xE) ⟨rfl,rfl,rfl,rfl,rfl,rfl,trivial⟩ (aQ.2 ⟨vG,by exact kC,by exact(aj.trans aC gB),by omega,by first | omega | exact BJ _,by first | omega | exact BJ _,by first | omega | exact BJ _,by omega,by omega,by omega,by omega,by omega,by omega,by omega,by omega,by omega,et (bG) (et (congrArg (fun q=>bS o av ax q X Y J K L M N O P Q R Z ae ag t u x h ai) bI) (et (iN cu) (et (iN cZ) (et (iN dw) (et (iN dz) (et (iN dC) (et (ip dP) (aa kz))))))))⟩) (by show f.length - (b+1) < f.length - b; omega)
 refine jF (dF dP) (sr (Kz (.bool (decide (((aF.toNat:Nat):Int)=119))) (An rfl ?_)))
 by_cases dR:((aF.toNat:Nat):Int)=119
 refine jT (dT dR) (yK (Mz rfl ?_))
 have vH:=dO.pk [2,0,1,3,4,5,6,7]
 obtain⟨⟨iV,iW⟩,kF⟩:∃ q:(List aA) × RT,ik (RT.mk (Ll.mk h) ai)=q:=⟨_,rfl⟩
 obtain⟨BK,qc,qd,qf,zA⟩:=yT vH
 refine cl Tryz.call95 (nM _ _ g0 (RT.mk (Ll.mk h) ai) bM aI iV iW qc (fun j n=>aj.rds ay (by decide) aC ((fun j n=>aj.rds ay (by decide) cB ((fun j n=>aj.rds ay (by decide) bY ((fun j n=>aj.rds ay (by decide) aJ ((qd _ aG) j n)) j n)) j n)) j n)) (show h.length≤aI∧h.length≤9223372036854775807 from by omega) kF) ?_
 rintro _ BL ⟨mH,mJ,mK,mM,rfl,qg,gD,kG⟩
 have mO:=qf _ _ qg
 replace gD:aj 1 bM aI h mK mM iW.xB.ls:=gD
 have zB:=(gD).le
 have zC:=mO.rowC (i:=0) rfl
 replace kG:iV.length≤1000:=kG
 refine Kz (.pointer (some ⟨c,20,none⟩)) ?_
 have vI:=mO.pk [3,0,1,2,4,5,6,7,8]
 refine bz [.slice mH iV.length mJ] 20 vI Tryz.sizeOf27 ?_
 intro BM vJ
 refine WL.nil (bN (bN (yL (yK (fw (.int .i64 ((b+1:Nat):Int)) (yS (e:=IntKind.i64.wrap (((b:Nat):Int)+1)) yk (by rw [BI _ (by omega)]; omega)) (Mz rfl (WL.nil ?_)))))))
 have vK:=vJ.pk [3,0,2,4,5,6,7,1]
 exact yY (b+1,X,Y,J,K,L,M,N,O,P,Q,R,Z,ae,ag,bi,bq,t,bu,bv,bL,u,mH,mJ,iV,mK,mM,iW.xB.ls,iW.xE) ⟨rfl,rfl,rfl,rfl,rfl,rfl,trivial⟩ (aQ.2 ⟨vK,by exact bF,by exact(aj.trans aC gD),by omega,by first | omega | exact BJ _,by first | omega | exact BJ _,by first | omega | exact BJ _,by omega,by omega,by omega,by omega,by omega,by omega,by omega,by omega,by omega,et (bG) (et (congrArg (fun q=>bS o av ax q X Y J K L M N O P Q R Z ae ag t u x h ai) bI) (et (iN cu) (et (iN cZ) (et (iN dw) (et (iN dz) (et (iN dC) (et (iN dP) (et (ip dR) (aa kF)))))))))⟩) (by show f.length - (b+1) < f.length - b; omega)
 refine jF (dF dR) (sr (Mz rfl ?_))
 have vL:=dO.pk [2,0,1,3,4,5,6,7]
 obtain⟨⟨bT,bU⟩,dH⟩:∃ q:Nat × RT,df (RT.mk (Ll.mk h) ai)=q:=⟨_,rfl⟩
 obtain⟨BN,qh,qi,qj,zF⟩:=yT vL
 refine cl Tryz.call96 (nu _ _ g0 (RT.mk (Ll.mk h) ai) bM aI bT bU qh (fun j n=>aj.rds ay (by decide) aC ((fun j n=>aj.rds ay (by decide) cB ((fun j n=>aj.rds ay (by decide) bY ((fun j n=>aj.rds ay (by decide) aJ ((qi _ aG) j n)) j n)) j n)) j n)) (show h.length≤aI∧h.length≤9223372036854775807 from by omega) dH) ?_
 rintro _ BO ⟨eG,eH,rfl,ql,dm,kH⟩
 have eT:=qj _ _ ql
 replace dm:aj 1 bM aI h eG eH bU.xB.ls:=dm
 have zG:=(dm).le
 replace kH:bT≤18446744073709551615:=kH
 refine An rfl (yK (Mz rfl ?_))
 refine WL.do rfl (zf Tryz.call47 rfl ?_ (fun _ _ k=>k))
 refine yR (args:= [.pointer (some ⟨c,0,none⟩), .int .u8 ((aF.toNat:Nat):Int)]) Tryz.func47 rfl rfl rfl ?_
 show Wp _ _ _ [(0, .pointer (some ⟨c,0,none⟩)),(1, .int .u8 ((aF.toNat:Nat):Int))] _ _
 refine sr (An rfl (yJ (sr (Mn rfl (bo (sr (Kz (.bool (decide (((aF.toNat:Nat):Int)=113))) (An rfl ?_))))))))
 by_cases dU:((aF.toNat:Nat):Int)=113
 refine jT (dT dU) (sr (Mz rfl (Kz (.pointer (some ⟨c,0,none⟩)) (Kz (.pointer (some ⟨c,6,none⟩)) (An rfl (rt (bR (tR (rs (Mz rfl (Kz (.pointer (some ⟨c,6,none⟩)) ?_)))))))))))
 have vM:=eT.pk [2,0,1,3,4,5,6,7]
 refine bz [.int .u64 ((bT:Nat):Int)] 6 vM Tryz.sizeOf22 ?_
 intro BP vN
 refine WL.nil (bN (bN (yL (yK (fw (.int .i64 ((b+1:Nat):Int)) (yS (e:=IntKind.i64.wrap (((b:Nat):Int)+1)) yk (by rw [BI _ (by omega)]; omega)) (Mz rfl (WL.nil ?_)))))))
 have vO:=vN.pk [2,0,1,3,4,5,6,7]
 exact yY (b+1,X,Y,bT,K,L,M,N,O,P,Q,R,Z,ae,ag,bi,bq,t,bu,bv,bL,u,bA,bB,x,eG,eH,bU.xB.ls,bU.xE) ⟨rfl,rfl,rfl,rfl,rfl,rfl,trivial⟩ (aQ.2 ⟨vO,by exact bF,by exact(aj.trans aC dm),by omega,by first | omega | exact BJ _,by first | omega | exact BJ _,by first | omega | exact BJ _,by omega,by omega,by omega,by omega,by omega,by omega,by omega,by omega,by omega,et (bG) (et (congrArg (fun q=>bS o av ax q X Y J K L M N O P Q R Z ae ag t u x h ai) bI) (et (iN cu) (et (iN cZ) (et (iN dw) (et (iN dz) (et (iN dC) (et (iN dP) (et (iN dR) (et (aa dH) (ip dU))))))))))⟩) (by show f.length - (b+1) < f.length - b; omega)
 refine jF (dF dU) (sr (Kz (.bool (decide (((aF.toNat:Nat):Int)=98))) (An rfl ?_)))
 by_cases eO:((aF.toNat:Nat):Int)=98
 refine jT (dT eO) (sr (Mz rfl (Kz (.pointer (some ⟨c,0,none⟩)) (Kz (.pointer (some ⟨c,7,none⟩)) (An rfl (rt (bR (tR (rs (Mz rfl (Kz (.pointer (some ⟨c,7,none⟩)) ?_)))))))))))
 have vP:=eT.pk [2,0,1,3,4,5,6,7]
 refine bz [.int .u64 ((bT:Nat):Int)] 7 vP Tryz.sizeOf22 ?_
 intro BQ vQ
 refine WL.nil (bN (bN (yL (yK (fw (.int .i64 ((b+1:Nat):Int)) (yS (e:=IntKind.i64.wrap (((b:Nat):Int)+1)) yk (by rw [BI _ (by omega)]; omega)) (Mz rfl (WL.nil ?_)))))))
 have vR:=vQ.pk [2,0,1,3,4,5,6,7]
 exact yY (b+1,X,Y,J,bT,L,M,N,O,P,Q,R,Z,ae,ag,bi,bq,t,bu,bv,bL,u,bA,bB,x,eG,eH,bU.xB.ls,bU.xE) ⟨rfl,rfl,rfl,rfl,rfl,rfl,trivial⟩ (aQ.2 ⟨vR,by exact bF,by exact(aj.trans aC dm),by omega,by first | omega | exact BJ _,by first | omega | exact BJ _,by first | omega | exact BJ _,by omega,by omega,by omega,by omega,by omega,by omega,by omega,by omega,by omega,et (bG) (et (congrArg (fun q=>bS o av ax q X Y J K L M N O P Q R Z ae ag t u x h ai) bI) (et (iN cu) (et (iN cZ) (et (iN dw) (et (iN dz) (et (iN dC) (et (iN dP) (et (iN dR) (et (aa dH) (et (iN dU) (ip eO)))))))))))⟩) (by show f.length - (b+1) < f.length - b; omega)
 refine jF (dF eO) (sr (Kz (.bool (decide (((aF.toNat:Nat):Int)=116))) (An rfl ?_)))
 by_cases eU:((aF.toNat:Nat):Int)=116
 refine jT (dT eU) (sr (Mz rfl (Kz (.pointer (some ⟨c,0,none⟩)) (Kz (.pointer (some ⟨c,8,none⟩)) (An rfl (rt (bR (tR (rs (Mz rfl (Kz (.pointer (some ⟨c,8,none⟩)) ?_)))))))))))
 have vS:=eT.pk [2,0,1,3,4,5,6,7]
 refine bz [.int .u64 ((bT:Nat):Int)] 8 vS Tryz.sizeOf22 ?_
 intro BR vT
 refine WL.nil (bN (bN (yL (yK (fw (.int .i64 ((b+1:Nat):Int)) (yS (e:=IntKind.i64.wrap (((b:Nat):Int)+1)) yk (by rw [BI _ (by omega)]; omega)) (Mz rfl (WL.nil ?_)))))))
 have vU:=vT.pk [2,0,1,3,4,5,6,7]
 exact yY (b+1,X,Y,J,K,bT,M,N,O,P,Q,R,Z,ae,ag,bi,bq,t,bu,bv,bL,u,bA,bB,x,eG,eH,bU.xB.ls,bU.xE) ⟨rfl,rfl,rfl,rfl,rfl,rfl,trivial⟩ (aQ.2 ⟨vU,by exact bF,by exact(aj.trans aC dm),by omega,by first | omega | exact BJ _,by first | omega | exact BJ _,by first | omega | exact BJ _,by omega,by omega,by omega,by omega,by omega,by omega,by omega,by omega,by omega,et (bG) (et (congrArg (fun q=>bS o av ax q X Y J K L M N O P Q R Z ae ag t u x h ai) bI) (et (iN cu) (et (iN cZ) (et (iN dw) (et (iN dz) (et (iN dC) (et (iN dP) (et (iN dR) (et (aa dH) (et (iN dU) (et (iN eO) (ip eU))))))))))))⟩) (by show f.length - (b+1) < f.length - b; omega)
 refine jF (dF eU) (sr (Kz (.bool (decide (((aF.toNat:Nat):Int)=108))) (An rfl ?_)))
 by_cases fe:((aF.toNat:Nat):Int)=108
 refine jT (dT fe) (sr (Mz rfl (Kz (.pointer (some ⟨c,0,none⟩)) (Kz (.pointer (some ⟨c,9,none⟩)) (An rfl (rt (bR (tR (rs (Mz rfl (Kz (.pointer (some ⟨c,9,none⟩)) ?_)))))))))))
 have vV:=eT.pk [2,0,1,3,4,5,6,7]
 refine bz [.int .u64 ((bT:Nat):Int)] 9 vV Tryz.sizeOf22 ?_
 intro BS vW
 refine WL.nil (bN (bN (yL (yK (fw (.int .i64 ((b+1:Nat):Int)) (yS (e:=IntKind.i64.wrap (((b:Nat):Int)+1)) yk (by rw [BI _ (by omega)]; omega)) (Mz rfl (WL.nil ?_)))))))
 have vX:=vW.pk [2,0,1,3,4,5,6,7]
 exact yY (b+1,X,Y,J,K,L,bT,N,O,P,Q,R,Z,ae,ag,bi,bq,t,bu,bv,bL,u,bA,bB,x,eG,eH,bU.xB.ls,bU.xE) ⟨rfl,rfl,rfl,rfl,rfl,rfl,trivial⟩ (aQ.2 ⟨vX,by exact bF,by exact(aj.trans aC dm),by omega,by first | omega | exact BJ _,by first | omega | exact BJ _,by first | omega | exact BJ _,by omega,by omega,by omega,by omega,by omega,by omega,by omega,by omega,by omega,et (bG) (et (congrArg (fun q=>bS o av ax q X Y J K L M N O P Q R Z ae ag t u x h ai) bI) (et (iN cu) (et (iN cZ) (et (iN dw) (et (iN dz) (et (iN dC) (et (iN dP) (et (iN dR) (et (aa dH) (et (iN dU) (et (iN eO) (et (iN eU) (ip fe)))))))))))))⟩) (by show f.length - (b+1) < f.length - b; omega)
 refine jF (dF fe) (sr (Kz (.bool (decide (((aF.toNat:Nat):Int)=118))) (An rfl ?_)))
 by_cases fG:((aF.toNat:Nat):Int)=118
 refine jT (dT fG) (sr (Mz rfl (Kz (.pointer (some ⟨c,0,none⟩)) (Kz (.pointer (some ⟨c,10,none⟩)) (An rfl (rt (bR (tR (rs (Mz rfl (Kz (.pointer (some ⟨c,10,none⟩)) ?_)))))))))))
 have vY:=eT.pk [2,0,1,3,4,5,6,7]
 refine bz [.int .u64 ((bT:Nat):Int)] 10 vY Tryz.sizeOf22 ?_
 intro BU vZ
 refine WL.nil (bN (bN (yL (yK (fw (.int .i64 ((b+1:Nat):Int)) (yS (e:=IntKind.i64.wrap (((b:Nat):Int)+1)) yk (by rw [BI _ (by omega)]; omega)) (Mz rfl (WL.nil ?_)))))))
 have wh:=vZ.pk [2,0,1,3,4,5,6,7]
 exact yY (b+1,X,Y,J,K,L,M,bT,O,P,Q,R,Z,ae,ag,bi,bq,t,bu,bv,bL,u,bA,bB,x,eG,eH,bU.xB.ls,bU.xE) ⟨rfl,rfl,rfl,rfl,rfl,rfl,trivial⟩ (aQ.2 ⟨wh,by exact bF,by exact(aj.trans aC dm),by omega,by first | omega | exact BJ _,by first | omega | exact BJ _,by first | omega | exact BJ _,by omega,by omega,by omega,by omega,by omega,by omega,by omega,by omega,by omega,et (bG) (et (congrArg (fun q=>bS o av ax q X Y J K L M N O P Q R Z ae ag t u x h ai) bI) (et (iN cu) (et (iN cZ) (et (iN dw) (et (iN dz) (et (iN dC) (et (iN dP) (et (iN dR) (et (aa dH) (et (iN dU) (et (iN eO) (et (iN eU) (et (iN fe) (ip fG))))))))))))))⟩) (by show f.length - (b+1) < f.length - b; omega)
 refine jF (dF fG) (sr (Kz (.bool (decide (((aF.toNat:Nat):Int)=101))) (An rfl ?_)))
 by_cases fM:((aF.toNat:Nat):Int)=101
 refine jT (dT fM) (sr (Mz rfl (Kz (.pointer (some ⟨c,0,none⟩)) (Kz (.pointer (some ⟨c,11,none⟩)) (An rfl (rt (bR (tR (rs (Mz rfl (Kz (.pointer (some ⟨c,11,none⟩)) ?_)))))))))))
 have wm:=eT.pk [2,0,1,3,4,5,6,7]
 refine bz [.int .u64 ((bT:Nat):Int)] 11 wm Tryz.sizeOf22 ?_
 intro BV wo
 refine WL.nil (bN (bN (yL (yK (fw (.int .i64 ((b+1:Nat):Int)) (yS (e:=IntKind.i64.wrap (((b:Nat):Int)+1)) yk (by rw [BI _ (by omega)]; omega)) (Mz rfl (WL.nil ?_)))))))
 have wu:=wo.pk [2,0,1,3,4,5,6,7]
 exact yY (b+1,X,Y,J,K,L,M,N,bT,P,Q,R,Z,ae,ag,bi,bq,t,bu,bv,bL,u,bA,bB,x,eG,eH,bU.xB.ls,bU.xE) ⟨rfl,rfl,rfl,rfl,rfl,rfl,trivial⟩ (aQ.2 ⟨wu,by exact bF,by exact(aj.trans aC dm),by omega,by first | omega | exact BJ _,by first | omega | exact BJ _,by first | omega | exact BJ _,by omega,by omega,by omega,by omega,by omega,by omega,by omega,by omega,by omega,et (bG) (et (congrArg (fun q=>bS o av ax q X Y J K L M N O P Q R Z ae ag t u x h ai) bI) (et (iN cu) (et (iN cZ) (et (iN dw) (et (iN dz) (et (iN dC) (et (iN dP) (et (iN dR) (et (aa dH) (et (iN dU) (et (iN eO) (et (iN eU) (et (iN fe) (et (iN fG) (ip fM)))))))))))))))⟩) (by show f.length - (b+1) < f.length - b; omega)
 refine jF (dF fM) (sr (Kz (.bool (decide (((aF.toNat:Nat):Int)=109))) (An rfl ?_)))
 by_cases gQ:((aF.toNat:Nat):Int)=109
 refine jT (dT gQ) (sr (Mz rfl (Kz (.pointer (some ⟨c,0,none⟩)) (Kz (.pointer (some ⟨c,12,none⟩)) (An rfl (rt (bR (tR (rs (Mz rfl (Kz (.pointer (some ⟨c,12,none⟩)) ?_)))))))))))
 have ww:=eT.pk [2,0,1,3,4,5,6,7]
 refine bz [.int .u64 ((bT:Nat):Int)] 12 ww Tryz.sizeOf22 ?_
 intro BX wy
 refine WL.nil (bN (bN (yL (yK (fw (.int .i64 ((b+1:Nat):Int)) (yS (e:=IntKind.i64.wrap (((b:Nat):Int)+1)) yk (by rw [BI _ (by omega)]; omega)) (Mz rfl (WL.nil ?_)))))))
 have wz:=wy.pk [2,0,1,3,4,5,6,7]
 exact yY (b+1,X,Y,J,K,L,M,N,O,bT,Q,R,Z,ae,ag,bi,bq,t,bu,bv,bL,u,bA,bB,x,eG,eH,bU.xB.ls,bU.xE) ⟨rfl,rfl,rfl,rfl,rfl,rfl,trivial⟩ (aQ.2 ⟨wz,by exact bF,by exact(aj.trans aC dm),by omega,by first | omega | exact BJ _,by first | omega | exact BJ _,by first | omega | exact BJ _,by omega,by omega,by omega,by omega,by omega,by omega,by omega,by omega,by omega,et (bG) (et (congrArg (fun q=>bS o av ax q X Y J K L M N O P Q R Z ae ag t u x h ai) bI) (et (iN cu) (et (iN cZ) (et (iN dw) (et (iN dz) (et (iN dC) (et (iN dP) (et (iN dR) (et (aa dH) (et (iN dU) (et (iN eO) (et (iN eU) (et (iN fe) (et (iN fG) (et (iN fM) (ip gQ))))))))))))))))⟩) (by show f.length - (b+1) < f.length - b; omega)
 refine jF (dF gQ) (sr (Kz (.bool (decide (((aF.toNat:Nat):Int)=97))) (An rfl ?_)))
 by_cases iX:((aF.toNat:Nat):Int)=97
 refine jT (dT iX) (sr (Mz rfl (Kz (.pointer (some ⟨c,0,none⟩)) (Kz (.pointer (some ⟨c,13,none⟩)) (An rfl (rt (bR (tR (rs (Mz rfl (Kz (.pointer (some ⟨c,13,none⟩)) ?_)))))))))))
 have wB:=eT.pk [2,0,1,3,4,5,6,7]
 refine bz [.int .u64 ((bT:Nat):Int)] 13 wB Tryz.sizeOf22 ?_
 intro BZ wC
 refine WL.nil (bN (bN (yL (yK (fw (.int .i64 ((b+1:Nat):Int)) (yS (e:=IntKind.i64.wrap (((b:Nat):Int)+1)) yk (by rw [BI _ (by omega)]; omega)) (Mz rfl (WL.nil ?_)))))))
 have wD:=wC.pk [2,0,1,3,4,5,6,7]
 exact yY (b+1,X,Y,J,K,L,M,N,O,P,bT,R,Z,ae,ag,bi,bq,t,bu,bv,bL,u,bA,bB,x,eG,eH,bU.xB.ls,bU.xE) ⟨rfl,rfl,rfl,rfl,rfl,rfl,trivial⟩ (aQ.2 ⟨wD,by exact bF,by exact(aj.trans aC dm),by omega,by first | omega | exact BJ _,by first | omega | exact BJ _,by first | omega | exact BJ _,by omega,by omega,by omega,by omega,by omega,by omega,by omega,by omega,by omega,et (bG) (et (congrArg (fun q=>bS o av ax q X Y J K L M N O P Q R Z ae ag t u x h ai) bI) (et (iN cu) (et (iN cZ) (et (iN dw) (et (iN dz) (et (iN dC) (et (iN dP) (et (iN dR) (et (aa dH) (et (iN dU) (et (iN eO) (et (iN eU) (et (iN fe) (et (iN fG) (et (iN fM) (et (iN gQ) (ip iX)))))))))))))))))⟩) (by show f.length - (b+1) < f.length - b; omega)
 refine jF (dF iX) (sr (Kz (.bool (decide (((aF.toNat:Nat):Int)=110))) (An rfl ?_)))
 by_cases mP:((aF.toNat:Nat):Int)=110
 refine jT (dT mP) (sr (Mz rfl (Kz (.pointer (some ⟨c,0,none⟩)) (Kz (.pointer (some ⟨c,14,none⟩)) (An rfl (rt (bR (tR (rs (Mz rfl (Kz (.pointer (some ⟨c,14,none⟩)) ?_)))))))))))
 have wE:=eT.pk [2,0,1,3,4,5,6,7]
 refine bz [.int .u64 ((bT:Nat):Int)] 14 wE Tryz.sizeOf22 ?_
 intro Ca wF
 refine WL.nil (bN (bN (yL (yK (fw (.int .i64 ((b+1:Nat):Int)) (yS (e:=IntKind.i64.wrap (((b:Nat):Int)+1)) yk (by rw [BI _ (by omega)]; omega)) (Mz rfl (WL.nil ?_)))))))
 have wG:=wF.pk [2,0,1,3,4,5,6,7]
 exact yY (b+1,X,Y,J,K,L,M,N,O,P,Q,bT,Z,ae,ag,bi,bq,t,bu,bv,bL,u,bA,bB,x,eG,eH,bU.xB.ls,bU.xE) ⟨rfl,rfl,rfl,rfl,rfl,rfl,trivial⟩ (aQ.2 ⟨wG,by exact bF,by exact(aj.trans aC dm),by omega,by first | omega | exact BJ _,by first | omega | exact BJ _,by first | omega | exact BJ _,by omega,by omega,by omega,by omega,by omega,by omega,by omega,by omega,by omega,et (bG) (et (congrArg (fun q=>bS o av ax q X Y J K L M N O P Q R Z ae ag t u x h ai) bI) (et (iN cu) (et (iN cZ) (et (iN dw) (et (iN dz) (et (iN dC) (et (iN dP) (et (iN dR) (et (aa dH) (et (iN dU) (et (iN eO) (et (iN eU) (et (iN fe) (et (iN fG) (et (iN fM) (et (iN gQ) (et (iN iX) (ip mP))))))))))))))))))⟩) (by show f.length - (b+1) < f.length - b; omega)
 exfalso; have q9:=tL gY gZ; omega
 refine jF (dF lX) (Wp.exit (yV ?_))
 have qm:bS o av ax f 0 0 0 0 0 0 0 0 0 0 0 false ([]) ([]) ([]) ([]) ([]) aL.xB.ls aL.xE=(J,K,L,M,N,u,X,Y,O,P,Q,R,Z,ae,ag,t,x,h,ai):=et (bG) (et (congrArg (fun q=>bS o av ax q X Y J K L M N O P Q R Z ae ag t u x h ai) (dZ (ls:=f) (i:=b) (by omega))) rfl)
 refine yV (y8 (yL (sr (La (bf o av ax 0 X Y J K L M N O P Q R Z ae ag bi t.length bq bu u.length bv bA x.length bB) dO 1 Tryz.isAgg29 Tryz.sizeOf29 ?_))))
 have wH:=dO.pk [3,0,1,2,4,5,6,7]
 refine bz (bf o av ax 0 X Y J K L M N O P Q R Z ae ag bi t.length bq bu u.length bv bA x.length bB) 0 wH Tryz.sizeOf29 ?_
 intro Cb mQ
 refine nt (rt (y9 (l6 rfl rfl (zg (cs:=(bf o av ax 0 X Y J K L M N O P Q R Z ae ag bi t.length bq bu u.length bv bA x.length bB)) Tryz.isAgg29 Tryz.sizeOf29 ((mQ.cls (i:=0) rfl).lit (k:=0) (m:=21) rfl))) ?_))
 have wI:=mQ.pk [4,5,6,7,3]
 have e:jS p0=(bE.mk o av ax 0 X Y J K L M N O P Q R Z (bC.mk ae ag) (Ll.mk t) (Ll.mk u) (Ll.mk x),RT.mk (Ll.mk h) ai):=et (aa jb) (et (iN fo) (et (aa jQ) (et (aa jV) (et (aa gY) (aa qm)))))
 obtain⟨rfl,rfl⟩:=dN (e.symm.trans hr)
 exact⟨bi,bq,bu,bv,bA,bB,bL,bM,aI,rfl,wI,bF,(aj.trans (aj.trans (aj.trans aJ bY) cB) aC),(by first | omega | (dsimp only; omega) | (simp only [List.length_nil]; omega) | (refine⟨?_, ?_⟩ <;> (dsimp only; omega)))⟩
def iw (f:List UInt8):bE × Int:=
 bnd (iQ f) fun b=>if b.2=0 then bnd (jS (RT.mk (Ll.mk b.1) 0)) fun a=>if a.2.xE=0 then if((a.2.xB.ls.length:Nat):Int) > 0 then bnd (dL a.2 11) fun e=>if e.xE=0 then bnd (dC a.1) fun c=>if c=0 then(a.1,0) else(bE.mk 0 0 0 0 0 0 0 0 0 0 0 0 0 0 0 false (bC.mk ([]) ([])) (Ll.mk ([])) (Ll.mk ([])) (Ll.mk ([])),c) else(bE.mk 0 0 0 0 0 0 0 0 0 0 0 0 0 0 0 false (bC.mk ([]) ([])) (Ll.mk ([])) (Ll.mk ([])) (Ll.mk ([])),e.xE) else bnd (dC a.1) fun d=>if d=0 then(a.1,0) else(bE.mk 0 0 0 0 0 0 0 0 0 0 0 0 0 0 0 false (bC.mk ([]) ([])) (Ll.mk ([])) (Ll.mk ([])) (Ll.mk ([])),d) else(bE.mk 0 0 0 0 0 0 0 0 0 0 0 0 0 0 0 false (bC.mk ([]) ([])) (Ll.mk ([])) (Ll.mk ([])) (Ll.mk ([])),a.2.xE) else(bE.mk 0 0 0 0 0 0 0 0 0 0 0 0 0 0 0 false (bC.mk ([]) ([])) (Ll.mk ([])) (Ll.mk ([])) (Ll.mk ([])),b.2)
set_option maxHeartbeats 4000000 in
theorem rH (w:World) (D:Nat→Prop) (A0:Option Addr) (n0 c0:Nat) (K:List UInt8) (C:bE) (r1:Int) (H:Own w D w []) (eu:Ro w D fun w'=>bD w' 1 A0 n0 (List.flatMap eB K)) (eD:n0=K.length) (fO:K.length *1≤211106232532992) (fP:K.length≤c0) (hr:iw K=(C,r1)):
    Calls Tryz.prog 14 #[.slice A0 n0 c0] w (cO fun v w'=> ∃ (aJ:Option Addr) (aK:Nat) (aL:Option Addr) (aN:Nat) (aO:Option Addr) (aP:Nat) (av:List af),v= .tuple #[.agg (aM C aJ aK aL aN aO aP).toArray, .int .i64 r1]∧Own w D w' [row aJ C.ax.ls.length aK (List.flatMap aB.cells C.ax.ls) 64 6,row aL C.ah.ls.length aN (List.flatMap af.cells av) 84 3,sepL (List.flatMap yQ av),row aO C.ai.ls.length aP (List.flatMap aA.cells C.ai.ls) 88 2]∧(List.map zh av=C.ah.ls)∧(C.ax.ls.length≤1000∧C.ah.ls.length≤1000∧C.ai.ls.length≤1000∧C.bG≤18446744073709551615∧C.aY≤18446744073709551615∧C.bF≤18446744073709551615∧C.bH≤18446744073709551615∧C.bL≤18446744073709551615∧C.aV≤18446744073709551615∧C.bB≤18446744073709551615∧C.aK≤18446744073709551615∧C.xN≤18446744073709551615)):=by
 subst eD
 refine yR (args:= [.slice A0 K.length c0]) Tryz.func14 rfl rfl rfl ?_
 show Wp _ _ _ [(0, .slice A0 K.length c0)] _ _
 refine sr ?_
 refine dE (bf 0 0 0 0 0 0 0 0 0 0 0 0 0 0 0 false ([]) ([]) none 0 0 none 0 0 none 0 0) 29 H ?_
 intro r fQ eF
 refine Ar rfl (Mz rfl ?_)
 obtain⟨⟨l,M⟩,z⟩:∃ q:(List UInt8) × Int,iQ K=q:=⟨_,rfl⟩
 obtain⟨fT,bH,bJ,bK,eY⟩:=yP eF
 refine cl Tryz.call44 (sQ _ _ A0 K.length c0 K l M bH (bJ _ eu) rfl (by omega) (by first | omega | (simp only [List.length_take,List.length_drop]; omega) | exact Nat.le_refl _) z) ?_
 rintro _ fU ⟨x,s,rfl,bL,aQ⟩
 have aX:=bK _ _ bL
 have eZ:=aX.rowC (i:=0) rfl
 replace aQ:l.length≤K.length:=aQ
 refine Mz rfl (Kz (.slice x l.length s) (Kz (.int .i64 M) (Az rfl (An rfl (yJ (sr (Mz rfl (fw (.bool (decide (¬ (M=0)))) (za (e:= !(decide (M=0))) yk decide_not.symm) (nt ?_)))))))))
 by_cases G:M=0
 refine jF (dF (BK G)) (sk (sr (Mz rfl (Kz (.agg #[.slice x l.length s, .int .i64 0]) ?_))))
 refine dE [.slice x l.length s, .int .i64 0] 75 aX ?_
 intro p fV eG
 refine Ar rfl (Mz rfl ?_)
 obtain⟨⟨a,n⟩,A⟩:∃ q:bE × RT,jS (RT.mk (Ll.mk l) 0)=q:=⟨_,rfl⟩
 obtain⟨fZ,bM,fe,bN,bO⟩:=yT eG
 refine cl Tryz.call45 (sF _ _ p (RT.mk (Ll.mk l) 0) x s a n bM (bO _ 0 _ rfl bI) (show l.length≤s∧l.length≤9223372036854775807 from by omega) A) ?_
 rintro _ gm ⟨f,b,g,c,h,d,j,I,B,rfl,bQ,L,R,aR⟩
 have aI:=bN _ _ bQ
 replace R:aj 1 x s l I B n.xB.ls:=R
 have fo:=(R).le
 have fq:=dG L
 have fu:=aI.rowC (i:=0) rfl
 have fA:=aI.rowC (i:=1) rfl
 have fB:=aI.rowC (i:=3) rfl
 replace aR:a.ax.ls.length≤1000∧a.ah.ls.length≤1000∧a.ai.ls.length≤1000∧a.bG≤18446744073709551615∧a.aY≤18446744073709551615∧a.bF≤18446744073709551615∧a.bH≤18446744073709551615∧a.bL≤18446744073709551615∧a.aV≤18446744073709551615∧a.bB≤18446744073709551615∧a.aK≤18446744073709551615∧a.xN≤18446744073709551615:=aR
 refine dE (bf 0 0 0 0 0 0 0 0 0 0 0 0 0 0 0 false ([]) ([]) none 0 0 none 0 0 none 0 0) 29 aI ?_
 intro y gp eH
 refine bz (aM a f b g c h d) 0 eH Tryz.sizeOf29 ?_
 intro eO N
 refine nt (yJ (sr (Mz rfl (Kz (.pointer (some ⟨p,0,none⟩)) (Kz (.pointer (some ⟨p,1,none⟩)) (Lz (.int .i64 n.xE) N 5 Tryz.isAgg32 (Kz (.bool (decide (n.xE=0))) (Mz rfl ?_))))))))
 by_cases t:n.xE=0
 refine gw (.pointer (some ⟨p,0,none⟩)) (dT t) (yO rfl) (Gz (.pointer (some ⟨p,0,none⟩)) (dT t) (Gz (.pointer (some ⟨p,0,none⟩)) (dT t) (Gl (.slice I n.xB.ls.length B) (dT t) N 5 Tryz.isAgg31 (Gz (.int .i64 ((n.xB.ls.length:Nat):Int)) (dT t) (Gz (.bool (decide (((n.xB.ls.length:Nat):Int) > 0))) (dT t) (fw (.bool (decide (((n.xB.ls.length:Nat):Int) > 0))) (yN rfl (dT t) rfl) (nt ?_)))))))
 by_cases O:((n.xB.ls.length:Nat):Int) > 0
 refine jT (dT O) (yK (Mz rfl ?_))
 have eP:=N.pk [5,0,1,2,3,4,6,7]
 obtain⟨u,S⟩:∃ q,dL n 11=q:=⟨_,rfl⟩
 obtain⟨gq,bR,fC,bS,bU⟩:=yT eP
 refine cl Tryz.call46 (je _ _ p n I B 11 u bR (fun w9 h9=>aj.rds ay (by decide) R ((bU _ 5 _ rfl bI) w9 h9)) (show n.xB.ls.length≤B∧n.xB.ls.length≤9223372036854775807 from by omega) S) ?_
 rintro _ eQ ⟨ak,au,rfl,bV,ax⟩
 have aZ:=bS _ _ bV
 replace ax:aj 1 I B n.xB.ls ak au u.xB.ls:=ax
 have fD:=(ax).le
 refine nt (yJ (sr (Mz rfl (Kz (.pointer (some ⟨p,0,none⟩)) (Kz (.pointer (some ⟨p,1,none⟩)) (Lz (.int .i64 u.xE) aZ 0 Tryz.isAgg32 (fw (.bool (decide (¬ (u.xE=0)))) (za (e:= !(decide (u.xE=0))) yk decide_not.symm) (nt ?_))))))))
 by_cases az:u.xE=0
 refine jF (dF (BK az)) (sk (yJ (yJ ?_)))
 have bg:=aZ.pk [1,2,3,4,5,7]
 refine yK (La (aM a f b g c h d) bg 0 Tryz.isAgg29 Tryz.sizeOf29 ?_)
 obtain⟨E,P⟩:∃ q,dC a=q:=⟨_,rfl⟩
 obtain⟨gy,bW,fE,bX,T⟩:=yP bg
 refine cl Tryz.call12 (pu _ _ a f a.ax.ls.length b g a.ah.ls.length c j h a.ai.ls.length d E bW rfl (T _ 1 _ rfl bI) (show a.ax.ls.length≤b∧a.ax.ls.length≤9223372036854775807 from by omega) L rfl (T _ 2 _ rfl bI) (show a.ah.ls.length≤c∧a.ah.ls.length≤9223372036854775807 from by omega) (fun x9 h9=>⟨T _ 3 _ rfl (iH (List.mem_flatMap.2 ⟨x9,h9, .head _⟩) bI),kY (φ:=fun _=>_) bg (i:=3) rfl (iH (List.mem_flatMap.2 ⟨x9,h9, .head _⟩) lK)⟩) rfl (T _ 4 _ rfl bI) (show a.ai.ls.length≤d∧a.ai.ls.length≤9223372036854775807 from by omega) P) ?_
 rintro _ fF ⟨rfl,bi⟩
 have aC:=bX _ _ bi
 refine Ar rfl (Mz rfl (fw (.bool (decide (¬ (E=0)))) (za (e:= !(decide (E=0))) yk decide_not.symm) (nt ?_)))
 by_cases U:E=0
 refine jF (dF (BK U)) (sk (sr (La (aM a f b g c h d) aC 0 Tryz.isAgg29 Tryz.sizeOf29 ?_)))
 have bZ:=aC.pk [5,0,1,2,3,4]
 refine bz (aM a f b g c h d) 0 bZ Tryz.sizeOf29 ?_
 intro fG aS
 refine An rfl (rt (y9 (iq (vs:= [.agg (aM a f b g c h d).toArray, .int .i64 0]) rfl (bT.cell rfl (zg (cs:=(aM a f b g c h d)) Tryz.isAgg29 Tryz.sizeOf29 ((aS.cls (i:=0) rfl).lit (k:=0) (m:=21) rfl)) (bT.tmp rfl bT.nil)) (BH rfl)) ?_))
 have cu:=aS.pk [2,3,4,5]
 have e:iw K=(a,0):=et (aa z) (et (ip G) (et (aa A) (et (ip t) (et (ip O) (et (aa S) (et (ip az) (et (aa P) (ip U))))))))
 obtain⟨rfl,rfl⟩:=dN (e.symm.trans hr)
 exact⟨f,b,g,c,h,d,j,rfl,cu,L,(by first | omega | (dsimp only; omega) | (simp only [List.length_nil]; omega) | (refine⟨?_, ?_⟩ <;> (dsimp only; omega)))⟩
 refine jT (dT U) (sr (Kz (.agg (bf 0 0 0 0 0 0 0 0 0 0 0 0 0 0 0 false ([]) ([]) none 0 0 none 0 0 none 0 0).toArray) (Mz rfl ?_)))
 have cz:=aC.pk [5,0,1,2,3,4]
 refine bz (bf 0 0 0 0 0 0 0 0 0 0 0 0 0 0 0 false ([]) ([]) none 0 0 none 0 0 none 0 0) 0 cz Tryz.sizeOf29 ?_
 intro V aT
 refine An rfl (rt (tR (y9 (iq (vs:= [.agg (bf 0 0 0 0 0 0 0 0 0 0 0 0 0 0 0 false ([]) ([]) none 0 0 none 0 0 none 0 0).toArray, .int .i64 E]) rfl (bT.cell rfl (zg (cs:=(bf 0 0 0 0 0 0 0 0 0 0 0 0 0 0 0 false ([]) ([]) none 0 0 none 0 0 none 0 0)) Tryz.isAgg29 Tryz.sizeOf29 ((aT.cls (i:=0) rfl).lit (k:=0) (m:=21) rfl)) (bT.tmp rfl bT.nil)) (BH rfl)) ?_)))
 have cB:Own w D V [row none 0 0 (List.flatMap aB.cells ([])) 64 6,blk r (bf 0 0 0 0 0 0 0 0 0 0 0 0 0 0 0 false ([]) ([]) none 0 0 none 0 0 none 0 0) 29,blk y (aM a f b g c h d) 29,row f a.ax.ls.length b (List.flatMap aB.cells a.ax.ls) 64 6,row g a.ah.ls.length c (List.flatMap af.cells j) 84 3,sepL (List.flatMap yQ j),row h a.ai.ls.length d (List.flatMap aA.cells a.ai.ls) 88 2]:=aT.free (bP 64 6)
 have cK:Own w D V [sepL (List.flatMap yQ ([])),row none 0 0 (List.flatMap aB.cells ([])) 64 6,blk r (bf 0 0 0 0 0 0 0 0 0 0 0 0 0 0 0 false ([]) ([]) none 0 0 none 0 0 none 0 0) 29,blk y (aM a f b g c h d) 29,row f a.ax.ls.length b (List.flatMap aB.cells a.ax.ls) 64 6,row g a.ah.ls.length c (List.flatMap af.cells j) 84 3,sepL (List.flatMap yQ j),row h a.ai.ls.length d (List.flatMap aA.cells a.ai.ls) 88 2]:=cB.sepNil
 have cZ:Own w D V [row none 0 0 (List.flatMap af.cells ([])) 84 3,sepL (List.flatMap yQ ([])),row none 0 0 (List.flatMap aB.cells ([])) 64 6,blk r (bf 0 0 0 0 0 0 0 0 0 0 0 0 0 0 0 false ([]) ([]) none 0 0 none 0 0 none 0 0) 29,blk y (aM a f b g c h d) 29,row f a.ax.ls.length b (List.flatMap aB.cells a.ax.ls) 64 6,row g a.ah.ls.length c (List.flatMap af.cells j) 84 3,sepL (List.flatMap yQ j),row h a.ai.ls.length d (List.flatMap aA.cells a.ai.ls) 88 2]:=cK.free (bP 84 3)
 have df:Own w D V [row none 0 0 (List.flatMap aA.cells ([])) 88 2,row none 0 0 (List.flatMap af.cells ([])) 84 3,sepL (List.flatMap yQ ([])),row none 0 0 (List.flatMap aB.cells ([])) 64 6,blk r (bf 0 0 0 0 0 0 0 0 0 0 0 0 0 0 0 false ([]) ([]) none 0 0 none 0 0 none 0 0) 29,blk y (aM a f b g c h d) 29,row f a.ax.ls.length b (List.flatMap aB.cells a.ax.ls) 64 6,row g a.ah.ls.length c (List.flatMap af.cells j) 84 3,sepL (List.flatMap yQ j),row h a.ai.ls.length d (List.flatMap aA.cells a.ai.ls) 88 2]:=cZ.free (bP 88 2)
 have dh:=df.pk [3,1,2,0]
 have e:iw K=(bE.mk 0 0 0 0 0 0 0 0 0 0 0 0 0 0 0 false (bC.mk ([]) ([])) (Ll.mk ([])) (Ll.mk ([])) (Ll.mk ([])),E):=et (aa z) (et (ip G) (et (aa A) (et (ip t) (et (ip O) (et (aa S) (et (ip az) (et (aa P) (iN U))))))))
 obtain⟨rfl,rfl⟩:=dN (e.symm.trans hr)
 exact⟨none,0,none,0,none,0, [],rfl,dh,rfl,(by first | omega | (dsimp only; omega) | (simp only [List.length_nil]; omega) | (refine⟨?_, ?_⟩ <;> (dsimp only; omega)))⟩
 refine jT (dT az) (yJ ?_)
 have X:=aZ.drew
 refine zt [] (fun W=> ∃ L',Own w D W ([blk p [.slice ak u.xB.ls.length au, .int .i64 u.xE] 75,blk y (aM a f b g c h d) 29,row f a.ax.ls.length b (List.flatMap aB.cells a.ax.ls) 64 6,row g a.ah.ls.length c (List.flatMap af.cells j) 84 3,sepL (List.flatMap yQ j),row h a.ai.ls.length d (List.flatMap aA.cells a.ai.ls) 88 2,row x l.length s (List.flatMap eB l) 5 1]++L')) (by kernel_rfl) (by kernel_rfl) (zb (zb zw)) ⟨_,X⟩ ?_
 revert X
 generalize World.drew eQ=fH
 intro X
 refine GX.take (v:= .agg (bf 0 0 0 0 0 0 0 0 0 0 0 0 0 0 0 false ([]) ([]) none 0 0 none 0 0 none 0 0).toArray) (rs:= []) 0 rfl (by kernel_rfl) (fun _ _=>yk) (GX.take (v:= .pointer (some ⟨p,0,none⟩)) (rs:= []) 1 rfl (by kernel_rfl) (fun _ _=>yO rfl) (GX.take (v:= .pointer (some ⟨p,0,none⟩)) (rs:= []) 2 rfl (by kernel_rfl) (fun _ _=>yk) (GX.take (v:= .pointer (some ⟨p,1,none⟩)) (rs:= []) 3 rfl (by kernel_rfl) (fun _ _=>yk) (GX.take (v:= .int .i64 u.xE) (rs:= []) 4 rfl (by kernel_rfl) (fun _ ⟨_,H9⟩=>y5 rfl (bn.one Tryz.isAgg32 (zq (H9.cls (i:=0) rfl) rfl))) ?_))))
 have di:=X.pk [7,0,1,2,3,4,5,6]
 refine Ak 5 rfl (by kernel_rfl) (Do.store (vs:=(bf 0 0 0 0 0 0 0 0 0 0 0 0 0 0 0 false ([]) ([]) none 0 0 none 0 0 none 0 0)) (o:=0) di rfl rfl Tryz.sizeOf29 rfl rfl rfl rfl ?_)
 intro Y dm
 have aD:=dm.pk [1,2,3,4,5,6,7,0]
 refine⟨.inr ⟨_,aD⟩, ?_⟩
 refine GX.take (v:= .int .i64 u.xE) (rs:= []) 6 rfl (by kernel_rfl) (fun _ _=>zo rfl) (zk (by kernel_rfl) (yL (rt (tR (y9 (iq (vs:= [.agg (bf 0 0 0 0 0 0 0 0 0 0 0 0 0 0 0 false ([]) ([]) none 0 0 none 0 0 none 0 0).toArray, .int .i64 u.xE]) rfl (bT.cell rfl (zg (cs:=(bf 0 0 0 0 0 0 0 0 0 0 0 0 0 0 0 false ([]) ([]) none 0 0 none 0 0 none 0 0)) Tryz.isAgg29 Tryz.sizeOf29 ((aD.cls (i:=7) rfl).lit (k:=0) (m:=21) rfl)) (bT.tmp rfl bT.nil)) (BH rfl)) ?_)))))
 have dn:Own w D Y [row none 0 0 (List.flatMap aB.cells ([])) 64 6,blk p [.slice ak u.xB.ls.length au, .int .i64 u.xE] 75,blk y (aM a f b g c h d) 29,row f a.ax.ls.length b (List.flatMap aB.cells a.ax.ls) 64 6,row g a.ah.ls.length c (List.flatMap af.cells j) 84 3,sepL (List.flatMap yQ j),row h a.ai.ls.length d (List.flatMap aA.cells a.ai.ls) 88 2,row x l.length s (List.flatMap eB l) 5 1,blk r (bf 0 0 0 0 0 0 0 0 0 0 0 0 0 0 0 false ([]) ([]) none 0 0 none 0 0 none 0 0) 29]:=aD.free (bP 64 6)
 have dw:Own w D Y [sepL (List.flatMap yQ ([])),row none 0 0 (List.flatMap aB.cells ([])) 64 6,blk p [.slice ak u.xB.ls.length au, .int .i64 u.xE] 75,blk y (aM a f b g c h d) 29,row f a.ax.ls.length b (List.flatMap aB.cells a.ax.ls) 64 6,row g a.ah.ls.length c (List.flatMap af.cells j) 84 3,sepL (List.flatMap yQ j),row h a.ai.ls.length d (List.flatMap aA.cells a.ai.ls) 88 2,row x l.length s (List.flatMap eB l) 5 1,blk r (bf 0 0 0 0 0 0 0 0 0 0 0 0 0 0 0 false ([]) ([]) none 0 0 none 0 0 none 0 0) 29]:=dn.sepNil
 have dx:Own w D Y [row none 0 0 (List.flatMap af.cells ([])) 84 3,sepL (List.flatMap yQ ([])),row none 0 0 (List.flatMap aB.cells ([])) 64 6,blk p [.slice ak u.xB.ls.length au, .int .i64 u.xE] 75,blk y (aM a f b g c h d) 29,row f a.ax.ls.length b (List.flatMap aB.cells a.ax.ls) 64 6,row g a.ah.ls.length c (List.flatMap af.cells j) 84 3,sepL (List.flatMap yQ j),row h a.ai.ls.length d (List.flatMap aA.cells a.ai.ls) 88 2,row x l.length s (List.flatMap eB l) 5 1,blk r (bf 0 0 0 0 0 0 0 0 0 0 0 0 0 0 0 false ([]) ([]) none 0 0 none 0 0 none 0 0) 29]:=dw.free (bP 84 3)
 have dz:Own w D Y [row none 0 0 (List.flatMap aA.cells ([])) 88 2,row none 0 0 (List.flatMap af.cells ([])) 84 3,sepL (List.flatMap yQ ([])),row none 0 0 (List.flatMap aB.cells ([])) 64 6,blk p [.slice ak u.xB.ls.length au, .int .i64 u.xE] 75,blk y (aM a f b g c h d) 29,row f a.ax.ls.length b (List.flatMap aB.cells a.ax.ls) 64 6,row g a.ah.ls.length c (List.flatMap af.cells j) 84 3,sepL (List.flatMap yQ j),row h a.ai.ls.length d (List.flatMap aA.cells a.ai.ls) 88 2,row x l.length s (List.flatMap eB l) 5 1,blk r (bf 0 0 0 0 0 0 0 0 0 0 0 0 0 0 0 false ([]) ([]) none 0 0 none 0 0 none 0 0) 29]:=dx.free (bP 88 2)
 have dA:=dz.pk [3,1,2,0]
 have e:iw K=(bE.mk 0 0 0 0 0 0 0 0 0 0 0 0 0 0 0 false (bC.mk ([]) ([])) (Ll.mk ([])) (Ll.mk ([])) (Ll.mk ([])),u.xE):=et (aa z) (et (ip G) (et (aa A) (et (ip t) (et (ip O) (et (aa S) (iN az))))))
 obtain⟨rfl,rfl⟩:=dN (e.symm.trans hr)
 exact⟨none,0,none,0,none,0, [],rfl,dA,rfl,(by first | omega | (dsimp only; omega) | (simp only [List.length_nil]; omega) | (refine⟨?_, ?_⟩ <;> (dsimp only; omega)))⟩
 refine jF (dF O) (sk (yJ (sr (Mz rfl (Kz (.pointer (some ⟨p,0,none⟩)) (Kz (.pointer (some ⟨p,1,none⟩)) (Lz (.int .i64 n.xE) N 5 Tryz.isAgg32 (fw (.bool (decide (¬ (n.xE=0)))) (za (e:= !(decide (n.xE=0))) yk decide_not.symm) (nt ?_)))))))))
 have bq:(decide (¬ (n.xE=0)))=false:=(dF (by omega))
 refine jF bq (sk (yJ (yJ ?_)))
 have aF:=N.pk [0,1,2,3,4,7]
 refine yK (La (aM a f b g c h d) aF 0 Tryz.isAgg29 Tryz.sizeOf29 ?_)
 obtain⟨F,Q⟩:∃ q,dC a=q:=⟨_,rfl⟩
 obtain⟨fI,bu,eU,bv,J⟩:=yP aF
 refine cl Tryz.call12 (pu _ _ a f a.ax.ls.length b g a.ah.ls.length c j h a.ai.ls.length d F bu rfl (J _ 1 _ rfl bI) (show a.ax.ls.length≤b∧a.ax.ls.length≤9223372036854775807 from by omega) L rfl (J _ 2 _ rfl bI) (show a.ah.ls.length≤c∧a.ah.ls.length≤9223372036854775807 from by omega) (fun x9 h9=>⟨J _ 3 _ rfl (iH (List.mem_flatMap.2 ⟨x9,h9, .head _⟩) bI),kY (φ:=fun _=>_) aF (i:=3) rfl (iH (List.mem_flatMap.2 ⟨x9,h9, .head _⟩) lK)⟩) rfl (J _ 4 _ rfl bI) (show a.ai.ls.length≤d∧a.ai.ls.length≤9223372036854775807 from by omega) Q) ?_
 rintro _ fJ ⟨rfl,bA⟩
 have aG:=bv _ _ bA
 refine Ar rfl (Mz rfl (fw (.bool (decide (¬ (F=0)))) (za (e:= !(decide (F=0))) yk decide_not.symm) (nt ?_)))
 by_cases Z:F=0
 refine jF (dF (BK Z)) (sk (sr (La (aM a f b g c h d) aG 0 Tryz.isAgg29 Tryz.sizeOf29 ?_)))
 have dB:=aG.pk [5,0,1,2,3,4]
 refine bz (aM a f b g c h d) 0 dB Tryz.sizeOf29 ?_
 intro fK aU
 refine An rfl (rt (y9 (iq (vs:= [.agg (aM a f b g c h d).toArray, .int .i64 0]) rfl (bT.cell rfl (zg (cs:=(aM a f b g c h d)) Tryz.isAgg29 Tryz.sizeOf29 ((aU.cls (i:=0) rfl).lit (k:=0) (m:=21) rfl)) (bT.tmp rfl bT.nil)) (BH rfl)) ?_))
 have dD:=aU.pk [2,3,4,5]
 have e:iw K=(a,0):=et (aa z) (et (ip G) (et (aa A) (et (ip t) (et (iN O) (et (aa Q) (ip Z))))))
 obtain⟨rfl,rfl⟩:=dN (e.symm.trans hr)
 exact⟨f,b,g,c,h,d,j,rfl,dD,L,(by first | omega | (dsimp only; omega) | (simp only [List.length_nil]; omega) | (refine⟨?_, ?_⟩ <;> (dsimp only; omega)))⟩
 refine jT (dT Z) (sr (Kz (.agg (bf 0 0 0 0 0 0 0 0 0 0 0 0 0 0 0 false ([]) ([]) none 0 0 none 0 0 none 0 0).toArray) (Mz rfl ?_)))
 have dH:=aG.pk [5,0,1,2,3,4]
 refine bz (bf 0 0 0 0 0 0 0 0 0 0 0 0 0 0 0 false ([]) ([]) none 0 0 none 0 0 none 0 0) 0 dH Tryz.sizeOf29 ?_
 intro ae aV
 refine An rfl (rt (tR (y9 (iq (vs:= [.agg (bf 0 0 0 0 0 0 0 0 0 0 0 0 0 0 0 false ([]) ([]) none 0 0 none 0 0 none 0 0).toArray, .int .i64 F]) rfl (bT.cell rfl (zg (cs:=(bf 0 0 0 0 0 0 0 0 0 0 0 0 0 0 0 false ([]) ([]) none 0 0 none 0 0 none 0 0)) Tryz.isAgg29 Tryz.sizeOf29 ((aV.cls (i:=0) rfl).lit (k:=0) (m:=21) rfl)) (bT.tmp rfl bT.nil)) (BH rfl)) ?_)))
 have dI:Own w D ae [row none 0 0 (List.flatMap aB.cells ([])) 64 6,blk r (bf 0 0 0 0 0 0 0 0 0 0 0 0 0 0 0 false ([]) ([]) none 0 0 none 0 0 none 0 0) 29,blk y (aM a f b g c h d) 29,row f a.ax.ls.length b (List.flatMap aB.cells a.ax.ls) 64 6,row g a.ah.ls.length c (List.flatMap af.cells j) 84 3,sepL (List.flatMap yQ j),row h a.ai.ls.length d (List.flatMap aA.cells a.ai.ls) 88 2]:=aV.free (bP 64 6)
 have dJ:Own w D ae [sepL (List.flatMap yQ ([])),row none 0 0 (List.flatMap aB.cells ([])) 64 6,blk r (bf 0 0 0 0 0 0 0 0 0 0 0 0 0 0 0 false ([]) ([]) none 0 0 none 0 0 none 0 0) 29,blk y (aM a f b g c h d) 29,row f a.ax.ls.length b (List.flatMap aB.cells a.ax.ls) 64 6,row g a.ah.ls.length c (List.flatMap af.cells j) 84 3,sepL (List.flatMap yQ j),row h a.ai.ls.length d (List.flatMap aA.cells a.ai.ls) 88 2]:=dI.sepNil
 have dK:Own w D ae [row none 0 0 (List.flatMap af.cells ([])) 84 3,sepL (List.flatMap yQ ([])),row none 0 0 (List.flatMap aB.cells ([])) 64 6,blk r (bf 0 0 0 0 0 0 0 0 0 0 0 0 0 0 0 false ([]) ([]) none 0 0 none 0 0 none 0 0) 29,blk y (aM a f b g c h d) 29,row f a.ax.ls.length b (List.flatMap aB.cells a.ax.ls) 64 6,row g a.ah.ls.length c (List.flatMap af.cells j) 84 3,sepL (List.flatMap yQ j),row h a.ai.ls.length d (List.flatMap aA.cells a.ai.ls) 88 2]:=dJ.free (bP 84 3)
 have dM:Own w D ae [row none 0 0 (List.flatMap aA.cells ([])) 88 2,row none 0 0 (List.flatMap af.cells ([])) 84 3,sepL (List.flatMap yQ ([])),row none 0 0 (List.flatMap aB.cells ([])) 64 6,blk r (bf 0 0 0 0 0 0 0 0 0 0 0 0 0 0 0 false ([]) ([]) none 0 0 none 0 0 none 0 0) 29,blk y (aM a f b g c h d) 29,row f a.ax.ls.length b (List.flatMap aB.cells a.ax.ls) 64 6,row g a.ah.ls.length c (List.flatMap af.cells j) 84 3,sepL (List.flatMap yQ j),row h a.ai.ls.length d (List.flatMap aA.cells a.ai.ls) 88 2]:=dK.free (bP 88 2)
 have dO:=dM.pk [3,1,2,0]
 have e:iw K=(bE.mk 0 0 0 0 0 0 0 0 0 0 0 0 0 0 0 false (bC.mk ([]) ([])) (Ll.mk ([])) (Ll.mk ([])) (Ll.mk ([])),F):=et (aa z) (et (ip G) (et (aa A) (et (ip t) (et (iN O) (et (aa Q) (iN Z))))))
 obtain⟨rfl,rfl⟩:=dN (e.symm.trans hr)
 exact⟨none,0,none,0,none,0, [],rfl,dO,rfl,(by first | omega | (dsimp only; omega) | (simp only [List.length_nil]; omega) | (refine⟨?_, ?_⟩ <;> (dsimp only; omega)))⟩
 refine Sz (dF t) (Sz (dF t) (Sz (dF t) (Sz (dF t) (Sz (dF t) (Sz (dF t) (fw (.bool false) (yM rfl (dF t) rfl) (nt (jf (sk (yJ (sr (Mz rfl (Kz (.pointer (some ⟨p,0,none⟩)) (Kz (.pointer (some ⟨p,1,none⟩)) (Lz (.int .i64 n.xE) N 5 Tryz.isAgg32 (fw (.bool (decide (¬ (n.xE=0)))) (za (e:= !(decide (n.xE=0))) yk decide_not.symm) (nt ?_)))))))))))))))))
 have bB:(decide (¬ (n.xE=0)))=true:=(dT (by omega))
 refine jT bB (yJ ?_)
 have ag:=N.drew
 refine zt [] (fun W=> ∃ L',Own w D W ([blk y (aM a f b g c h d) 29,row f a.ax.ls.length b (List.flatMap aB.cells a.ax.ls) 64 6,row g a.ah.ls.length c (List.flatMap af.cells j) 84 3,sepL (List.flatMap yQ j),row h a.ai.ls.length d (List.flatMap aA.cells a.ai.ls) 88 2,blk p [.slice I n.xB.ls.length B, .int .i64 n.xE] 75,row x l.length s (List.flatMap eB l) 5 1]++L')) (by kernel_rfl) (by kernel_rfl) (zb (zb zw)) ⟨_,ag⟩ ?_
 revert ag
 generalize World.drew eO=fM
 intro ag
 refine GX.take (v:= .agg (bf 0 0 0 0 0 0 0 0 0 0 0 0 0 0 0 false ([]) ([]) none 0 0 none 0 0 none 0 0).toArray) (rs:= []) 0 rfl (by kernel_rfl) (fun _ _=>yk) (GX.take (v:= .pointer (some ⟨p,0,none⟩)) (rs:= []) 1 rfl (by kernel_rfl) (fun _ _=>yO rfl) (GX.take (v:= .pointer (some ⟨p,0,none⟩)) (rs:= []) 2 rfl (by kernel_rfl) (fun _ _=>yk) (GX.take (v:= .pointer (some ⟨p,1,none⟩)) (rs:= []) 3 rfl (by kernel_rfl) (fun _ _=>yk) (GX.take (v:= .int .i64 n.xE) (rs:= []) 4 rfl (by kernel_rfl) (fun _ ⟨_,H9⟩=>y5 rfl (bn.one Tryz.isAgg32 (zq (H9.cls (i:=5) rfl) rfl))) ?_))))
 have dP:=ag.pk [7,0,1,2,3,4,5,6]
 refine Ak 5 rfl (by kernel_rfl) (Do.store (vs:=(bf 0 0 0 0 0 0 0 0 0 0 0 0 0 0 0 false ([]) ([]) none 0 0 none 0 0 none 0 0)) (o:=0) dP rfl rfl Tryz.sizeOf29 rfl rfl rfl rfl ?_)
 intro ah dQ
 have aH:=dQ.pk [1,2,3,4,5,6,7,0]
 refine⟨.inr ⟨_,aH⟩, ?_⟩
 refine GX.take (v:= .int .i64 n.xE) (rs:= []) 6 rfl (by kernel_rfl) (fun _ _=>zo rfl) (zk (by kernel_rfl) (yL (rt (tR (y9 (iq (vs:= [.agg (bf 0 0 0 0 0 0 0 0 0 0 0 0 0 0 0 false ([]) ([]) none 0 0 none 0 0 none 0 0).toArray, .int .i64 n.xE]) rfl (bT.cell rfl (zg (cs:=(bf 0 0 0 0 0 0 0 0 0 0 0 0 0 0 0 false ([]) ([]) none 0 0 none 0 0 none 0 0)) Tryz.isAgg29 Tryz.sizeOf29 ((aH.cls (i:=7) rfl).lit (k:=0) (m:=21) rfl)) (bT.tmp rfl bT.nil)) (BH rfl)) ?_)))))
 have dR:Own w D ah [row none 0 0 (List.flatMap aB.cells ([])) 64 6,blk y (aM a f b g c h d) 29,row f a.ax.ls.length b (List.flatMap aB.cells a.ax.ls) 64 6,row g a.ah.ls.length c (List.flatMap af.cells j) 84 3,sepL (List.flatMap yQ j),row h a.ai.ls.length d (List.flatMap aA.cells a.ai.ls) 88 2,blk p [.slice I n.xB.ls.length B, .int .i64 n.xE] 75,row x l.length s (List.flatMap eB l) 5 1,blk r (bf 0 0 0 0 0 0 0 0 0 0 0 0 0 0 0 false ([]) ([]) none 0 0 none 0 0 none 0 0) 29]:=aH.free (bP 64 6)
 have dS:Own w D ah [sepL (List.flatMap yQ ([])),row none 0 0 (List.flatMap aB.cells ([])) 64 6,blk y (aM a f b g c h d) 29,row f a.ax.ls.length b (List.flatMap aB.cells a.ax.ls) 64 6,row g a.ah.ls.length c (List.flatMap af.cells j) 84 3,sepL (List.flatMap yQ j),row h a.ai.ls.length d (List.flatMap aA.cells a.ai.ls) 88 2,blk p [.slice I n.xB.ls.length B, .int .i64 n.xE] 75,row x l.length s (List.flatMap eB l) 5 1,blk r (bf 0 0 0 0 0 0 0 0 0 0 0 0 0 0 0 false ([]) ([]) none 0 0 none 0 0 none 0 0) 29]:=dR.sepNil
 have dU:Own w D ah [row none 0 0 (List.flatMap af.cells ([])) 84 3,sepL (List.flatMap yQ ([])),row none 0 0 (List.flatMap aB.cells ([])) 64 6,blk y (aM a f b g c h d) 29,row f a.ax.ls.length b (List.flatMap aB.cells a.ax.ls) 64 6,row g a.ah.ls.length c (List.flatMap af.cells j) 84 3,sepL (List.flatMap yQ j),row h a.ai.ls.length d (List.flatMap aA.cells a.ai.ls) 88 2,blk p [.slice I n.xB.ls.length B, .int .i64 n.xE] 75,row x l.length s (List.flatMap eB l) 5 1,blk r (bf 0 0 0 0 0 0 0 0 0 0 0 0 0 0 0 false ([]) ([]) none 0 0 none 0 0 none 0 0) 29]:=dS.free (bP 84 3)
 have dV:Own w D ah [row none 0 0 (List.flatMap aA.cells ([])) 88 2,row none 0 0 (List.flatMap af.cells ([])) 84 3,sepL (List.flatMap yQ ([])),row none 0 0 (List.flatMap aB.cells ([])) 64 6,blk y (aM a f b g c h d) 29,row f a.ax.ls.length b (List.flatMap aB.cells a.ax.ls) 64 6,row g a.ah.ls.length c (List.flatMap af.cells j) 84 3,sepL (List.flatMap yQ j),row h a.ai.ls.length d (List.flatMap aA.cells a.ai.ls) 88 2,blk p [.slice I n.xB.ls.length B, .int .i64 n.xE] 75,row x l.length s (List.flatMap eB l) 5 1,blk r (bf 0 0 0 0 0 0 0 0 0 0 0 0 0 0 0 false ([]) ([]) none 0 0 none 0 0 none 0 0) 29]:=dU.free (bP 88 2)
 have dW:=dV.pk [3,1,2,0]
 have e:iw K=(bE.mk 0 0 0 0 0 0 0 0 0 0 0 0 0 0 0 false (bC.mk ([]) ([])) (Ll.mk ([])) (Ll.mk ([])) (Ll.mk ([])),n.xE):=et (aa z) (et (ip G) (et (aa A) (iN t)))
 obtain⟨rfl,rfl⟩:=dN (e.symm.trans hr)
 exact⟨none,0,none,0,none,0, [],rfl,dW,rfl,(by first | omega | (dsimp only; omega) | (simp only [List.length_nil]; omega) | (refine⟨?_, ?_⟩ <;> (dsimp only; omega)))⟩
 refine jT (dT G) (sr (Kz (.agg (bf 0 0 0 0 0 0 0 0 0 0 0 0 0 0 0 false ([]) ([]) none 0 0 none 0 0 none 0 0).toArray) (Mz rfl ?_)))
 have dX:=aX.pk [1,0]
 refine bz (bf 0 0 0 0 0 0 0 0 0 0 0 0 0 0 0 false ([]) ([]) none 0 0 none 0 0 none 0 0) 0 dX Tryz.sizeOf29 ?_
 intro ai aW
 refine An rfl (rt (tR (y9 (iq (vs:= [.agg (bf 0 0 0 0 0 0 0 0 0 0 0 0 0 0 0 false ([]) ([]) none 0 0 none 0 0 none 0 0).toArray, .int .i64 M]) rfl (bT.cell rfl (zg (cs:=(bf 0 0 0 0 0 0 0 0 0 0 0 0 0 0 0 false ([]) ([]) none 0 0 none 0 0 none 0 0)) Tryz.isAgg29 Tryz.sizeOf29 ((aW.cls (i:=0) rfl).lit (k:=0) (m:=21) rfl)) (bT.tmp rfl bT.nil)) (BH rfl)) ?_)))
 have dY:Own w D ai [row none 0 0 (List.flatMap aB.cells ([])) 64 6,blk r (bf 0 0 0 0 0 0 0 0 0 0 0 0 0 0 0 false ([]) ([]) none 0 0 none 0 0 none 0 0) 29,row x l.length s (List.flatMap eB l) 5 1]:=aW.free (bP 64 6)
 have dZ:Own w D ai [sepL (List.flatMap yQ ([])),row none 0 0 (List.flatMap aB.cells ([])) 64 6,blk r (bf 0 0 0 0 0 0 0 0 0 0 0 0 0 0 0 false ([]) ([]) none 0 0 none 0 0 none 0 0) 29,row x l.length s (List.flatMap eB l) 5 1]:=dY.sepNil
 have d9:Own w D ai [row none 0 0 (List.flatMap af.cells ([])) 84 3,sepL (List.flatMap yQ ([])),row none 0 0 (List.flatMap aB.cells ([])) 64 6,blk r (bf 0 0 0 0 0 0 0 0 0 0 0 0 0 0 0 false ([]) ([]) none 0 0 none 0 0 none 0 0) 29,row x l.length s (List.flatMap eB l) 5 1]:=dZ.free (bP 84 3)
 have ed:Own w D ai [row none 0 0 (List.flatMap aA.cells ([])) 88 2,row none 0 0 (List.flatMap af.cells ([])) 84 3,sepL (List.flatMap yQ ([])),row none 0 0 (List.flatMap aB.cells ([])) 64 6,blk r (bf 0 0 0 0 0 0 0 0 0 0 0 0 0 0 0 false ([]) ([]) none 0 0 none 0 0 none 0 0) 29,row x l.length s (List.flatMap eB l) 5 1]:=d9.free (bP 88 2)
 have ek:=ed.pk [3,1,2,0]
 have e:iw K=(bE.mk 0 0 0 0 0 0 0 0 0 0 0 0 0 0 0 false (bC.mk ([]) ([])) (Ll.mk ([])) (Ll.mk ([])) (Ll.mk ([])),M):=et (aa z) (iN G)
 obtain⟨rfl,rfl⟩:=dN (e.symm.trans hr)
 exact⟨none,0,none,0,none,0, [],rfl,ek,rfl,(by first | omega | (dsimp only; omega) | (simp only [List.length_nil]; omega) | (refine⟨?_, ?_⟩ <;> (dsimp only; omega)))⟩
end Go.Proofs.YtccjclalngabhaaGreat
