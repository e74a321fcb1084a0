/-
 wire: the document's answer, messages of bytes.
-/
import Derived.Test.YtccjclalngabhaaGreatWiD
import Derived.Test.YtccjclalngabhaaGreatWu
namespace Go.Proofs.YtccjclalngabhaaGreat
set_option maxRecDepth 100000
open Go.RowKit
set_option linter.unusedVariables false
set_option linter.unusedSectionVars false
set_option linter.unusedSimpArgs false
def aM (w:Int) (s:Int) (t:Int):List UInt8→Int→Int→Nat→Nat→Nat→Nat→Nat→Nat→Nat→Nat→Nat→Bool→List UInt8→List UInt8→List aB→List aX→List aA→List UInt8→Int→Nat × Nat × Nat × Nat × Nat × (List aX) × Int × Int × Nat × Nat × Nat × Nat × Bool × (List UInt8) × (List UInt8) × (List aB) × (List aA) × (List UInt8) × Int
  | [],b,c,d,e,f,g,h,i,j,k,l,m,n,o,p,q,r,x,y=>(d,e,f,g,h,q,b,c,i,j,k,l,m,n,o,p,r,x,y)
  | u::v,b,c,d,e,f,g,h,i,j,k,l,m,n,o,p,q,r,x,y=>if((u.toNat:Nat):Int)=99 then bnd (aU (RT.mk (Ll.mk x) y)) fun z=>aM w s t v z.1 c d e f g h i j k l m n o p q r z.2.xB.ls z.2.xE else if((u.toNat:Nat):Int)=112 then bnd (aU (RT.mk (Ll.mk x) y)) fun A=>aM w s t v b A.1 d e f g h i j k l m n o p q r A.2.xB.ls A.2.xE else if((u.toNat:Nat):Int)=102 then bnd (fM (RT.mk (Ll.mk x) y)) fun B=>aM w s t v b c d e f g h i j k l B.1 n o p q r B.2.xB.ls B.2.xE else if((u.toNat:Nat):Int)=114 then bnd (bg (RT.mk (Ll.mk x) y)) fun G=>bnd (bg G.2) fun C=>aM w s t v b c d e f g h i j k l m G.1 C.1 p q r C.2.xB.ls C.2.xE else if((u.toNat:Nat):Int)=111 then bnd (iY (RT.mk (Ll.mk x) y)) fun D=>aM w s t v b c d e f g h i j k l m n o D.1 q r D.2.xB.ls D.2.xE else if((u.toNat:Nat):Int)=115 then bnd (iZ (RT.mk (Ll.mk x) y)) fun E=>aM w s t v b c d e f g h i j k l m n o p E.1 r E.2.xB.ls E.2.xE else if((u.toNat:Nat):Int)=119 then bnd (gY (RT.mk (Ll.mk x) y)) fun F=>aM w s t v b c d e f g h i j k l m n o p q F.1 F.2.xB.ls F.2.xE else bnd (cZ (RT.mk (Ll.mk x) y)) fun a=>if((u.toNat:Nat):Int)=113 then aM w s t v b c a.1 e f g h i j k l m n o p q r a.2.xB.ls a.2.xE else if((u.toNat:Nat):Int)=98 then aM w s t v b c d a.1 f g h i j k l m n o p q r a.2.xB.ls a.2.xE else if((u.toNat:Nat):Int)=116 then aM w s t v b c d e a.1 g h i j k l m n o p q r a.2.xB.ls a.2.xE else if((u.toNat:Nat):Int)=108 then aM w s t v b c d e f a.1 h i j k l m n o p q r a.2.xB.ls a.2.xE else if((u.toNat:Nat):Int)=118 then aM w s t v b c d e f g a.1 i j k l m n o p q r a.2.xB.ls a.2.xE else if((u.toNat:Nat):Int)=101 then aM w s t v b c d e f g h a.1 j k l m n o p q r a.2.xB.ls a.2.xE else if((u.toNat:Nat):Int)=109 then aM w s t v b c d e f g h i a.1 k l m n o p q r a.2.xB.ls a.2.xE else if((u.toNat:Nat):Int)=97 then aM w s t v b c d e f g h i j a.1 l m n o p q r a.2.xB.ls a.2.xE else if((u.toNat:Nat):Int)=110 then aM w s t v b c d e f g h i j k a.1 m n o p q r a.2.xB.ls a.2.xE else default
def bS (w:Int) (s:Int) (t:Int):List UInt8→Int→Int→Nat→Nat→Nat→Nat→Nat→Nat→Nat→Nat→Nat→Bool→List UInt8→List UInt8→List aB→List aX→List aA→List UInt8→Int→Nat × Nat × Nat × Nat × Nat × (List aX) × Int × Int × Nat × Nat × Nat × Nat × Bool × (List UInt8) × (List UInt8) × (List aB) × (List aA) × (List UInt8) × Int
  | [],b,c,d,e,f,g,h,i,j,k,l,m,n,o,p,q,r,x,y=>(d,e,f,g,h,q,b,c,i,j,k,l,m,n,o,p,r,x,y)
  | u::v,b,c,d,e,f,g,h,i,j,k,l,m,n,o,p,q,r,x,y=>if((u.toNat:Nat):Int)=99 then bnd (aU (RT.mk (Ll.mk x) y)) fun z=>bS w s t v z.1 c d e f g h i j k l m n o p q r z.2.xB.ls z.2.xE else if((u.toNat:Nat):Int)=112 then bnd (aU (RT.mk (Ll.mk x) y)) fun A=>bS w s t v b A.1 d e f g h i j k l m n o p q r A.2.xB.ls A.2.xE else if((u.toNat:Nat):Int)=102 then bnd (fM (RT.mk (Ll.mk x) y)) fun B=>bS w s t v b c d e f g h i j k l B.1 n o p q r B.2.xB.ls B.2.xE else if((u.toNat:Nat):Int)=114 then bnd (bg (RT.mk (Ll.mk x) y)) fun G=>bnd (bg G.2) fun C=>bS w s t v b c d e f g h i j k l m G.1 C.1 p q r C.2.xB.ls C.2.xE else if((u.toNat:Nat):Int)=111 then bnd (iY (RT.mk (Ll.mk x) y)) fun D=>bS w s t v b c d e f g h i j k l m n o D.1 q r D.2.xB.ls D.2.xE else if((u.toNat:Nat):Int)=115 then bnd (iZ (RT.mk (Ll.mk x) y)) fun E=>bS w s t v b c d e f g h i j k l m n o p E.1 r E.2.xB.ls E.2.xE else if((u.toNat:Nat):Int)=119 then bnd (gY (RT.mk (Ll.mk x) y)) fun F=>bS w s t v b c d e f g h i j k l m n o p q F.1 F.2.xB.ls F.2.xE else bnd (cZ (RT.mk (Ll.mk x) y)) fun a=>if((u.toNat:Nat):Int)=113 then bS w s t v b c a.1 e f g h i j k l m n o p q r a.2.xB.ls a.2.xE else if((u.toNat:Nat):Int)=98 then bS w s t v b c d a.1 f g h i j k l m n o p q r a.2.xB.ls a.2.xE else if((u.toNat:Nat):Int)=116 then bS w s t v b c d e a.1 g h i j k l m n o p q r a.2.xB.ls a.2.xE else if((u.toNat:Nat):Int)=108 then bS w s t v b c d e f a.1 h i j k l m n o p q r a.2.xB.ls a.2.xE else if((u.toNat:Nat):Int)=118 then bS w s t v b c d e f g a.1 i j k l m n o p q r a.2.xB.ls a.2.xE else if((u.toNat:Nat):Int)=101 then bS w s t v b c d e f g h a.1 j k l m n o p q r a.2.xB.ls a.2.xE else if((u.toNat:Nat):Int)=109 then bS w s t v b c d e f g h i a.1 k l m n o p q r a.2.xB.ls a.2.xE else if((u.toNat:Nat):Int)=97 then bS w s t v b c d e f g h i j a.1 l m n o p q r a.2.xB.ls a.2.xE else if((u.toNat:Nat):Int)=110 then bS w s t v b c d e f g h i j k a.1 m n o p q r a.2.xB.ls a.2.xE else default
def jO (j:RT):bG × RT:=
 bnd (aU j) fun a=>if a.2.xE=0 then bnd (dw a.1) fun i=>bnd (if i=([]) then bnd (dJ a.2 11) fun f=>(f.xB.ls,f.xE) else(a.2.xB.ls,a.2.xE)) fun sJrbtbJ=>bnd (aU (RT.mk (Ll.mk sJrbtbJ.1) sJrbtbJ.2)) fun d=>bnd (aU d.2) fun b=>bnd (dw a.1) fun g=>bnd (aM a.1 d.1 b.1 g 0 0 0 0 0 0 0 0 0 0 0 false ([]) ([]) ([]) ([]) ([]) b.2.xB.ls b.2.xE) fun sLrbtbJabbbL=>(bG.mk a.1 d.1 b.1 0 sLrbtbJabbbL.2.2.2.2.2.2.1 sLrbtbJabbbL.2.2.2.2.2.2.2.1 sLrbtbJabbbL.1 sLrbtbJabbbL.2.1 sLrbtbJabbbL.2.2.1 sLrbtbJabbbL.2.2.2.1 sLrbtbJabbbL.2.2.2.2.1 sLrbtbJabbbL.2.2.2.2.2.2.2.2.1 sLrbtbJabbbL.2.2.2.2.2.2.2.2.2.1 sLrbtbJabbbL.2.2.2.2.2.2.2.2.2.2.1 sLrbtbJabbbL.2.2.2.2.2.2.2.2.2.2.2.1 sLrbtbJabbbL.2.2.2.2.2.2.2.2.2.2.2.2.1 (bC.mk sLrbtbJabbbL.2.2.2.2.2.2.2.2.2.2.2.2.2.1 sLrbtbJabbbL.2.2.2.2.2.2.2.2.2.2.2.2.2.2.1) (Ll.mk sLrbtbJabbbL.2.2.2.2.2.2.2.2.2.2.2.2.2.2.2.1) (Ll.mk sLrbtbJabbbL.2.2.2.2.2.1) (Ll.mk sLrbtbJabbbL.2.2.2.2.2.2.2.2.2.2.2.2.2.2.2.2.1),RT.mk (Ll.mk sLrbtbJabbbL.2.2.2.2.2.2.2.2.2.2.2.2.2.2.2.2.2.1) sLrbtbJabbbL.2.2.2.2.2.2.2.2.2.2.2.2.2.2.2.2.2.2) else bnd (aU a.2) fun e=>bnd (aU e.2) fun c=>bnd (dw a.1) fun h=>bnd (bS a.1 e.1 c.1 h 0 0 0 0 0 0 0 0 0 0 0 false ([]) ([]) ([]) ([]) ([]) c.2.xB.ls c.2.xE) fun sLrbfbbbL=>(bG.mk a.1 e.1 c.1 0 sLrbfbbbL.2.2.2.2.2.2.1 sLrbfbbbL.2.2.2.2.2.2.2.1 sLrbfbbbL.1 sLrbfbbbL.2.1 sLrbfbbbL.2.2.1 sLrbfbbbL.2.2.2.1 sLrbfbbbL.2.2.2.2.1 sLrbfbbbL.2.2.2.2.2.2.2.2.1 sLrbfbbbL.2.2.2.2.2.2.2.2.2.1 sLrbfbbbL.2.2.2.2.2.2.2.2.2.2.1 sLrbfbbbL.2.2.2.2.2.2.2.2.2.2.2.1 sLrbfbbbL.2.2.2.2.2.2.2.2.2.2.2.2.1 (bC.mk sLrbfbbbL.2.2.2.2.2.2.2.2.2.2.2.2.2.1 sLrbfbbbL.2.2.2.2.2.2.2.2.2.2.2.2.2.2.1) (Ll.mk sLrbfbbbL.2.2.2.2.2.2.2.2.2.2.2.2.2.2.2.1) (Ll.mk sLrbfbbbL.2.2.2.2.2.1) (Ll.mk sLrbfbbbL.2.2.2.2.2.2.2.2.2.2.2.2.2.2.2.2.1),RT.mk (Ll.mk sLrbfbbbL.2.2.2.2.2.2.2.2.2.2.2.2.2.2.2.2.2.1) sLrbfbbbL.2.2.2.2.2.2.2.2.2.2.2.2.2.2.2.2.2.2)
set_option maxHeartbeats 4000000 in
theorem rV (w:World) (D:Nat→Prop) (g0:Nat) (p0:RT) (gG:Option Addr) (fI:Nat) (r0:bG) (r1:RT) (H:Own w D w [blk g0 [.slice gG p0.xB.ls.length fI, .int .i64 p0.xE] 75]) (aG:Ro w D fun w'=>bD w' 1 gG p0.xB.ls.length (List.flatMap eB p0.xB.ls)) (wK:p0.xB.ls.length≤fI∧p0.xB.ls.length≤9223372036854775807) (hr:jO p0=(r0,r1)):
    Calls Tryz.prog 45 #[.pointer (some ⟨g0,0,none⟩)] w (cK fun v w'=> ∃ (kL:Option Addr) (kM:Nat) (kN:Option Addr) (kP:Nat) (kQ:Option Addr) (kR:Nat) (jd:List ag) (B1ox0:Option Addr) (b1ox0:Nat),v= .agg (aV r0 kL kM kN kP kQ kR).toArray∧Own w D w' [row kL r0.az.ls.length kM (List.flatMap aB.cells r0.az.ls) 64 6,row kN r0.ai.ls.length kP (List.flatMap ag.cells jd) 84 3,sepL (List.flatMap ag.own jd),row kQ r0.aj.ls.length kR (List.flatMap aA.cells r0.aj.ls) 88 2,blk g0 [.slice B1ox0 r1.xB.ls.length b1ox0, .int .i64 r1.xE] 75]∧(List.map ag.abs jd=r0.ai.ls)∧(ah 1 gG fI p0.xB.ls B1ox0 b1ox0 r1.xB.ls)∧(r0.az.ls.length≤1000∧r0.ai.ls.length≤1000∧r0.aj.ls.length≤1000∧r0.bF≤18446744073709551615∧r0.aY≤18446744073709551615∧r0.bE≤18446744073709551615∧r0.bH≤18446744073709551615∧r0.bL≤18446744073709551615∧r0.aS≤18446744073709551615∧r0.bB≤18446744073709551615∧r0.aK≤18446744073709551615∧r0.xN≤18446744073709551615)):=by
 refine Calls.body (args:= [.pointer (some ⟨g0,0,none⟩)]) Tryz.func45 rfl rfl rfl ?_
 show Wp _ _ _ [(0, .pointer (some ⟨g0,0,none⟩))] _ _
 refine sr ?_
 refine dD (bf 0 0 0 0 0 0 0 0 0 0 0 0 0 0 0 false ([]) ([]) none 0 0 none 0 0 none 0 0) 29 H ?_
 intro dH Bw wL
 refine ns (Kz (.agg (bf 0 0 0 0 0 0 0 0 0 0 0 0 0 0 0 false ([]) ([]) none 0 0 none 0 0 none 0 0).toArray) ?_)
 refine dD (bf 0 0 0 0 0 0 0 0 0 0 0 0 0 0 0 false ([]) ([]) none 0 0 none 0 0 none 0 0) 29 wL ?_
 intro c Bz wM
 refine bz (bf 0 0 0 0 0 0 0 0 0 0 0 0 0 0 0 false ([]) ([]) none 0 0 none 0 0 none 0 0) 0 wM Tryz.sizeOf29 ?_
 intro BA wN
 refine ns (Mz rfl ?_)
 have wO:=wN.pk [2,0,1]
 obtain⟨⟨o,bV⟩,je⟩:∃ q:Int × RT,aU p0=q:=⟨_,rfl⟩
 obtain⟨BB,qo,qp,qw,zf⟩:=Own.enter1 wO
 refine cl Tryz.call90 (gF _ _ g0 p0 gG fI o bV qo (qp _ aG) (show p0.xB.ls.length≤fI∧p0.xB.ls.length≤9223372036854775807 from by omega) je) ?_
 rintro _ BC ⟨gH,fH,rfl,qx,aJ,kS⟩
 have wP:=qw _ _ qx
 replace aJ:ah 1 gG fI p0.xB.ls gH fH bV.xB.ls:=aJ
 have zg:=(aJ).le
 replace kS:0≤o∧o≤255:=kS
 refine Kz (.pointer (some ⟨c,0,none⟩)) ?_
 have wQ:=wP.pk [1,0,2]
 refine bz [.int .i64 o] 0 wQ Tryz.sizeOf3 ?_
 intro BD kI
 refine nt (Wp.seq (sr (Mz rfl (Kz (.pointer (some ⟨g0,0,none⟩)) (Kz (.pointer (some ⟨g0,1,none⟩)) (Lz (.int .i64 bV.xE) kI 1 Tryz.isAgg32 (Kz (.bool (decide (bV.xE=0))) (Mz rfl ?_))))))))
 by_cases fo:bV.xE=0
 refine Gz (.pointer (some ⟨c,0,none⟩)) (dT fo) (Gl (.int .i64 o) (dT fo) kI 0 Tryz.isAgg3 ?_)
 obtain⟨gU,kT⟩:∃ q,dw o=q:=⟨_,rfl⟩
 obtain⟨BF,qy,zh,qz,zi⟩:=Own.enter0 kI
 refine jI (dT fo) Tryz.call27 (kv _ _ o gU qy kT) ?_
 rintro _ BG ⟨rfl,qA,kU⟩
 have qB:=qz _ _ qA
 replace kU:gU.length≤5:=kU
 refine gw (.bool (decide (gU=([])))) (dT fo) (Yl.strEq rfl rfl) (fw (.bool (decide (gU=([])))) (Yl.pickT rfl (dT fo) rfl) (nt ?_))
 obtain⟨qC,qD⟩:∃ q:((Option Addr) × Nat × (List UInt8) × Int)→World→Prop,q=fun(i:(Option Addr) × Nat × (List UInt8) × Int) w'=>Own w D w' [blk c (bf o 0 0 0 0 0 0 0 0 0 0 0 0 0 0 false ([]) ([]) none 0 0 none 0 0 none 0 0) 29,blk g0 [.slice i.1 i.2.2.1.length i.2.1, .int .i64 i.2.2.2] 75,blk dH (bf 0 0 0 0 0 0 0 0 0 0 0 0 0 0 0 false ([]) ([]) none 0 0 none 0 0 none 0 0) 29]∧(ah 1 gH fH bV.xB.ls i.1 i.2.1 i.2.2.1∧i.2.2.1.length≤bV.xB.ls.length∧i.2.2.1.length≤bV.xB.ls.length+1∧(if gU=([]) then bnd (dJ bV 11) fun gI=>(gI.xB.ls,gI.xE) else(bV.xB.ls,bV.xE))=(i.2.2.1,i.2.2.2)):=⟨_,rfl⟩
 have jg:∀ {jb:Option Addr} {gV:Nat} {fq:List UInt8} {jc:Int} {w':World},qC (jb,gV,fq,jc) w'↔Own w D w' [blk c (bf o 0 0 0 0 0 0 0 0 0 0 0 0 0 0 false ([]) ([]) none 0 0 none 0 0 none 0 0) 29,blk g0 [.slice jb fq.length gV, .int .i64 jc] 75,blk dH (bf 0 0 0 0 0 0 0 0 0 0 0 0 0 0 0 false ([]) ([]) none 0 0 none 0 0 none 0 0) 29]∧ah 1 gH fH bV.xB.ls jb gV fq∧fq.length≤bV.xB.ls.length∧fq.length≤bV.xB.ls.length+1∧(if gU=([]) then bnd (dJ bV 11) fun gI=>(gI.xB.ls,gI.xE) else(bV.xB.ls,bV.xE))=(fq,jc):=by intros; subst qD; exact Iff.rfl
 refine Wp.joinT (fun i:(Option Addr) × Nat × (List UInt8) × Int=> [(3, .pointer (some ⟨c,0,none⟩)),(2, .pointer (some ⟨dH,0,none⟩)),(0, .pointer (some ⟨g0,0,none⟩))]) qC ?_ ?_
 by_cases kJ:gU=([])
 refine jT (dT kJ) (Wp.region (Mz rfl ?_))
 have wR:=qB.pk [1,0,2]
 obtain⟨kK,kV⟩:∃ q,dJ bV 11=q:=⟨_,rfl⟩
 obtain⟨BH,qE,qF,qG,zk⟩:=Own.enter1 wR
 refine cl Tryz.call46 (iX _ _ g0 bV gH fH 11 kK qE (fun j n=>ah.rds av (by decide) aJ ((qF _ aG) j n)) (show bV.xB.ls.length≤fH∧bV.xB.ls.length≤9223372036854775807 from by omega) kV) ?_
 rintro _ BI ⟨qH,qI,rfl,qJ,ic⟩
 have wS:=qG _ _ qJ
 replace ic:ah 1 gH fH bV.xB.ls qH qI kK.xB.ls:=ic
 have zl:=(ic).le
 refine WL.nil ?_
 have wT:=wS.pk [1,0,2]
 exact Fin.join (qH,qI,kK.xB.ls,kK.xE) ⟨rfl,rfl,rfl,trivial⟩ (jg.2 ⟨wT,by exact ic,by omega,by omega,et (ip kJ) (aa kV)⟩)
 refine jF (dF kJ) (Wp.skip ?_)
 have wU:=qB.pk [0,1,2]
 exact Fin.join (gH,fH,bV.xB.ls,bV.xE) ⟨rfl,rfl,rfl,trivial⟩ (jg.2 ⟨wU,by exact(ah.refl (by omega)),by omega,by omega,iN kJ⟩)
 rintro ⟨jb,gV,fq,jc⟩ BJ qK
 show Wp _ _ _ [(3, .pointer (some ⟨c,0,none⟩)),(2, .pointer (some ⟨dH,0,none⟩)),(0, .pointer (some ⟨g0,0,none⟩))] _ _
 obtain⟨wV,dI,zm,zn,qL⟩:=jg.1 qK
 have zo:=(dI).le
 refine sr (Mz rfl ?_)
 have wW:=wV.pk [1,0,2]
 obtain⟨⟨ak,fu⟩,jh⟩:∃ q:Int × RT,aU (RT.mk (Ll.mk fq) jc)=q:=⟨_,rfl⟩
 obtain⟨BK,qM,qN,qO,zq⟩:=Own.enter1 wW
 refine cl Tryz.call90 (gF _ _ g0 (RT.mk (Ll.mk fq) jc) jb gV ak fu qM (fun j n=>ah.rds av (by decide) dI ((fun j n=>ah.rds av (by decide) aJ ((qN _ aG) j n)) j n)) (show fq.length≤gV∧fq.length≤9223372036854775807 from by omega) jh) ?_
 rintro _ zt ⟨ji,ig,rfl,mU,bX,jk⟩
 have qP:=qO _ _ mU
 replace bX:ah 1 jb gV fq ji ig fu.xB.ls:=bX
 have wX:=(bX).le
 replace jk:0≤ak∧ak≤255:=jk
 refine Kz (.pointer (some ⟨c,1,none⟩)) ?_
 have qQ:=qP.pk [1,0,2]
 refine bz [.int .i64 ak] 1 qQ Tryz.sizeOf3 ?_
 intro zu qR
 refine ns (Mz rfl ?_)
 have qU:=qR.pk [1,0,2]
 obtain⟨⟨au,aK⟩,jl⟩:∃ q:Int × RT,aU fu=q:=⟨_,rfl⟩
 obtain⟨zw,mV,mW,mX,wY⟩:=Own.enter1 qU
 refine cl Tryz.call90 (gF _ _ g0 fu ji ig au aK mV (fun j n=>ah.rds av (by decide) bX ((fun j n=>ah.rds av (by decide) dI ((fun j n=>ah.rds av (by decide) aJ ((mW _ aG) j n)) j n)) j n)) (show fu.xB.ls.length≤ig∧fu.xB.ls.length≤9223372036854775807 from by omega) jl) ?_
 rintro _ zx ⟨dV,dW,rfl,mY,cz,jm⟩
 have qV:=mX _ _ mY
 replace cz:ah 1 ji ig fu.xB.ls dV dW aK.xB.ls:=cz
 have wZ:=(cz).le
 replace jm:0≤au∧au≤255:=jm
 refine Kz (.pointer (some ⟨c,2,none⟩)) ?_
 have qW:=qV.pk [1,0,2]
 refine bz [.int .i64 au] 2 qW Tryz.sizeOf3 ?_
 intro zy kW
 refine nt (Wp.seq (sr (Kz (.pointer (some ⟨c,0,none⟩)) (Lz (.int .i64 o) kW 0 Tryz.isAgg3 ?_))))
 obtain⟨d,gW⟩:∃ q,dw o=q:=⟨_,rfl⟩
 obtain⟨zz,mZ,xc,ng,xe⟩:=Own.enter0 kW
 refine cl Tryz.call27 (kv _ _ o d mZ gW) ?_
 rintro _ zA ⟨rfl,ni,jo⟩
 have qX:=ng _ _ ni
 replace jo:d.length≤5:=jo
 refine WL.do rfl (Do.toBytesE (l:=d) Tryz.underlying9 Tryz.underlying31 Tryz.underlying5 qX rfl (by unfold maxLen; omega) ?_)
 intro dX eX ik qY
 refine Kz (.int .i64 ((d.length:Nat):Int)) (Mn rfl (bo ?_))
 have qZ:Own w D ik [row none 0 0 (List.flatMap aB.cells ([])) 64 6,row dX d.length eX (List.flatMap eB d) 5 1,blk c (bf o ak au 0 0 0 0 0 0 0 0 0 0 0 0 false ([]) ([]) none 0 0 none 0 0 none 0 0) 29,blk g0 [.slice dV aK.xB.ls.length dW, .int .i64 aK.xE] 75,blk dH (bf 0 0 0 0 0 0 0 0 0 0 0 0 0 0 0 false ([]) ([]) none 0 0 none 0 0 none 0 0) 29]:=qY.free (bP 64 6)
 have q8:Own w D ik [sepL (List.flatMap ag.own ([])),row none 0 0 (List.flatMap aB.cells ([])) 64 6,row dX d.length eX (List.flatMap eB d) 5 1,blk c (bf o ak au 0 0 0 0 0 0 0 0 0 0 0 0 false ([]) ([]) none 0 0 none 0 0 none 0 0) 29,blk g0 [.slice dV aK.xB.ls.length dW, .int .i64 aK.xE] 75,blk dH (bf 0 0 0 0 0 0 0 0 0 0 0 0 0 0 0 false ([]) ([]) none 0 0 none 0 0 none 0 0) 29]:=qZ.sepNil
 have rf:Own w D ik [row none 0 0 (List.flatMap ag.cells ([])) 84 3,sepL (List.flatMap ag.own ([])),row none 0 0 (List.flatMap aB.cells ([])) 64 6,row dX d.length eX (List.flatMap eB d) 5 1,blk c (bf o ak au 0 0 0 0 0 0 0 0 0 0 0 0 false ([]) ([]) none 0 0 none 0 0 none 0 0) 29,blk g0 [.slice dV aK.xB.ls.length dW, .int .i64 aK.xE] 75,blk dH (bf 0 0 0 0 0 0 0 0 0 0 0 0 0 0 0 false ([]) ([]) none 0 0 none 0 0 none 0 0) 29]:=q8.free (bP 84 3)
 have rq:Own w D ik [row none 0 0 (List.flatMap aA.cells ([])) 88 2,row none 0 0 (List.flatMap ag.cells ([])) 84 3,sepL (List.flatMap ag.own ([])),row none 0 0 (List.flatMap aB.cells ([])) 64 6,row dX d.length eX (List.flatMap eB d) 5 1,blk c (bf o ak au 0 0 0 0 0 0 0 0 0 0 0 0 false ([]) ([]) none 0 0 none 0 0 none 0 0) 29,blk g0 [.slice dV aK.xB.ls.length dW, .int .i64 aK.xE] 75,blk dH (bf 0 0 0 0 0 0 0 0 0 0 0 0 0 0 0 false ([]) ([]) none 0 0 none 0 0 none 0 0) 29]:=rf.free (bP 88 2)
 have ru:=rq.pk [4,5,6,7,3,1,2,0]
 obtain⟨kX,nk⟩:∃ q:(Nat × Int × Int × Nat × Nat × Nat × Nat × Nat × Nat × Nat × Nat × Nat × Bool × (List UInt8) × (List UInt8) × (Option Addr) × Nat × (List aB) × (Option Addr) × Nat × (List ag) × (List aX) × (Option Addr) × Nat × (List aA) × (Option Addr) × Nat × (List UInt8) × Int)→World→Prop,q=fun(i:Nat × Int × Int × Nat × Nat × Nat × Nat × Nat × Nat × Nat × Nat × Nat × Bool × (List UInt8) × (List UInt8) × (Option Addr) × Nat × (List aB) × (Option Addr) × Nat × (List ag) × (List aX) × (Option Addr) × Nat × (List aA) × (Option Addr) × Nat × (List UInt8) × Int) w'=>Own w D w' [row dX d.length eX (List.flatMap eB d) 5 1,blk c (bf o ak au 0 i.2.1 i.2.2.1 i.2.2.2.1 i.2.2.2.2.1 i.2.2.2.2.2.1 i.2.2.2.2.2.2.1 i.2.2.2.2.2.2.2.1 i.2.2.2.2.2.2.2.2.1 i.2.2.2.2.2.2.2.2.2.1 i.2.2.2.2.2.2.2.2.2.2.1 i.2.2.2.2.2.2.2.2.2.2.2.1 i.2.2.2.2.2.2.2.2.2.2.2.2.1 i.2.2.2.2.2.2.2.2.2.2.2.2.2.1 i.2.2.2.2.2.2.2.2.2.2.2.2.2.2.1 i.2.2.2.2.2.2.2.2.2.2.2.2.2.2.2.1 i.2.2.2.2.2.2.2.2.2.2.2.2.2.2.2.2.2.1.length i.2.2.2.2.2.2.2.2.2.2.2.2.2.2.2.2.1 i.2.2.2.2.2.2.2.2.2.2.2.2.2.2.2.2.2.2.1 i.2.2.2.2.2.2.2.2.2.2.2.2.2.2.2.2.2.2.2.2.2.1.length i.2.2.2.2.2.2.2.2.2.2.2.2.2.2.2.2.2.2.2.1 i.2.2.2.2.2.2.2.2.2.2.2.2.2.2.2.2.2.2.2.2.2.2.1 i.2.2.2.2.2.2.2.2.2.2.2.2.2.2.2.2.2.2.2.2.2.2.2.2.1.length i.2.2.2.2.2.2.2.2.2.2.2.2.2.2.2.2.2.2.2.2.2.2.2.1) 29,blk g0 [.slice i.2.2.2.2.2.2.2.2.2.2.2.2.2.2.2.2.2.2.2.2.2.2.2.2.2.1 i.2.2.2.2.2.2.2.2.2.2.2.2.2.2.2.2.2.2.2.2.2.2.2.2.2.2.2.1.length i.2.2.2.2.2.2.2.2.2.2.2.2.2.2.2.2.2.2.2.2.2.2.2.2.2.2.1, .int .i64 i.2.2.2.2.2.2.2.2.2.2.2.2.2.2.2.2.2.2.2.2.2.2.2.2.2.2.2.2] 75,blk dH (bf 0 0 0 0 0 0 0 0 0 0 0 0 0 0 0 false ([]) ([]) none 0 0 none 0 0 none 0 0) 29,row i.2.2.2.2.2.2.2.2.2.2.2.2.2.2.2.1 i.2.2.2.2.2.2.2.2.2.2.2.2.2.2.2.2.2.1.length i.2.2.2.2.2.2.2.2.2.2.2.2.2.2.2.2.1 (List.flatMap aB.cells i.2.2.2.2.2.2.2.2.2.2.2.2.2.2.2.2.2.1) 64 6,row i.2.2.2.2.2.2.2.2.2.2.2.2.2.2.2.2.2.2.1 i.2.2.2.2.2.2.2.2.2.2.2.2.2.2.2.2.2.2.2.2.2.1.length i.2.2.2.2.2.2.2.2.2.2.2.2.2.2.2.2.2.2.2.1 (List.flatMap ag.cells i.2.2.2.2.2.2.2.2.2.2.2.2.2.2.2.2.2.2.2.2.1) 84 3,sepL (List.flatMap ag.own i.2.2.2.2.2.2.2.2.2.2.2.2.2.2.2.2.2.2.2.2.1),row i.2.2.2.2.2.2.2.2.2.2.2.2.2.2.2.2.2.2.2.2.2.2.1 i.2.2.2.2.2.2.2.2.2.2.2.2.2.2.2.2.2.2.2.2.2.2.2.2.1.length i.2.2.2.2.2.2.2.2.2.2.2.2.2.2.2.2.2.2.2.2.2.2.2.1 (List.flatMap aA.cells i.2.2.2.2.2.2.2.2.2.2.2.2.2.2.2.2.2.2.2.2.2.2.2.2.1) 88 2]∧(List.map ag.abs i.2.2.2.2.2.2.2.2.2.2.2.2.2.2.2.2.2.2.2.2.1=i.2.2.2.2.2.2.2.2.2.2.2.2.2.2.2.2.2.2.2.2.2.1∧ah 1 dV dW aK.xB.ls i.2.2.2.2.2.2.2.2.2.2.2.2.2.2.2.2.2.2.2.2.2.2.2.2.2.1 i.2.2.2.2.2.2.2.2.2.2.2.2.2.2.2.2.2.2.2.2.2.2.2.2.2.2.1 i.2.2.2.2.2.2.2.2.2.2.2.2.2.2.2.2.2.2.2.2.2.2.2.2.2.2.2.1∧i.1≤d.length∧i.2.2.2.2.2.2.2.2.2.2.2.2.2.2.2.2.2.1.length≤1000∧i.2.2.2.2.2.2.2.2.2.2.2.2.2.2.2.2.2.2.2.2.2.1.length≤1000∧i.2.2.2.2.2.2.2.2.2.2.2.2.2.2.2.2.2.2.2.2.2.2.2.2.1.length≤1000∧i.2.2.2.1≤18446744073709551615∧i.2.2.2.2.1≤18446744073709551615∧i.2.2.2.2.2.1≤18446744073709551615∧i.2.2.2.2.2.2.1≤18446744073709551615∧i.2.2.2.2.2.2.2.1≤18446744073709551615∧i.2.2.2.2.2.2.2.2.1≤18446744073709551615∧i.2.2.2.2.2.2.2.2.2.1≤18446744073709551615∧i.2.2.2.2.2.2.2.2.2.2.1≤18446744073709551615∧i.2.2.2.2.2.2.2.2.2.2.2.1≤18446744073709551615∧aM o ak au d 0 0 0 0 0 0 0 0 0 0 0 false ([]) ([]) ([]) ([]) ([]) aK.xB.ls aK.xE=aM o ak au (List.drop i.1 d) i.2.1 i.2.2.1 i.2.2.2.1 i.2.2.2.2.1 i.2.2.2.2.2.1 i.2.2.2.2.2.2.1 i.2.2.2.2.2.2.2.1 i.2.2.2.2.2.2.2.2.1 i.2.2.2.2.2.2.2.2.2.1 i.2.2.2.2.2.2.2.2.2.2.1 i.2.2.2.2.2.2.2.2.2.2.2.1 i.2.2.2.2.2.2.2.2.2.2.2.2.1 i.2.2.2.2.2.2.2.2.2.2.2.2.2.1 i.2.2.2.2.2.2.2.2.2.2.2.2.2.2.1 i.2.2.2.2.2.2.2.2.2.2.2.2.2.2.2.2.2.1 i.2.2.2.2.2.2.2.2.2.2.2.2.2.2.2.2.2.2.2.2.2.1 i.2.2.2.2.2.2.2.2.2.2.2.2.2.2.2.2.2.2.2.2.2.2.2.2.1 i.2.2.2.2.2.2.2.2.2.2.2.2.2.2.2.2.2.2.2.2.2.2.2.2.2.2.2.1 i.2.2.2.2.2.2.2.2.2.2.2.2.2.2.2.2.2.2.2.2.2.2.2.2.2.2.2.2):=⟨_,rfl⟩
 have aN:∀ {a:Nat} {S:Int} {T:Int} {y:Nat} {z:Nat} {A:Nat} {B:Nat} {C:Nat} {E:Nat} {F:Nat} {G:Nat} {I:Nat} {U:Bool} {V:List UInt8} {W:List UInt8} {aP:Option Addr} {aQ:Nat} {p:List aB} {aR:Option Addr} {aS:Nat} {bJ:List ag} {r:List aX} {aT:Option Addr} {aW:Nat} {s:List aA} {bK:Option Addr} {aH:Nat} {g:List UInt8} {ai:Int} {w':World},kX (a,S,T,y,z,A,B,C,E,F,G,I,U,V,W,aP,aQ,p,aR,aS,bJ,r,aT,aW,s,bK,aH,g,ai) w'↔Own w D w' [row dX d.length eX (List.flatMap eB d) 5 1,blk c (bf o ak au 0 S T y z A B C E F G I U V W aP p.length aQ aR r.length aS aT s.length aW) 29,blk g0 [.slice bK g.length aH, .int .i64 ai] 75,blk dH (bf 0 0 0 0 0 0 0 0 0 0 0 0 0 0 0 false ([]) ([]) none 0 0 none 0 0 none 0 0) 29,row aP p.length aQ (List.flatMap aB.cells p) 64 6,row aR r.length aS (List.flatMap ag.cells bJ) 84 3,sepL (List.flatMap ag.own bJ),row aT s.length aW (List.flatMap aA.cells s) 88 2]∧List.map ag.abs bJ=r∧ah 1 dV dW aK.xB.ls bK aH g∧a≤d.length∧p.length≤1000∧r.length≤1000∧s.length≤1000∧y≤18446744073709551615∧z≤18446744073709551615∧A≤18446744073709551615∧B≤18446744073709551615∧C≤18446744073709551615∧E≤18446744073709551615∧F≤18446744073709551615∧G≤18446744073709551615∧I≤18446744073709551615∧aM o ak au d 0 0 0 0 0 0 0 0 0 0 0 false ([]) ([]) ([]) ([]) ([]) aK.xB.ls aK.xE=aM o ak au (List.drop a d) S T y z A B C E F G I U V W p r s g ai:=by intros; subst nk; exact Iff.rfl
 refine Wp.loop (fun i:Nat × Int × Int × Nat × Nat × Nat × Nat × Nat × Nat × Nat × Nat × Nat × Bool × (List UInt8) × (List UInt8) × (Option Addr) × Nat × (List aB) × (Option Addr) × Nat × (List ag) × (List aX) × (Option Addr) × Nat × (List aA) × (Option Addr) × Nat × (List UInt8) × Int=> [(35, .int .i64 ((i.1:Nat):Int)),(34, .int .i64 ((d.length:Nat):Int)),(33, .slice dX d.length eX),(3, .pointer (some ⟨c,0,none⟩)),(2, .pointer (some ⟨dH,0,none⟩)),(0, .pointer (some ⟨g0,0,none⟩))]) kX (fun i=>d.length - i.1) (0,0,0,0,0,0,0,0,0,0,0,0,false, [], [],none,0, [],none,0, [], [],none,0, [],dV,dW,aK.xB.ls,aK.xE) ⟨rfl,rfl,rfl,rfl,rfl,rfl,trivial⟩ (aN.2 ⟨ru,(show List.map ag.abs ([])=([])∧ah 1 dV dW aK.xB.ls dV dW aK.xB.ls∧0≤d.length∧0≤1000∧0≤1000∧0≤1000∧0≤18446744073709551615∧0≤18446744073709551615∧0≤18446744073709551615∧0≤18446744073709551615∧0≤18446744073709551615∧0≤18446744073709551615∧0≤18446744073709551615∧0≤18446744073709551615∧0≤18446744073709551615∧aM o ak au d 0 0 0 0 0 0 0 0 0 0 0 false ([]) ([]) ([]) ([]) ([]) aK.xB.ls aK.xE=aM o ak au (List.drop 0 d) 0 0 0 0 0 0 0 0 0 0 0 false ([]) ([]) ([]) ([]) ([]) aK.xB.ls aK.xE from ⟨by exact rfl,by exact(ah.refl (by omega)),by omega,by first | omega | exact Nat.zero_le _,by first | omega | exact Nat.zero_le _,by first | omega | exact Nat.zero_le _,by omega,by omega,by omega,by omega,by omega,by omega,by omega,by omega,by omega,rfl⟩)⟩) ?_
 rintro ⟨a,S,T,y,z,A,B,C,E,F,G,I,U,V,W,aP,aQ,p,aR,aS,bJ,r,aT,aW,s,bK,aH,g,ai⟩ zB nu
 show Wp _ _ _ [(35, .int .i64 ((a:Nat):Int)),(34, .int .i64 ((d.length:Nat):Int)),(33, .slice dX d.length eX),(3, .pointer (some ⟨c,0,none⟩)),(2, .pointer (some ⟨dH,0,none⟩)),(0, .pointer (some ⟨g0,0,none⟩))] _ _
 obtain⟨dK,aY,az,xg,xh,xk,xm,xn,xq,xu,xw,xx,xy,xz,xA,xC,aZ⟩:=aN.1 nu
 have xD:=dM aY
 have xG:=(az).le
 refine sr (Kz (.bool (decide (((a:Nat):Int) < ((d.length:Nat):Int)))) (nt (Wp.seq ?_)))
 by_cases kY:((a:Nat):Int) < ((d.length:Nat):Int)
 obtain⟨aD,gX⟩:=eG (ls:=d) (i:=a) av (by decide) (dK.rds (i:=0) rfl) (by first | omega | (simp; done) | (simp; omega))
 have bH:=drop_at gX
 refine jT (dT kY) (sk (Wp.seq (bo (sr (fw (.pointer (some ⟨ab dX,ao dX+a *1,none⟩)) (Yl.indexAddr (bW) rfl rfl ((dK.rds (i:=0) rfl).addr (i:=a) (by omega)) (by omega)) (fw (.int .u8 ((aD.toNat:Nat):Int)) (Yl.load rfl (bu.one Tryz.isAgg5 (((dK.rds (i:=0) rfl).elem av gX (by decide)).at_ (k:=0) rfl))) (Ar rfl (Mn rfl (bo (sr (Kz (.bool (decide (((aD.toNat:Nat):Int)=99))) (An rfl ?_))))))))))))
 by_cases bZ:((aD.toNat:Nat):Int)=99
 refine jT (dT bZ) (Wp.region (Mz rfl ?_))
 have ry:=dK.pk [2,0,1,3,4,5,6,7]
 obtain⟨⟨gJ,il⟩,jq⟩:∃ q:Int × RT,aU (RT.mk (Ll.mk g) ai)=q:=⟨_,rfl⟩
 obtain⟨zC,ny,nz,nC,xH⟩:=Own.enter1 ry
 refine cl Tryz.call90 (gF _ _ g0 (RT.mk (Ll.mk g) ai) bK aH gJ il ny (fun j n=>ah.rds av (by decide) az ((fun j n=>ah.rds av (by decide) cz ((fun j n=>ah.rds av (by decide) bX ((fun j n=>ah.rds av (by decide) dI ((fun j n=>ah.rds av (by decide) aJ ((nz _ aG) j n)) j n)) j n)) j n)) j n)) (show g.length≤aH∧g.length≤9223372036854775807 from by omega) jq) ?_
 rintro _ zD ⟨kZ,lc,rfl,nD,fP,jr⟩
 have rz:=nC _ _ nD
 replace fP:ah 1 bK aH g kZ lc il.xB.ls:=fP
 have xI:=(fP).le
 replace jr:0≤gJ∧gJ≤255:=jr
 refine Kz (.pointer (some ⟨c,4,none⟩)) ?_
 have rA:=rz.pk [2,0,1,3,4,5,6,7]
 refine bz [.int .i64 gJ] 4 rA Tryz.sizeOf3 ?_
 intro zF rC
 refine WL.nil (bN (bN (Fin.then (Wp.region (fw (.int .i64 ((a+1:Nat):Int)) (Yl.int (e:=IntKind.i64.wrap (((a:Nat):Int)+1)) yk (by rw [IntWalk.i64_in _ (by omega)]; omega)) (Mz rfl (WL.nil ?_)))))))
 have rD:=rC.pk [2,0,1,3,4,5,6,7]
 exact Fin.round (a+1,gJ,T,y,z,A,B,C,E,F,G,I,U,V,W,aP,aQ,p,aR,aS,bJ,r,aT,aW,s,kZ,lc,il.xB.ls,il.xE) ⟨rfl,rfl,rfl,rfl,rfl,rfl,trivial⟩ (aN.2 ⟨rD,by exact aY,by exact(ah.trans az fP),by omega,by first | omega | exact Nat.zero_le _,by first | omega | exact Nat.zero_le _,by first | omega | exact Nat.zero_le _,by omega,by omega,by omega,by omega,by omega,by omega,by omega,by omega,by omega,et (aZ) (et (congrArg (fun q=>aM o ak au q S T y z A B C E F G I U V W p r s g ai) bH) (et (ip bZ) (aa jq)))⟩) (by show d.length - (a+1) < d.length - a; omega)
 refine jF (dF bZ) (sr (Kz (.bool (decide (((aD.toNat:Nat):Int)=112))) (An rfl ?_)))
 by_cases cO:((aD.toNat:Nat):Int)=112
 refine jT (dT cO) (Wp.region (Mz rfl ?_))
 have rE:=dK.pk [2,0,1,3,4,5,6,7]
 obtain⟨⟨gK,iq⟩,jv⟩:∃ q:Int × RT,aU (RT.mk (Ll.mk g) ai)=q:=⟨_,rfl⟩
 obtain⟨zG,nE,nG,nH,xJ⟩:=Own.enter1 rE
 refine cl Tryz.call90 (gF _ _ g0 (RT.mk (Ll.mk g) ai) bK aH gK iq nE (fun j n=>ah.rds av (by decide) az ((fun j n=>ah.rds av (by decide) cz ((fun j n=>ah.rds av (by decide) bX ((fun j n=>ah.rds av (by decide) dI ((fun j n=>ah.rds av (by decide) aJ ((nG _ aG) j n)) j n)) j n)) j n)) j n)) (show g.length≤aH∧g.length≤9223372036854775807 from by omega) jv) ?_
 rintro _ zH ⟨lg,lh,rfl,nI,fQ,jw⟩
 have rF:=nH _ _ nI
 replace fQ:ah 1 bK aH g lg lh iq.xB.ls:=fQ
 have xK:=(fQ).le
 replace jw:0≤gK∧gK≤255:=jw
 refine Kz (.pointer (some ⟨c,5,none⟩)) ?_
 have rG:=rF.pk [2,0,1,3,4,5,6,7]
 refine bz [.int .i64 gK] 5 rG Tryz.sizeOf3 ?_
 intro zI rH
 refine WL.nil (bN (bN (Fin.then (Wp.region (fw (.int .i64 ((a+1:Nat):Int)) (Yl.int (e:=IntKind.i64.wrap (((a:Nat):Int)+1)) yk (by rw [IntWalk.i64_in _ (by omega)]; omega)) (Mz rfl (WL.nil ?_)))))))
 have rJ:=rH.pk [2,0,1,3,4,5,6,7]
 exact Fin.round (a+1,S,gK,y,z,A,B,C,E,F,G,I,U,V,W,aP,aQ,p,aR,aS,bJ,r,aT,aW,s,lg,lh,iq.xB.ls,iq.xE) ⟨rfl,rfl,rfl,rfl,rfl,rfl,trivial⟩ (aN.2 ⟨rJ,by exact aY,by exact(ah.trans az fQ),by omega,by first | omega | exact Nat.zero_le _,by first | omega | exact Nat.zero_le _,by first | omega | exact Nat.zero_le _,by omega,by omega,by omega,by omega,by omega,by omega,by omega,by omega,by omega,et (aZ) (et (congrArg (fun q=>aM o ak au q S T y z A B C E F G I U V W p r s g ai) bH) (et (iN bZ) (et (ip cO) (aa jv))))⟩) (by show d.length - (a+1) < d.length - a; omega)
 refine jF (dF cO) (sr (Kz (.bool (decide (((aD.toNat:Nat):Int)=102))) (An rfl ?_)))
 by_cases dn:((aD.toNat:Nat):Int)=102
 refine jT (dT dn) (Wp.region (Mz rfl ?_))
 have rM:=dK.pk [2,0,1,3,4,5,6,7]
 obtain⟨⟨jy,iw⟩,jA⟩:∃ q:Bool × RT,fM (RT.mk (Ll.mk g) ai)=q:=⟨_,rfl⟩
 obtain⟨zJ,nJ,nK,nL,xL⟩:=Own.enter1 rM
 refine cl Tryz.call91 (mo _ _ g0 (RT.mk (Ll.mk g) ai) bK aH jy iw nJ (fun j n=>ah.rds av (by decide) az ((fun j n=>ah.rds av (by decide) cz ((fun j n=>ah.rds av (by decide) bX ((fun j n=>ah.rds av (by decide) dI ((fun j n=>ah.rds av (by decide) aJ ((nK _ aG) j n)) j n)) j n)) j n)) j n)) (show g.length≤aH∧g.length≤9223372036854775807 from by omega) jA) ?_
 rintro _ zK ⟨ll,lm,rfl,nM,fT⟩
 have rO:=nL _ _ nM
 replace fT:ah 1 bK aH g ll lm iw.xB.ls:=fT
 have xM:=(fT).le
 refine Kz (.pointer (some ⟨c,15,none⟩)) ?_
 have rP:=rO.pk [2,0,1,3,4,5,6,7]
 refine bz [.bool jy] 15 rP Tryz.sizeOf4 ?_
 intro zL rQ
 refine WL.nil (bN (bN (Fin.then (Wp.region (fw (.int .i64 ((a+1:Nat):Int)) (Yl.int (e:=IntKind.i64.wrap (((a:Nat):Int)+1)) yk (by rw [IntWalk.i64_in _ (by omega)]; omega)) (Mz rfl (WL.nil ?_)))))))
 have rR:=rQ.pk [2,0,1,3,4,5,6,7]
 exact Fin.round (a+1,S,T,y,z,A,B,C,E,F,G,I,jy,V,W,aP,aQ,p,aR,aS,bJ,r,aT,aW,s,ll,lm,iw.xB.ls,iw.xE) ⟨rfl,rfl,rfl,rfl,rfl,rfl,trivial⟩ (aN.2 ⟨rR,by exact aY,by exact(ah.trans az fT),by omega,by first | omega | exact Nat.zero_le _,by first | omega | exact Nat.zero_le _,by first | omega | exact Nat.zero_le _,by omega,by omega,by omega,by omega,by omega,by omega,by omega,by omega,by omega,et (aZ) (et (congrArg (fun q=>aM o ak au q S T y z A B C E F G I U V W p r s g ai) bH) (et (iN bZ) (et (iN cO) (et (ip dn) (aa jA)))))⟩) (by show d.length - (a+1) < d.length - a; omega)
 refine jF (dF dn) (sr (Kz (.bool (decide (((aD.toNat:Nat):Int)=114))) (An rfl ?_)))
 by_cases dz:((aD.toNat:Nat):Int)=114
 refine jT (dT dz) (sr (Mz rfl ?_))
 have rT:=dK.pk [2,0,1,3,4,5,6,7]
 obtain⟨⟨jB,fA⟩,jC⟩:∃ q:(List UInt8) × RT,bg (RT.mk (Ll.mk g) ai)=q:=⟨_,rfl⟩
 obtain⟨zM,nN,nO,nP,xO⟩:=Own.enter1 rT
 refine cl Tryz.call92 (gN _ _ g0 (RT.mk (Ll.mk g) ai) bK aH jB fA nN (fun j n=>ah.rds av (by decide) az ((fun j n=>ah.rds av (by decide) cz ((fun j n=>ah.rds av (by decide) bX ((fun j n=>ah.rds av (by decide) dI ((fun j n=>ah.rds av (by decide) aJ ((nO _ aG) j n)) j n)) j n)) j n)) j n)) (show g.length≤aH∧g.length≤9223372036854775807 from by omega) jC) ?_
 rintro _ zN ⟨jD,iy,rfl,nQ,fB⟩
 have rU:=nP _ _ nQ
 replace fB:ah 1 bK aH g jD iy fA.xB.ls:=fB
 have xP:=(fB).le
 refine Kz (.pointer (some ⟨c,16,none⟩)) (Kz (.pointer (some ⟨c,16,none⟩)) ?_)
 have rW:=rU.pk [2,0,1,3,4,5,6,7]
 refine bz [.string ⟨List.toArray jB⟩] 16 rW Tryz.sizeOf9 ?_
 intro zO rX
 refine nt (Wp.region (Mz rfl ?_))
 have rY:=rX.pk [1,0,2,3,4,5,6,7]
 obtain⟨⟨jE,iA⟩,jG⟩:∃ q:(List UInt8) × RT,bg fA=q:=⟨_,rfl⟩
 obtain⟨zP,nR,nS,nT,xQ⟩:=Own.enter1 rY
 refine cl Tryz.call92 (gN _ _ g0 fA jD iy jE iA nR (fun j n=>ah.rds av (by decide) fB ((fun j n=>ah.rds av (by decide) az ((fun j n=>ah.rds av (by decide) cz ((fun j n=>ah.rds av (by decide) bX ((fun j n=>ah.rds av (by decide) dI ((fun j n=>ah.rds av (by decide) aJ ((nS _ aG) j n)) j n)) j n)) j n)) j n)) j n)) (show fA.xB.ls.length≤iy∧fA.xB.ls.length≤9223372036854775807 from by omega) jG) ?_
 rintro _ zQ ⟨lq,lu,rfl,nU,fU⟩
 have rZ:=nT _ _ nU
 replace fU:ah 1 jD iy fA.xB.ls lq lu iA.xB.ls:=fU
 have xR:=(fU).le
 refine Kz (.pointer (some ⟨c,16,none⟩)) (Kz (.pointer (some ⟨c,17,none⟩)) ?_)
 have r9:=rZ.pk [1,0,2,3,4,5,6,7]
 refine bz [.string ⟨List.toArray jE⟩] 17 r9 Tryz.sizeOf9 ?_
 intro zR si
 refine WL.nil (bN (bN (Fin.then (Wp.region (fw (.int .i64 ((a+1:Nat):Int)) (Yl.int (e:=IntKind.i64.wrap (((a:Nat):Int)+1)) yk (by rw [IntWalk.i64_in _ (by omega)]; omega)) (Mz rfl (WL.nil ?_)))))))
 have sj:=si.pk [2,0,1,3,4,5,6,7]
 exact Fin.round (a+1,S,T,y,z,A,B,C,E,F,G,I,U,jB,jE,aP,aQ,p,aR,aS,bJ,r,aT,aW,s,lq,lu,iA.xB.ls,iA.xE) ⟨rfl,rfl,rfl,rfl,rfl,rfl,trivial⟩ (aN.2 ⟨sj,by exact aY,by exact(ah.trans (ah.trans az fB) fU),by omega,by first | omega | exact Nat.zero_le _,by first | omega | exact Nat.zero_le _,by first | omega | exact Nat.zero_le _,by omega,by omega,by omega,by omega,by omega,by omega,by omega,by omega,by omega,et (aZ) (et (congrArg (fun q=>aM o ak au q S T y z A B C E F G I U V W p r s g ai) bH) (et (iN bZ) (et (iN cO) (et (iN dn) (et (ip dz) (et (aa jC) (aa jG)))))))⟩) (by show d.length - (a+1) < d.length - a; omega)
 refine jF (dF dz) (sr (Kz (.bool (decide (((aD.toNat:Nat):Int)=111))) (An rfl ?_)))
 by_cases dB:((aD.toNat:Nat):Int)=111
 refine jT (dT dB) (Wp.region (Mz rfl ?_))
 have su:=dK.pk [2,0,1,3,4,5,6,7]
 obtain⟨⟨iB,iC⟩,jH⟩:∃ q:(List aB) × RT,iY (RT.mk (Ll.mk g) ai)=q:=⟨_,rfl⟩
 obtain⟨zS,nV,nW,nX,xS⟩:=Own.enter1 su
 refine cl Tryz.call93 (oW _ _ g0 (RT.mk (Ll.mk g) ai) bK aH iB iC nV (fun j n=>ah.rds av (by decide) az ((fun j n=>ah.rds av (by decide) cz ((fun j n=>ah.rds av (by decide) bX ((fun j n=>ah.rds av (by decide) dI ((fun j n=>ah.rds av (by decide) aJ ((nW _ aG) j n)) j n)) j n)) j n)) j n)) (show g.length≤aH∧g.length≤9223372036854775807 from by omega) jH) ?_
 rintro _ zT ⟨lv,lw,lC,lD,rfl,nY,fV,jJ⟩
 have lF:=nX _ _ nY
 replace fV:ah 1 bK aH g lC lD iC.xB.ls:=fV
 have xU:=(fV).le
 have xV:=lF.rowC (i:=0) rfl
 replace jJ:iB.length≤1000:=jJ
 refine Kz (.pointer (some ⟨c,18,none⟩)) ?_
 have sw:=lF.pk [3,0,1,2,4,5,6,7,8]
 refine bz [.slice lv iB.length lw] 18 sw Tryz.sizeOf25 ?_
 intro zU sD
 refine WL.nil (bN (bN (Fin.then (Wp.region (fw (.int .i64 ((a+1:Nat):Int)) (Yl.int (e:=IntKind.i64.wrap (((a:Nat):Int)+1)) yk (by rw [IntWalk.i64_in _ (by omega)]; omega)) (Mz rfl (WL.nil ?_)))))))
 have sF:=sD.pk [3,0,2,4,1,6,7,8]
 exact Fin.round (a+1,S,T,y,z,A,B,C,E,F,G,I,U,V,W,lv,lw,iB,aR,aS,bJ,r,aT,aW,s,lC,lD,iC.xB.ls,iC.xE) ⟨rfl,rfl,rfl,rfl,rfl,rfl,trivial⟩ (aN.2 ⟨sF,by exact aY,by exact(ah.trans az fV),by omega,by first | omega | exact Nat.zero_le _,by first | omega | exact Nat.zero_le _,by first | omega | exact Nat.zero_le _,by omega,by omega,by omega,by omega,by omega,by omega,by omega,by omega,by omega,et (aZ) (et (congrArg (fun q=>aM o ak au q S T y z A B C E F G I U V W p r s g ai) bH) (et (iN bZ) (et (iN cO) (et (iN dn) (et (iN dz) (et (ip dB) (aa jH)))))))⟩) (by show d.length - (a+1) < d.length - a; omega)
 refine jF (dF dB) (sr (Kz (.bool (decide (((aD.toNat:Nat):Int)=115))) (An rfl ?_)))
 by_cases dN:((aD.toNat:Nat):Int)=115
 refine jT (dT dN) (Wp.region (Mz rfl ?_))
 have sG:=dK.pk [2,0,1,3,4,5,6,7]
 obtain⟨⟨iD,iE⟩,jK⟩:∃ q:(List aX) × RT,iZ (RT.mk (Ll.mk g) ai)=q:=⟨_,rfl⟩
 obtain⟨zV,nZ,og,oh,xW⟩:=Own.enter1 sG
 refine cl Tryz.call94 (oZ _ _ g0 (RT.mk (Ll.mk g) ai) bK aH iD iE nZ (fun j n=>ah.rds av (by decide) az ((fun j n=>ah.rds av (by decide) cz ((fun j n=>ah.rds av (by decide) bX ((fun j n=>ah.rds av (by decide) dI ((fun j n=>ah.rds av (by decide) aJ ((og _ aG) j n)) j n)) j n)) j n)) j n)) (show g.length≤aH∧g.length≤9223372036854775807 from by omega) jK) ?_
 rintro _ zW ⟨lG,lH,sH,lI,lJ,rfl,ol,jL,fZ,jM⟩
 have lK:=oh _ _ ol
 replace fZ:ah 1 bK aH g lI lJ iE.xB.ls:=fZ
 have xX:=(fZ).le
 have xY:=dM jL
 have xZ:=lK.rowC (i:=0) rfl
 replace jM:iD.length≤1000:=jM
 refine Kz (.pointer (some ⟨c,19,none⟩)) ?_
 have sI:=lK.pk [4,0,1,2,3,5,6,7,8,9]
 refine bz [.slice lG iD.length lH] 19 sI Tryz.sizeOf26 ?_
 intro zX sJ
 refine WL.nil (bN (bN (Fin.then (Wp.region (fw (.int .i64 ((a+1:Nat):Int)) (Yl.int (e:=IntKind.i64.wrap (((a:Nat):Int)+1)) yk (by rw [IntWalk.i64_in _ (by omega)]; omega)) (Mz rfl (WL.nil ?_)))))))
 have sK:=sJ.pk [4,0,3,5,6,1,2,9]
 exact Fin.round (a+1,S,T,y,z,A,B,C,E,F,G,I,U,V,W,aP,aQ,p,lG,lH,sH,iD,aT,aW,s,lI,lJ,iE.xB.ls,iE.xE) ⟨rfl,rfl,rfl,rfl,rfl,rfl,trivial⟩ (aN.2 ⟨sK,by exact jL,by exact(ah.trans az fZ),by omega,by first | omega | exact Nat.zero_le _,by first | omega | exact Nat.zero_le _,by first | omega | exact Nat.zero_le _,by omega,by omega,by omega,by omega,by omega,by omega,by omega,by omega,by omega,et (aZ) (et (congrArg (fun q=>aM o ak au q S T y z A B C E F G I U V W p r s g ai) bH) (et (iN bZ) (et (iN cO) (et (iN dn) (et (iN dz) (et (iN dB) (et (ip dN) (aa jK))))))))⟩) (by show d.length - (a+1) < d.length - a; omega)
 refine jF (dF dN) (sr (Kz (.bool (decide (((aD.toNat:Nat):Int)=119))) (An rfl ?_)))
 by_cases dQ:((aD.toNat:Nat):Int)=119
 refine jT (dT dQ) (Wp.region (Mz rfl ?_))
 have sM:=dK.pk [2,0,1,3,4,5,6,7]
 obtain⟨⟨iF,iG⟩,jN⟩:∃ q:(List aA) × RT,gY (RT.mk (Ll.mk g) ai)=q:=⟨_,rfl⟩
 obtain⟨zY,om,oo,oq,x8⟩:=Own.enter1 sM
 refine cl Tryz.call95 (nA _ _ g0 (RT.mk (Ll.mk g) ai) bK aH iF iG om (fun j n=>ah.rds av (by decide) az ((fun j n=>ah.rds av (by decide) cz ((fun j n=>ah.rds av (by decide) bX ((fun j n=>ah.rds av (by decide) dI ((fun j n=>ah.rds av (by decide) aJ ((oo _ aG) j n)) j n)) j n)) j n)) j n)) (show g.length≤aH∧g.length≤9223372036854775807 from by omega) jN) ?_
 rintro _ zZ ⟨lL,lM,lN,lS,rfl,ou,gm,jP⟩
 have lT:=oq _ _ ou
 replace gm:ah 1 bK aH g lN lS iG.xB.ls:=gm
 have x9:=(gm).le
 have yc:=lT.rowC (i:=0) rfl
 replace jP:iF.length≤1000:=jP
 refine Kz (.pointer (some ⟨c,20,none⟩)) ?_
 have sN:=lT.pk [3,0,1,2,4,5,6,7,8]
 refine bz [.slice lL iF.length lM] 20 sN Tryz.sizeOf27 ?_
 intro z8 sO
 refine WL.nil (bN (bN (Fin.then (Wp.region (fw (.int .i64 ((a+1:Nat):Int)) (Yl.int (e:=IntKind.i64.wrap (((a:Nat):Int)+1)) yk (by rw [IntWalk.i64_in _ (by omega)]; omega)) (Mz rfl (WL.nil ?_)))))))
 have sP:=sO.pk [3,0,2,4,5,6,7,1]
 exact Fin.round (a+1,S,T,y,z,A,B,C,E,F,G,I,U,V,W,aP,aQ,p,aR,aS,bJ,r,lL,lM,iF,lN,lS,iG.xB.ls,iG.xE) ⟨rfl,rfl,rfl,rfl,rfl,rfl,trivial⟩ (aN.2 ⟨sP,by exact aY,by exact(ah.trans az gm),by omega,by first | omega | exact Nat.zero_le _,by first | omega | exact Nat.zero_le _,by first | omega | exact Nat.zero_le _,by omega,by omega,by omega,by omega,by omega,by omega,by omega,by omega,by omega,et (aZ) (et (congrArg (fun q=>aM o ak au q S T y z A B C E F G I U V W p r s g ai) bH) (et (iN bZ) (et (iN cO) (et (iN dn) (et (iN dz) (et (iN dB) (et (iN dN) (et (ip dQ) (aa jN)))))))))⟩) (by show d.length - (a+1) < d.length - a; omega)
 refine jF (dF dQ) (sr (Mz rfl ?_))
 have sS:=dK.pk [2,0,1,3,4,5,6,7]
 obtain⟨⟨bO,bQ⟩,dE⟩:∃ q:Nat × RT,cZ (RT.mk (Ll.mk g) ai)=q:=⟨_,rfl⟩
 obtain⟨Aa,ow,oz,oC,yf⟩:=Own.enter1 sS
 refine cl Tryz.call96 (mR _ _ g0 (RT.mk (Ll.mk g) ai) bK aH bO bQ ow (fun j n=>ah.rds av (by decide) az ((fun j n=>ah.rds av (by decide) cz ((fun j n=>ah.rds av (by decide) bX ((fun j n=>ah.rds av (by decide) dI ((fun j n=>ah.rds av (by decide) aJ ((oz _ aG) j n)) j n)) j n)) j n)) j n)) (show g.length≤aH∧g.length≤9223372036854775807 from by omega) dE) ?_
 rintro _ Ab ⟨dZ,d9,rfl,oD,di,jQ⟩
 have eP:=oC _ _ oD
 replace di:ah 1 bK aH g dZ d9 bQ.xB.ls:=di
 have yg:=(di).le
 replace jQ:bO≤18446744073709551615:=jQ
 refine An rfl (Wp.region (Mz rfl ?_))
 refine WL.do rfl (Do.call Tryz.call47 rfl ?_ (fun _ _ k=>k))
 refine Calls.body (args:= [.pointer (some ⟨c,0,none⟩), .int .u8 ((aD.toNat:Nat):Int)]) Tryz.func47 rfl rfl rfl ?_
 show Wp _ _ _ [(0, .pointer (some ⟨c,0,none⟩)),(1, .int .u8 ((aD.toNat:Nat):Int))] _ _
 refine sr (An rfl (Wp.seq (sr (Mn rfl (bo (sr (Kz (.bool (decide (((aD.toNat:Nat):Int)=113))) (An rfl ?_))))))))
 by_cases dS:((aD.toNat:Nat):Int)=113
 refine jT (dT dS) (sr (Mz rfl (Kz (.pointer (some ⟨c,0,none⟩)) (Kz (.pointer (some ⟨c,6,none⟩)) (An rfl (rt (bR (tR (rs (Mz rfl (Kz (.pointer (some ⟨c,6,none⟩)) ?_)))))))))))
 have sU:=eP.pk [2,0,1,3,4,5,6,7]
 refine bz [.int .u64 ((bO:Nat):Int)] 6 sU Tryz.sizeOf22 ?_
 intro Ac sV
 refine WL.nil (bN (bN (Fin.then (Wp.region (fw (.int .i64 ((a+1:Nat):Int)) (Yl.int (e:=IntKind.i64.wrap (((a:Nat):Int)+1)) yk (by rw [IntWalk.i64_in _ (by omega)]; omega)) (Mz rfl (WL.nil ?_)))))))
 have sW:=sV.pk [2,0,1,3,4,5,6,7]
 exact Fin.round (a+1,S,T,bO,z,A,B,C,E,F,G,I,U,V,W,aP,aQ,p,aR,aS,bJ,r,aT,aW,s,dZ,d9,bQ.xB.ls,bQ.xE) ⟨rfl,rfl,rfl,rfl,rfl,rfl,trivial⟩ (aN.2 ⟨sW,by exact aY,by exact(ah.trans az di),by omega,by first | omega | exact Nat.zero_le _,by first | omega | exact Nat.zero_le _,by first | omega | exact Nat.zero_le _,by omega,by omega,by omega,by omega,by omega,by omega,by omega,by omega,by omega,et (aZ) (et (congrArg (fun q=>aM o ak au q S T y z A B C E F G I U V W p r s g ai) bH) (et (iN bZ) (et (iN cO) (et (iN dn) (et (iN dz) (et (iN dB) (et (iN dN) (et (iN dQ) (et (aa dE) (ip dS))))))))))⟩) (by show d.length - (a+1) < d.length - a; omega)
 refine jF (dF dS) (sr (Kz (.bool (decide (((aD.toNat:Nat):Int)=98))) (An rfl ?_)))
 by_cases ed:((aD.toNat:Nat):Int)=98
 refine jT (dT ed) (sr (Mz rfl (Kz (.pointer (some ⟨c,0,none⟩)) (Kz (.pointer (some ⟨c,7,none⟩)) (An rfl (rt (bR (tR (rs (Mz rfl (Kz (.pointer (some ⟨c,7,none⟩)) ?_)))))))))))
 have sZ:=eP.pk [2,0,1,3,4,5,6,7]
 refine bz [.int .u64 ((bO:Nat):Int)] 7 sZ Tryz.sizeOf22 ?_
 intro Ad tq
 refine WL.nil (bN (bN (Fin.then (Wp.region (fw (.int .i64 ((a+1:Nat):Int)) (Yl.int (e:=IntKind.i64.wrap (((a:Nat):Int)+1)) yk (by rw [IntWalk.i64_in _ (by omega)]; omega)) (Mz rfl (WL.nil ?_)))))))
 have tu:=tq.pk [2,0,1,3,4,5,6,7]
 exact Fin.round (a+1,S,T,y,bO,A,B,C,E,F,G,I,U,V,W,aP,aQ,p,aR,aS,bJ,r,aT,aW,s,dZ,d9,bQ.xB.ls,bQ.xE) ⟨rfl,rfl,rfl,rfl,rfl,rfl,trivial⟩ (aN.2 ⟨tu,by exact aY,by exact(ah.trans az di),by omega,by first | omega | exact Nat.zero_le _,by first | omega | exact Nat.zero_le _,by first | omega | exact Nat.zero_le _,by omega,by omega,by omega,by omega,by omega,by omega,by omega,by omega,by omega,et (aZ) (et (congrArg (fun q=>aM o ak au q S T y z A B C E F G I U V W p r s g ai) bH) (et (iN bZ) (et (iN cO) (et (iN dn) (et (iN dz) (et (iN dB) (et (iN dN) (et (iN dQ) (et (aa dE) (et (iN dS) (ip ed)))))))))))⟩) (by show d.length - (a+1) < d.length - a; omega)
 refine jF (dF ed) (sr (Kz (.bool (decide (((aD.toNat:Nat):Int)=116))) (An rfl ?_)))
 by_cases eQ:((aD.toNat:Nat):Int)=116
 refine jT (dT eQ) (sr (Mz rfl (Kz (.pointer (some ⟨c,0,none⟩)) (Kz (.pointer (some ⟨c,8,none⟩)) (An rfl (rt (bR (tR (rs (Mz rfl (Kz (.pointer (some ⟨c,8,none⟩)) ?_)))))))))))
 have tC:=eP.pk [2,0,1,3,4,5,6,7]
 refine bz [.int .u64 ((bO:Nat):Int)] 8 tC Tryz.sizeOf22 ?_
 intro Ae tF
 refine WL.nil (bN (bN (Fin.then (Wp.region (fw (.int .i64 ((a+1:Nat):Int)) (Yl.int (e:=IntKind.i64.wrap (((a:Nat):Int)+1)) yk (by rw [IntWalk.i64_in _ (by omega)]; omega)) (Mz rfl (WL.nil ?_)))))))
 have tH:=tF.pk [2,0,1,3,4,5,6,7]
 exact Fin.round (a+1,S,T,y,z,bO,B,C,E,F,G,I,U,V,W,aP,aQ,p,aR,aS,bJ,r,aT,aW,s,dZ,d9,bQ.xB.ls,bQ.xE) ⟨rfl,rfl,rfl,rfl,rfl,rfl,trivial⟩ (aN.2 ⟨tH,by exact aY,by exact(ah.trans az di),by omega,by first | omega | exact Nat.zero_le _,by first | omega | exact Nat.zero_le _,by first | omega | exact Nat.zero_le _,by omega,by omega,by omega,by omega,by omega,by omega,by omega,by omega,by omega,et (aZ) (et (congrArg (fun q=>aM o ak au q S T y z A B C E F G I U V W p r s g ai) bH) (et (iN bZ) (et (iN cO) (et (iN dn) (et (iN dz) (et (iN dB) (et (iN dN) (et (iN dQ) (et (aa dE) (et (iN dS) (et (iN ed) (ip eQ))))))))))))⟩) (by show d.length - (a+1) < d.length - a; omega)
 refine jF (dF eQ) (sr (Kz (.bool (decide (((aD.toNat:Nat):Int)=108))) (An rfl ?_)))
 by_cases eY:((aD.toNat:Nat):Int)=108
 refine jT (dT eY) (sr (Mz rfl (Kz (.pointer (some ⟨c,0,none⟩)) (Kz (.pointer (some ⟨c,9,none⟩)) (An rfl (rt (bR (tR (rs (Mz rfl (Kz (.pointer (some ⟨c,9,none⟩)) ?_)))))))))))
 have tJ:=eP.pk [2,0,1,3,4,5,6,7]
 refine bz [.int .u64 ((bO:Nat):Int)] 9 tJ Tryz.sizeOf22 ?_
 intro Af tK
 refine WL.nil (bN (bN (Fin.then (Wp.region (fw (.int .i64 ((a+1:Nat):Int)) (Yl.int (e:=IntKind.i64.wrap (((a:Nat):Int)+1)) yk (by rw [IntWalk.i64_in _ (by omega)]; omega)) (Mz rfl (WL.nil ?_)))))))
 have tL:=tK.pk [2,0,1,3,4,5,6,7]
 exact Fin.round (a+1,S,T,y,z,A,bO,C,E,F,G,I,U,V,W,aP,aQ,p,aR,aS,bJ,r,aT,aW,s,dZ,d9,bQ.xB.ls,bQ.xE) ⟨rfl,rfl,rfl,rfl,rfl,rfl,trivial⟩ (aN.2 ⟨tL,by exact aY,by exact(ah.trans az di),by omega,by first | omega | exact Nat.zero_le _,by first | omega | exact Nat.zero_le _,by first | omega | exact Nat.zero_le _,by omega,by omega,by omega,by omega,by omega,by omega,by omega,by omega,by omega,et (aZ) (et (congrArg (fun q=>aM o ak au q S T y z A B C E F G I U V W p r s g ai) bH) (et (iN bZ) (et (iN cO) (et (iN dn) (et (iN dz) (et (iN dB) (et (iN dN) (et (iN dQ) (et (aa dE) (et (iN dS) (et (iN ed) (et (iN eQ) (ip eY)))))))))))))⟩) (by show d.length - (a+1) < d.length - a; omega)
 refine jF (dF eY) (sr (Kz (.bool (decide (((aD.toNat:Nat):Int)=118))) (An rfl ?_)))
 by_cases fC:((aD.toNat:Nat):Int)=118
 refine jT (dT fC) (sr (Mz rfl (Kz (.pointer (some ⟨c,0,none⟩)) (Kz (.pointer (some ⟨c,10,none⟩)) (An rfl (rt (bR (tR (rs (Mz rfl (Kz (.pointer (some ⟨c,10,none⟩)) ?_)))))))))))
 have tN:=eP.pk [2,0,1,3,4,5,6,7]
 refine bz [.int .u64 ((bO:Nat):Int)] 10 tN Tryz.sizeOf22 ?_
 intro Ag tO
 refine WL.nil (bN (bN (Fin.then (Wp.region (fw (.int .i64 ((a+1:Nat):Int)) (Yl.int (e:=IntKind.i64.wrap (((a:Nat):Int)+1)) yk (by rw [IntWalk.i64_in _ (by omega)]; omega)) (Mz rfl (WL.nil ?_)))))))
 have tQ:=tO.pk [2,0,1,3,4,5,6,7]
 exact Fin.round (a+1,S,T,y,z,A,B,bO,E,F,G,I,U,V,W,aP,aQ,p,aR,aS,bJ,r,aT,aW,s,dZ,d9,bQ.xB.ls,bQ.xE) ⟨rfl,rfl,rfl,rfl,rfl,rfl,trivial⟩ (aN.2 ⟨tQ,by exact aY,by exact(ah.trans az di),by omega,by first | omega | exact Nat.zero_le _,by first | omega | exact Nat.zero_le _,by first | omega | exact Nat.zero_le _,by omega,by omega,by omega,by omega,by omega,by omega,by omega,by omega,by omega,et (aZ) (et (congrArg (fun q=>aM o ak au q S T y z A B C E F G I U V W p r s g ai) bH) (et (iN bZ) (et (iN cO) (et (iN dn) (et (iN dz) (et (iN dB) (et (iN dN) (et (iN dQ) (et (aa dE) (et (iN dS) (et (iN ed) (et (iN eQ) (et (iN eY) (ip fC))))))))))))))⟩) (by show d.length - (a+1) < d.length - a; omega)
 refine jF (dF fC) (sr (Kz (.bool (decide (((aD.toNat:Nat):Int)=101))) (An rfl ?_)))
 by_cases fK:((aD.toNat:Nat):Int)=101
 refine jT (dT fK) (sr (Mz rfl (Kz (.pointer (some ⟨c,0,none⟩)) (Kz (.pointer (some ⟨c,11,none⟩)) (An rfl (rt (bR (tR (rs (Mz rfl (Kz (.pointer (some ⟨c,11,none⟩)) ?_)))))))))))
 have tT:=eP.pk [2,0,1,3,4,5,6,7]
 refine bz [.int .u64 ((bO:Nat):Int)] 11 tT Tryz.sizeOf22 ?_
 intro Ah tV
 refine WL.nil (bN (bN (Fin.then (Wp.region (fw (.int .i64 ((a+1:Nat):Int)) (Yl.int (e:=IntKind.i64.wrap (((a:Nat):Int)+1)) yk (by rw [IntWalk.i64_in _ (by omega)]; omega)) (Mz rfl (WL.nil ?_)))))))
 have tX:=tV.pk [2,0,1,3,4,5,6,7]
 exact Fin.round (a+1,S,T,y,z,A,B,C,bO,F,G,I,U,V,W,aP,aQ,p,aR,aS,bJ,r,aT,aW,s,dZ,d9,bQ.xB.ls,bQ.xE) ⟨rfl,rfl,rfl,rfl,rfl,rfl,trivial⟩ (aN.2 ⟨tX,by exact aY,by exact(ah.trans az di),by omega,by first | omega | exact Nat.zero_le _,by first | omega | exact Nat.zero_le _,by first | omega | exact Nat.zero_le _,by omega,by omega,by omega,by omega,by omega,by omega,by omega,by omega,by omega,et (aZ) (et (congrArg (fun q=>aM o ak au q S T y z A B C E F G I U V W p r s g ai) bH) (et (iN bZ) (et (iN cO) (et (iN dn) (et (iN dz) (et (iN dB) (et (iN dN) (et (iN dQ) (et (aa dE) (et (iN dS) (et (iN ed) (et (iN eQ) (et (iN eY) (et (iN fC) (ip fK)))))))))))))))⟩) (by show d.length - (a+1) < d.length - a; omega)
 refine jF (dF fK) (sr (Kz (.bool (decide (((aD.toNat:Nat):Int)=109))) (An rfl ?_)))
 by_cases gL:((aD.toNat:Nat):Int)=109
 refine jT (dT gL) (sr (Mz rfl (Kz (.pointer (some ⟨c,0,none⟩)) (Kz (.pointer (some ⟨c,12,none⟩)) (An rfl (rt (bR (tR (rs (Mz rfl (Kz (.pointer (some ⟨c,12,none⟩)) ?_)))))))))))
 have tY:=eP.pk [2,0,1,3,4,5,6,7]
 refine bz [.int .u64 ((bO:Nat):Int)] 12 tY Tryz.sizeOf22 ?_
 intro Ai tZ
 refine WL.nil (bN (bN (Fin.then (Wp.region (fw (.int .i64 ((a+1:Nat):Int)) (Yl.int (e:=IntKind.i64.wrap (((a:Nat):Int)+1)) yk (by rw [IntWalk.i64_in _ (by omega)]; omega)) (Mz rfl (WL.nil ?_)))))))
 have uf:=tZ.pk [2,0,1,3,4,5,6,7]
 exact Fin.round (a+1,S,T,y,z,A,B,C,E,bO,G,I,U,V,W,aP,aQ,p,aR,aS,bJ,r,aT,aW,s,dZ,d9,bQ.xB.ls,bQ.xE) ⟨rfl,rfl,rfl,rfl,rfl,rfl,trivial⟩ (aN.2 ⟨uf,by exact aY,by exact(ah.trans az di),by omega,by first | omega | exact Nat.zero_le _,by first | omega | exact Nat.zero_le _,by first | omega | exact Nat.zero_le _,by omega,by omega,by omega,by omega,by omega,by omega,by omega,by omega,by omega,et (aZ) (et (congrArg (fun q=>aM o ak au q S T y z A B C E F G I U V W p r s g ai) bH) (et (iN bZ) (et (iN cO) (et (iN dn) (et (iN dz) (et (iN dB) (et (iN dN) (et (iN dQ) (et (aa dE) (et (iN dS) (et (iN ed) (et (iN eQ) (et (iN eY) (et (iN fC) (et (iN fK) (ip gL))))))))))))))))⟩) (by show d.length - (a+1) < d.length - a; omega)
 refine jF (dF gL) (sr (Kz (.bool (decide (((aD.toNat:Nat):Int)=97))) (An rfl ?_)))
 by_cases iH:((aD.toNat:Nat):Int)=97
 refine jT (dT iH) (sr (Mz rfl (Kz (.pointer (some ⟨c,0,none⟩)) (Kz (.pointer (some ⟨c,13,none⟩)) (An rfl (rt (bR (tR (rs (Mz rfl (Kz (.pointer (some ⟨c,13,none⟩)) ?_)))))))))))
 have ug:=eP.pk [2,0,1,3,4,5,6,7]
 refine bz [.int .u64 ((bO:Nat):Int)] 13 ug Tryz.sizeOf22 ?_
 intro Aj uh
 refine WL.nil (bN (bN (Fin.then (Wp.region (fw (.int .i64 ((a+1:Nat):Int)) (Yl.int (e:=IntKind.i64.wrap (((a:Nat):Int)+1)) yk (by rw [IntWalk.i64_in _ (by omega)]; omega)) (Mz rfl (WL.nil ?_)))))))
 have ui:=uh.pk [2,0,1,3,4,5,6,7]
 exact Fin.round (a+1,S,T,y,z,A,B,C,E,F,bO,I,U,V,W,aP,aQ,p,aR,aS,bJ,r,aT,aW,s,dZ,d9,bQ.xB.ls,bQ.xE) ⟨rfl,rfl,rfl,rfl,rfl,rfl,trivial⟩ (aN.2 ⟨ui,by exact aY,by exact(ah.trans az di),by omega,by first | omega | exact Nat.zero_le _,by first | omega | exact Nat.zero_le _,by first | omega | exact Nat.zero_le _,by omega,by omega,by omega,by omega,by omega,by omega,by omega,by omega,by omega,et (aZ) (et (congrArg (fun q=>aM o ak au q S T y z A B C E F G I U V W p r s g ai) bH) (et (iN bZ) (et (iN cO) (et (iN dn) (et (iN dz) (et (iN dB) (et (iN dN) (et (iN dQ) (et (aa dE) (et (iN dS) (et (iN ed) (et (iN eQ) (et (iN eY) (et (iN fC) (et (iN fK) (et (iN gL) (ip iH)))))))))))))))))⟩) (by show d.length - (a+1) < d.length - a; omega)
 refine jF (dF iH) (sr (Kz (.bool (decide (((aD.toNat:Nat):Int)=110))) (An rfl ?_)))
 by_cases lU:((aD.toNat:Nat):Int)=110
 refine jT (dT lU) (sr (Mz rfl (Kz (.pointer (some ⟨c,0,none⟩)) (Kz (.pointer (some ⟨c,14,none⟩)) (An rfl (rt (bR (tR (rs (Mz rfl (Kz (.pointer (some ⟨c,14,none⟩)) ?_)))))))))))
 have uj:=eP.pk [2,0,1,3,4,5,6,7]
 refine bz [.int .u64 ((bO:Nat):Int)] 14 uj Tryz.sizeOf22 ?_
 intro Ak uk
 refine WL.nil (bN (bN (Fin.then (Wp.region (fw (.int .i64 ((a+1:Nat):Int)) (Yl.int (e:=IntKind.i64.wrap (((a:Nat):Int)+1)) yk (by rw [IntWalk.i64_in _ (by omega)]; omega)) (Mz rfl (WL.nil ?_)))))))
 have ul:=uk.pk [2,0,1,3,4,5,6,7]
 exact Fin.round (a+1,S,T,y,z,A,B,C,E,F,G,bO,U,V,W,aP,aQ,p,aR,aS,bJ,r,aT,aW,s,dZ,d9,bQ.xB.ls,bQ.xE) ⟨rfl,rfl,rfl,rfl,rfl,rfl,trivial⟩ (aN.2 ⟨ul,by exact aY,by exact(ah.trans az di),by omega,by first | omega | exact Nat.zero_le _,by first | omega | exact Nat.zero_le _,by first | omega | exact Nat.zero_le _,by omega,by omega,by omega,by omega,by omega,by omega,by omega,by omega,by omega,et (aZ) (et (congrArg (fun q=>aM o ak au q S T y z A B C E F G I U V W p r s g ai) bH) (et (iN bZ) (et (iN cO) (et (iN dn) (et (iN dz) (et (iN dB) (et (iN dN) (et (iN dQ) (et (aa dE) (et (iN dS) (et (iN ed) (et (iN eQ) (et (iN eY) (et (iN fC) (et (iN fK) (et (iN gL) (et (iN iH) (ip lU))))))))))))))))))⟩) (by show d.length - (a+1) < d.length - a; omega)
 exfalso; have q9:=sQ gW gX; omega
 refine jF (dF kY) (Wp.exit (Fin.thenX ?_))
 have oF:aM o ak au d 0 0 0 0 0 0 0 0 0 0 0 false ([]) ([]) ([]) ([]) ([]) aK.xB.ls aK.xE=(y,z,A,B,C,r,S,T,E,F,G,I,U,V,W,p,s,g,ai):=et (aZ) (et (congrArg (fun q=>aM o ak au q S T y z A B C E F G I U V W p r s g ai) (dY (ls:=d) (i:=a) (by omega))) rfl)
 refine Fin.thenX (Fin.blockX (Fin.then (sr (La (bf o ak au 0 S T y z A B C E F G I U V W aP p.length aQ aR r.length aS aT s.length aW) dK 1 Tryz.isAgg29 Tryz.sizeOf29 ?_))))
 have um:=dK.pk [3,0,1,2,4,5,6,7]
 refine bz (bf o ak au 0 S T y z A B C E F G I U V W aP p.length aQ aR r.length aS aT s.length aW) 0 um Tryz.sizeOf29 ?_
 intro Al lV
 refine nt (rt (Fin.res (lQ rfl rfl (bu.agg (cs:=(bf o ak au 0 S T y z A B C E F G I U V W aP p.length aQ aR r.length aS aT s.length aW)) Tryz.isAgg29 Tryz.sizeOf29 ((lV.cls (i:=0) rfl).lit (k:=0) (m:=21) rfl))) ?_))
 have uo:=lV.pk [4,5,6,7,3]
 have e:jO p0=(bG.mk o ak au 0 S T y z A B C E F G I U (bC.mk V W) (Ll.mk p) (Ll.mk r) (Ll.mk s),RT.mk (Ll.mk g) ai):=et (aa je) (et (ip fo) (et (aa kT) (et (aa qL) (et (aa jh) (et (aa jl) (et (aa gW) (aa oF)))))))
 obtain⟨rfl,rfl⟩:=dL (e.symm.trans hr)
 exact⟨aP,aQ,aR,aS,aT,aW,bJ,bK,aH,rfl,uo,aY,(ah.trans (ah.trans (ah.trans (ah.trans aJ dI) bX) cz) az),(by first | omega | (dsimp only; omega) | (simp only [List.length_nil]; omega) | (refine⟨?_, ?_⟩ <;> (dsimp only; omega)))⟩
 refine Sz (dF fo) (Sz (dF fo) (Sz (dF fo) (Sz (dF fo) (fw (.bool false) (Yl.pickF rfl (dF fo) rfl) (nt (jf (sk (sr (Mz rfl ?_)))))))))
 have uq:=kI.pk [1,0,2]
 obtain⟨⟨ax,fD⟩,jR⟩:∃ q:Int × RT,aU bV=q:=⟨_,rfl⟩
 obtain⟨Am,oG,oH,oI,yh⟩:=Own.enter1 uq
 refine cl Tryz.call90 (gF _ _ g0 bV gH fH ax fD oG (fun j n=>ah.rds av (by decide) aJ ((oH _ aG) j n)) (show bV.xB.ls.length≤fH∧bV.xB.ls.length≤9223372036854775807 from by omega) jR) ?_
 rintro _ Ao ⟨jS,iI,rfl,oJ,bY,jU⟩
 have ut:=oI _ _ oJ
 replace bY:ah 1 gH fH bV.xB.ls jS iI fD.xB.ls:=bY
 have yj:=(bY).le
 replace jU:0≤ax∧ax≤255:=jU
 refine Kz (.pointer (some ⟨c,1,none⟩)) ?_
 have uu:=ut.pk [1,0,2]
 refine bz [.int .i64 ax] 1 uu Tryz.sizeOf3 ?_
 intro Ap uw
 refine ns (Mz rfl ?_)
 have uy:=uw.pk [1,0,2]
 obtain⟨⟨ay,aL⟩,jV⟩:∃ q:Int × RT,aU fD=q:=⟨_,rfl⟩
 obtain⟨Aq,oK,oL,oM,yl⟩:=Own.enter1 uy
 refine cl Tryz.call90 (gF _ _ g0 fD jS iI ay aL oK (fun j n=>ah.rds av (by decide) bY ((fun j n=>ah.rds av (by decide) aJ ((oL _ aG) j n)) j n)) (show fD.xB.ls.length≤iI∧fD.xB.ls.length≤9223372036854775807 from by omega) jV) ?_
 rintro _ Au ⟨ek,eu,rfl,oN,cB,jW⟩
 have uz:=oM _ _ oN
 replace cB:ah 1 jS iI fD.xB.ls ek eu aL.xB.ls:=cB
 have ym:=(cB).le
 replace jW:0≤ay∧ay≤255:=jW
 refine Kz (.pointer (some ⟨c,2,none⟩)) ?_
 have uA:=uz.pk [1,0,2]
 refine bz [.int .i64 ay] 2 uA Tryz.sizeOf3 ?_
 intro Av lW
 refine nt (Wp.seq (sr (Kz (.pointer (some ⟨c,0,none⟩)) (Lz (.int .i64 o) lW 0 Tryz.isAgg3 ?_))))
 obtain⟨f,gZ⟩:∃ q,dw o=q:=⟨_,rfl⟩
 obtain⟨Aw,oO,yn,oP,yo⟩:=Own.enter0 lW
 refine cl Tryz.call27 (kv _ _ o f oO gZ) ?_
 rintro _ Ay ⟨rfl,oQ,jX⟩
 have uB:=oP _ _ oQ
 replace jX:f.length≤5:=jX
 refine WL.do rfl (Do.toBytesE (l:=f) Tryz.underlying9 Tryz.underlying31 Tryz.underlying5 uB rfl (by unfold maxLen; omega) ?_)
 intro eD eZ iJ uC
 refine Kz (.int .i64 ((f.length:Nat):Int)) (Mn rfl (bo ?_))
 have uD:Own w D iJ [row none 0 0 (List.flatMap aB.cells ([])) 64 6,row eD f.length eZ (List.flatMap eB f) 5 1,blk c (bf o ax ay 0 0 0 0 0 0 0 0 0 0 0 0 false ([]) ([]) none 0 0 none 0 0 none 0 0) 29,blk g0 [.slice ek aL.xB.ls.length eu, .int .i64 aL.xE] 75,blk dH (bf 0 0 0 0 0 0 0 0 0 0 0 0 0 0 0 false ([]) ([]) none 0 0 none 0 0 none 0 0) 29]:=uC.free (bP 64 6)
 have uE:Own w D iJ [sepL (List.flatMap ag.own ([])),row none 0 0 (List.flatMap aB.cells ([])) 64 6,row eD f.length eZ (List.flatMap eB f) 5 1,blk c (bf o ax ay 0 0 0 0 0 0 0 0 0 0 0 0 false ([]) ([]) none 0 0 none 0 0 none 0 0) 29,blk g0 [.slice ek aL.xB.ls.length eu, .int .i64 aL.xE] 75,blk dH (bf 0 0 0 0 0 0 0 0 0 0 0 0 0 0 0 false ([]) ([]) none 0 0 none 0 0 none 0 0) 29]:=uD.sepNil
 have uF:Own w D iJ [row none 0 0 (List.flatMap ag.cells ([])) 84 3,sepL (List.flatMap ag.own ([])),row none 0 0 (List.flatMap aB.cells ([])) 64 6,row eD f.length eZ (List.flatMap eB f) 5 1,blk c (bf o ax ay 0 0 0 0 0 0 0 0 0 0 0 0 false ([]) ([]) none 0 0 none 0 0 none 0 0) 29,blk g0 [.slice ek aL.xB.ls.length eu, .int .i64 aL.xE] 75,blk dH (bf 0 0 0 0 0 0 0 0 0 0 0 0 0 0 0 false ([]) ([]) none 0 0 none 0 0 none 0 0) 29]:=uE.free (bP 84 3)
 have uG:Own w D iJ [row none 0 0 (List.flatMap aA.cells ([])) 88 2,row none 0 0 (List.flatMap ag.cells ([])) 84 3,sepL (List.flatMap ag.own ([])),row none 0 0 (List.flatMap aB.cells ([])) 64 6,row eD f.length eZ (List.flatMap eB f) 5 1,blk c (bf o ax ay 0 0 0 0 0 0 0 0 0 0 0 0 false ([]) ([]) none 0 0 none 0 0 none 0 0) 29,blk g0 [.slice ek aL.xB.ls.length eu, .int .i64 aL.xE] 75,blk dH (bf 0 0 0 0 0 0 0 0 0 0 0 0 0 0 0 false ([]) ([]) none 0 0 none 0 0 none 0 0) 29]:=uF.free (bP 88 2)
 have uH:=uG.pk [4,5,6,7,3,1,2,0]
 obtain⟨lX,oU⟩:∃ q:(Nat × Int × Int × Nat × Nat × Nat × Nat × Nat × Nat × Nat × Nat × Nat × Bool × (List UInt8) × (List UInt8) × (Option Addr) × Nat × (List aB) × (Option Addr) × Nat × (List ag) × (List aX) × (Option Addr) × Nat × (List aA) × (Option Addr) × Nat × (List UInt8) × Int)→World→Prop,q=fun(i:Nat × Int × Int × Nat × Nat × Nat × Nat × Nat × Nat × Nat × Nat × Nat × Bool × (List UInt8) × (List UInt8) × (Option Addr) × Nat × (List aB) × (Option Addr) × Nat × (List ag) × (List aX) × (Option Addr) × Nat × (List aA) × (Option Addr) × Nat × (List UInt8) × Int) w'=>Own w D w' [row eD f.length eZ (List.flatMap eB f) 5 1,blk c (bf o ax ay 0 i.2.1 i.2.2.1 i.2.2.2.1 i.2.2.2.2.1 i.2.2.2.2.2.1 i.2.2.2.2.2.2.1 i.2.2.2.2.2.2.2.1 i.2.2.2.2.2.2.2.2.1 i.2.2.2.2.2.2.2.2.2.1 i.2.2.2.2.2.2.2.2.2.2.1 i.2.2.2.2.2.2.2.2.2.2.2.1 i.2.2.2.2.2.2.2.2.2.2.2.2.1 i.2.2.2.2.2.2.2.2.2.2.2.2.2.1 i.2.2.2.2.2.2.2.2.2.2.2.2.2.2.1 i.2.2.2.2.2.2.2.2.2.2.2.2.2.2.2.1 i.2.2.2.2.2.2.2.2.2.2.2.2.2.2.2.2.2.1.length i.2.2.2.2.2.2.2.2.2.2.2.2.2.2.2.2.1 i.2.2.2.2.2.2.2.2.2.2.2.2.2.2.2.2.2.2.1 i.2.2.2.2.2.2.2.2.2.2.2.2.2.2.2.2.2.2.2.2.2.1.length i.2.2.2.2.2.2.2.2.2.2.2.2.2.2.2.2.2.2.2.1 i.2.2.2.2.2.2.2.2.2.2.2.2.2.2.2.2.2.2.2.2.2.2.1 i.2.2.2.2.2.2.2.2.2.2.2.2.2.2.2.2.2.2.2.2.2.2.2.2.1.length i.2.2.2.2.2.2.2.2.2.2.2.2.2.2.2.2.2.2.2.2.2.2.2.1) 29,blk g0 [.slice i.2.2.2.2.2.2.2.2.2.2.2.2.2.2.2.2.2.2.2.2.2.2.2.2.2.1 i.2.2.2.2.2.2.2.2.2.2.2.2.2.2.2.2.2.2.2.2.2.2.2.2.2.2.2.1.length i.2.2.2.2.2.2.2.2.2.2.2.2.2.2.2.2.2.2.2.2.2.2.2.2.2.2.1, .int .i64 i.2.2.2.2.2.2.2.2.2.2.2.2.2.2.2.2.2.2.2.2.2.2.2.2.2.2.2.2] 75,blk dH (bf 0 0 0 0 0 0 0 0 0 0 0 0 0 0 0 false ([]) ([]) none 0 0 none 0 0 none 0 0) 29,row i.2.2.2.2.2.2.2.2.2.2.2.2.2.2.2.1 i.2.2.2.2.2.2.2.2.2.2.2.2.2.2.2.2.2.1.length i.2.2.2.2.2.2.2.2.2.2.2.2.2.2.2.2.1 (List.flatMap aB.cells i.2.2.2.2.2.2.2.2.2.2.2.2.2.2.2.2.2.1) 64 6,row i.2.2.2.2.2.2.2.2.2.2.2.2.2.2.2.2.2.2.1 i.2.2.2.2.2.2.2.2.2.2.2.2.2.2.2.2.2.2.2.2.2.1.length i.2.2.2.2.2.2.2.2.2.2.2.2.2.2.2.2.2.2.2.1 (List.flatMap ag.cells i.2.2.2.2.2.2.2.2.2.2.2.2.2.2.2.2.2.2.2.2.1) 84 3,sepL (List.flatMap ag.own i.2.2.2.2.2.2.2.2.2.2.2.2.2.2.2.2.2.2.2.2.1),row i.2.2.2.2.2.2.2.2.2.2.2.2.2.2.2.2.2.2.2.2.2.2.1 i.2.2.2.2.2.2.2.2.2.2.2.2.2.2.2.2.2.2.2.2.2.2.2.2.1.length i.2.2.2.2.2.2.2.2.2.2.2.2.2.2.2.2.2.2.2.2.2.2.2.1 (List.flatMap aA.cells i.2.2.2.2.2.2.2.2.2.2.2.2.2.2.2.2.2.2.2.2.2.2.2.2.1) 88 2]∧(List.map ag.abs i.2.2.2.2.2.2.2.2.2.2.2.2.2.2.2.2.2.2.2.2.1=i.2.2.2.2.2.2.2.2.2.2.2.2.2.2.2.2.2.2.2.2.2.1∧ah 1 ek eu aL.xB.ls i.2.2.2.2.2.2.2.2.2.2.2.2.2.2.2.2.2.2.2.2.2.2.2.2.2.1 i.2.2.2.2.2.2.2.2.2.2.2.2.2.2.2.2.2.2.2.2.2.2.2.2.2.2.1 i.2.2.2.2.2.2.2.2.2.2.2.2.2.2.2.2.2.2.2.2.2.2.2.2.2.2.2.1∧i.1≤f.length∧i.2.2.2.2.2.2.2.2.2.2.2.2.2.2.2.2.2.1.length≤1000∧i.2.2.2.2.2.2.2.2.2.2.2.2.2.2.2.2.2.2.2.2.2.1.length≤1000∧i.2.2.2.2.2.2.2.2.2.2.2.2.2.2.2.2.2.2.2.2.2.2.2.2.1.length≤1000∧i.2.2.2.1≤18446744073709551615∧i.2.2.2.2.1≤18446744073709551615∧i.2.2.2.2.2.1≤18446744073709551615∧i.2.2.2.2.2.2.1≤18446744073709551615∧i.2.2.2.2.2.2.2.1≤18446744073709551615∧i.2.2.2.2.2.2.2.2.1≤18446744073709551615∧i.2.2.2.2.2.2.2.2.2.1≤18446744073709551615∧i.2.2.2.2.2.2.2.2.2.2.1≤18446744073709551615∧i.2.2.2.2.2.2.2.2.2.2.2.1≤18446744073709551615∧bS o ax ay f 0 0 0 0 0 0 0 0 0 0 0 false ([]) ([]) ([]) ([]) ([]) aL.xB.ls aL.xE=bS o ax ay (List.drop i.1 f) i.2.1 i.2.2.1 i.2.2.2.1 i.2.2.2.2.1 i.2.2.2.2.2.1 i.2.2.2.2.2.2.1 i.2.2.2.2.2.2.2.1 i.2.2.2.2.2.2.2.2.1 i.2.2.2.2.2.2.2.2.2.1 i.2.2.2.2.2.2.2.2.2.2.1 i.2.2.2.2.2.2.2.2.2.2.2.1 i.2.2.2.2.2.2.2.2.2.2.2.2.1 i.2.2.2.2.2.2.2.2.2.2.2.2.2.1 i.2.2.2.2.2.2.2.2.2.2.2.2.2.2.1 i.2.2.2.2.2.2.2.2.2.2.2.2.2.2.2.2.2.1 i.2.2.2.2.2.2.2.2.2.2.2.2.2.2.2.2.2.2.2.2.2.1 i.2.2.2.2.2.2.2.2.2.2.2.2.2.2.2.2.2.2.2.2.2.2.2.2.1 i.2.2.2.2.2.2.2.2.2.2.2.2.2.2.2.2.2.2.2.2.2.2.2.2.2.2.2.1 i.2.2.2.2.2.2.2.2.2.2.2.2.2.2.2.2.2.2.2.2.2.2.2.2.2.2.2.2):=⟨_,rfl⟩
 have aO:∀ {b:Nat} {X:Int} {Y:Int} {J:Nat} {K:Nat} {L:Nat} {M:Nat} {N:Nat} {O:Nat} {P:Nat} {Q:Nat} {R:Nat} {Z:Bool} {ae:List UInt8} {af:List UInt8} {bi:Option Addr} {bn:Nat} {t:List aB} {bq:Option Addr} {bv:Nat} {bL:List ag} {u:List aX} {bA:Option Addr} {bB:Nat} {x:List aA} {bM:Option Addr} {aI:Nat} {h:List UInt8} {aj:Int} {w':World},lX (b,X,Y,J,K,L,M,N,O,P,Q,R,Z,ae,af,bi,bn,t,bq,bv,bL,u,bA,bB,x,bM,aI,h,aj) w'↔Own w D w' [row eD f.length eZ (List.flatMap eB f) 5 1,blk c (bf o ax ay 0 X Y J K L M N O P Q R Z ae af bi t.length bn bq u.length bv bA x.length bB) 29,blk g0 [.slice bM h.length aI, .int .i64 aj] 75,blk dH (bf 0 0 0 0 0 0 0 0 0 0 0 0 0 0 0 false ([]) ([]) none 0 0 none 0 0 none 0 0) 29,row bi t.length bn (List.flatMap aB.cells t) 64 6,row bq u.length bv (List.flatMap ag.cells bL) 84 3,sepL (List.flatMap ag.own bL),row bA x.length bB (List.flatMap aA.cells x) 88 2]∧List.map ag.abs bL=u∧ah 1 ek eu aL.xB.ls bM aI h∧b≤f.length∧t.length≤1000∧u.length≤1000∧x.length≤1000∧J≤18446744073709551615∧K≤18446744073709551615∧L≤18446744073709551615∧M≤18446744073709551615∧N≤18446744073709551615∧O≤18446744073709551615∧P≤18446744073709551615∧Q≤18446744073709551615∧R≤18446744073709551615∧bS o ax ay f 0 0 0 0 0 0 0 0 0 0 0 false ([]) ([]) ([]) ([]) ([]) aL.xB.ls aL.xE=bS o ax ay (List.drop b f) X Y J K L M N O P Q R Z ae af t u x h aj:=by intros; subst oU; exact Iff.rfl
 refine Wp.loop (fun i:Nat × Int × Int × Nat × Nat × Nat × Nat × Nat × Nat × Nat × Nat × Nat × Bool × (List UInt8) × (List UInt8) × (Option Addr) × Nat × (List aB) × (Option Addr) × Nat × (List ag) × (List aX) × (Option Addr) × Nat × (List aA) × (Option Addr) × Nat × (List UInt8) × Int=> [(35, .int .i64 ((i.1:Nat):Int)),(34, .int .i64 ((f.length:Nat):Int)),(33, .slice eD f.length eZ),(3, .pointer (some ⟨c,0,none⟩)),(2, .pointer (some ⟨dH,0,none⟩)),(0, .pointer (some ⟨g0,0,none⟩))]) lX (fun i=>f.length - i.1) (0,0,0,0,0,0,0,0,0,0,0,0,false, [], [],none,0, [],none,0, [], [],none,0, [],ek,eu,aL.xB.ls,aL.xE) ⟨rfl,rfl,rfl,rfl,rfl,rfl,trivial⟩ (aO.2 ⟨uH,(show List.map ag.abs ([])=([])∧ah 1 ek eu aL.xB.ls ek eu aL.xB.ls∧0≤f.length∧0≤1000∧0≤1000∧0≤1000∧0≤18446744073709551615∧0≤18446744073709551615∧0≤18446744073709551615∧0≤18446744073709551615∧0≤18446744073709551615∧0≤18446744073709551615∧0≤18446744073709551615∧0≤18446744073709551615∧0≤18446744073709551615∧bS o ax ay f 0 0 0 0 0 0 0 0 0 0 0 false ([]) ([]) ([]) ([]) ([]) aL.xB.ls aL.xE=bS o ax ay (List.drop 0 f) 0 0 0 0 0 0 0 0 0 0 0 false ([]) ([]) ([]) ([]) ([]) aL.xB.ls aL.xE from ⟨by exact rfl,by exact(ah.refl (by omega)),by omega,by first | omega | exact Nat.zero_le _,by first | omega | exact Nat.zero_le _,by first | omega | exact Nat.zero_le _,by omega,by omega,by omega,by omega,by omega,by omega,by omega,by omega,by omega,rfl⟩)⟩) ?_
 rintro ⟨b,X,Y,J,K,L,M,N,O,P,Q,R,Z,ae,af,bi,bn,t,bq,bv,bL,u,bA,bB,x,bM,aI,h,aj⟩ Az oV
 show Wp _ _ _ [(35, .int .i64 ((b:Nat):Int)),(34, .int .i64 ((f.length:Nat):Int)),(33, .slice eD f.length eZ),(3, .pointer (some ⟨c,0,none⟩)),(2, .pointer (some ⟨dH,0,none⟩)),(0, .pointer (some ⟨g0,0,none⟩))] _ _
 obtain⟨dO,bE,aC,yt,yu,yw,yx,yz,yA,yB,yC,yD,yE,yF,yG,yH,bF⟩:=aO.1 oV
 have yI:=dM bE
 have yJ:=(aC).le
 refine sr (Kz (.bool (decide (((b:Nat):Int) < ((f.length:Nat):Int)))) (nt (Wp.seq ?_)))
 by_cases lY:((b:Nat):Int) < ((f.length:Nat):Int)
 obtain⟨aF,ib⟩:=eG (ls:=f) (i:=b) av (by decide) (dO.rds (i:=0) rfl) (by first | omega | (simp; done) | (simp; omega))
 have bI:=drop_at ib
 refine jT (dT lY) (sk (Wp.seq (bo (sr (fw (.pointer (some ⟨ab eD,ao eD+b *1,none⟩)) (Yl.indexAddr (bW) rfl rfl ((dO.rds (i:=0) rfl).addr (i:=b) (by omega)) (by omega)) (fw (.int .u8 ((aF.toNat:Nat):Int)) (Yl.load rfl (bu.one Tryz.isAgg5 (((dO.rds (i:=0) rfl).elem av ib (by decide)).at_ (k:=0) rfl))) (Ar rfl (Mn rfl (bo (sr (Kz (.bool (decide (((aF.toNat:Nat):Int)=99))) (An rfl ?_))))))))))))
 by_cases cu:((aF.toNat:Nat):Int)=99
 refine jT (dT cu) (Wp.region (Mz rfl ?_))
 have uI:=dO.pk [2,0,1,3,4,5,6,7]
 obtain⟨⟨gM,iK⟩,jY⟩:∃ q:Int × RT,aU (RT.mk (Ll.mk h) aj)=q:=⟨_,rfl⟩
 obtain⟨AA,o5,o6,o7,yK⟩:=Own.enter1 uI
 refine cl Tryz.call90 (gF _ _ g0 (RT.mk (Ll.mk h) aj) bM aI gM iK o5 (fun j n=>ah.rds av (by decide) aC ((fun j n=>ah.rds av (by decide) cB ((fun j n=>ah.rds av (by decide) bY ((fun j n=>ah.rds av (by decide) aJ ((o6 _ aG) j n)) j n)) j n)) j n)) (show h.length≤aI∧h.length≤9223372036854775807 from by omega) jY) ?_
 rintro _ AB ⟨lZ,l5,rfl,o8,gp,jZ⟩
 have uJ:=o7 _ _ o8
 replace gp:ah 1 bM aI h lZ l5 iK.xB.ls:=gp
 have yL:=(gp).le
 replace jZ:0≤gM∧gM≤255:=jZ
 refine Kz (.pointer (some ⟨c,4,none⟩)) ?_
 have uK:=uJ.pk [2,0,1,3,4,5,6,7]
 refine bz [.int .i64 gM] 4 uK Tryz.sizeOf3 ?_
 intro AC uL
 refine WL.nil (bN (bN (Fin.then (Wp.region (fw (.int .i64 ((b+1:Nat):Int)) (Yl.int (e:=IntKind.i64.wrap (((b:Nat):Int)+1)) yk (by rw [IntWalk.i64_in _ (by omega)]; omega)) (Mz rfl (WL.nil ?_)))))))
 have uM:=uL.pk [2,0,1,3,4,5,6,7]
 exact Fin.round (b+1,gM,Y,J,K,L,M,N,O,P,Q,R,Z,ae,af,bi,bn,t,bq,bv,bL,u,bA,bB,x,lZ,l5,iK.xB.ls,iK.xE) ⟨rfl,rfl,rfl,rfl,rfl,rfl,trivial⟩ (aO.2 ⟨uM,by exact bE,by exact(ah.trans aC gp),by omega,by first | omega | exact Nat.zero_le _,by first | omega | exact Nat.zero_le _,by first | omega | exact Nat.zero_le _,by omega,by omega,by omega,by omega,by omega,by omega,by omega,by omega,by omega,et (bF) (et (congrArg (fun q=>bS o ax ay q X Y J K L M N O P Q R Z ae af t u x h aj) bI) (et (ip cu) (aa jY)))⟩) (by show f.length - (b+1) < f.length - b; omega)
 refine jF (dF cu) (sr (Kz (.bool (decide (((aF.toNat:Nat):Int)=112))) (An rfl ?_)))
 by_cases df:((aF.toNat:Nat):Int)=112
 refine jT (dT df) (Wp.region (Mz rfl ?_))
 have uN:=dO.pk [2,0,1,3,4,5,6,7]
 obtain⟨⟨gP,iL⟩,j3⟩:∃ q:Int × RT,aU (RT.mk (Ll.mk h) aj)=q:=⟨_,rfl⟩
 obtain⟨AJ,o9,pg,pq,yM⟩:=Own.enter1 uN
 refine cl Tryz.call90 (gF _ _ g0 (RT.mk (Ll.mk h) aj) bM aI gP iL o9 (fun j n=>ah.rds av (by decide) aC ((fun j n=>ah.rds av (by decide) cB ((fun j n=>ah.rds av (by decide) bY ((fun j n=>ah.rds av (by decide) aJ ((pg _ aG) j n)) j n)) j n)) j n)) (show h.length≤aI∧h.length≤9223372036854775807 from by omega) j3) ?_
 rintro _ AL ⟨l6,l7,rfl,pu,gq,j4⟩
 have uO:=pq _ _ pu
 replace gq:ah 1 bM aI h l6 l7 iL.xB.ls:=gq
 have yN:=(gq).le
 replace j4:0≤gP∧gP≤255:=j4
 refine Kz (.pointer (some ⟨c,5,none⟩)) ?_
 have uP:=uO.pk [2,0,1,3,4,5,6,7]
 refine bz [.int .i64 gP] 5 uP Tryz.sizeOf3 ?_
 intro AO uQ
 refine WL.nil (bN (bN (Fin.then (Wp.region (fw (.int .i64 ((b+1:Nat):Int)) (Yl.int (e:=IntKind.i64.wrap (((b:Nat):Int)+1)) yk (by rw [IntWalk.i64_in _ (by omega)]; omega)) (Mz rfl (WL.nil ?_)))))))
 have uR:=uQ.pk [2,0,1,3,4,5,6,7]
 exact Fin.round (b+1,X,gP,J,K,L,M,N,O,P,Q,R,Z,ae,af,bi,bn,t,bq,bv,bL,u,bA,bB,x,l6,l7,iL.xB.ls,iL.xE) ⟨rfl,rfl,rfl,rfl,rfl,rfl,trivial⟩ (aO.2 ⟨uR,by exact bE,by exact(ah.trans aC gq),by omega,by first | omega | exact Nat.zero_le _,by first | omega | exact Nat.zero_le _,by first | omega | exact Nat.zero_le _,by omega,by omega,by omega,by omega,by omega,by omega,by omega,by omega,by omega,et (bF) (et (congrArg (fun q=>bS o ax ay q X Y J K L M N O P Q R Z ae af t u x h aj) bI) (et (iN cu) (et (ip df) (aa j3))))⟩) (by show f.length - (b+1) < f.length - b; omega)
 refine jF (dF df) (sr (Kz (.bool (decide (((aF.toNat:Nat):Int)=102))) (An rfl ?_)))
 by_cases dx:((aF.toNat:Nat):Int)=102
 refine jT (dT dx) (Wp.region (Mz rfl ?_))
 have uS:=dO.pk [2,0,1,3,4,5,6,7]
 obtain⟨⟨j5,iM⟩,j6⟩:∃ q:Bool × RT,fM (RT.mk (Ll.mk h) aj)=q:=⟨_,rfl⟩
 obtain⟨AP,pz,pE,pF,yO⟩:=Own.enter1 uS
 refine cl Tryz.call91 (mo _ _ g0 (RT.mk (Ll.mk h) aj) bM aI j5 iM pz (fun j n=>ah.rds av (by decide) aC ((fun j n=>ah.rds av (by decide) cB ((fun j n=>ah.rds av (by decide) bY ((fun j n=>ah.rds av (by decide) aJ ((pE _ aG) j n)) j n)) j n)) j n)) (show h.length≤aI∧h.length≤9223372036854775807 from by omega) j6) ?_
 rintro _ AQ ⟨l8,l9,rfl,pG,gu⟩
 have uT:=pF _ _ pG
 replace gu:ah 1 bM aI h l8 l9 iM.xB.ls:=gu
 have yP:=(gu).le
 refine Kz (.pointer (some ⟨c,15,none⟩)) ?_
 have uU:=uT.pk [2,0,1,3,4,5,6,7]
 refine bz [.bool j5] 15 uU Tryz.sizeOf4 ?_
 intro AR uV
 refine WL.nil (bN (bN (Fin.then (Wp.region (fw (.int .i64 ((b+1:Nat):Int)) (Yl.int (e:=IntKind.i64.wrap (((b:Nat):Int)+1)) yk (by rw [IntWalk.i64_in _ (by omega)]; omega)) (Mz rfl (WL.nil ?_)))))))
 have uW:=uV.pk [2,0,1,3,4,5,6,7]
 exact Fin.round (b+1,X,Y,J,K,L,M,N,O,P,Q,R,j5,ae,af,bi,bn,t,bq,bv,bL,u,bA,bB,x,l8,l9,iM.xB.ls,iM.xE) ⟨rfl,rfl,rfl,rfl,rfl,rfl,trivial⟩ (aO.2 ⟨uW,by exact bE,by exact(ah.trans aC gu),by omega,by first | omega | exact Nat.zero_le _,by first | omega | exact Nat.zero_le _,by first | omega | exact Nat.zero_le _,by omega,by omega,by omega,by omega,by omega,by omega,by omega,by omega,by omega,et (bF) (et (congrArg (fun q=>bS o ax ay q X Y J K L M N O P Q R Z ae af t u x h aj) bI) (et (iN cu) (et (iN df) (et (ip dx) (aa j6)))))⟩) (by show f.length - (b+1) < f.length - b; omega)
 refine jF (dF dx) (sr (Kz (.bool (decide (((aF.toNat:Nat):Int)=114))) (An rfl ?_)))
 by_cases dA:((aF.toNat:Nat):Int)=114
 refine jT (dT dA) (sr (Mz rfl ?_))
 have uX:=dO.pk [2,0,1,3,4,5,6,7]
 obtain⟨⟨kg,fE⟩,ko⟩:∃ q:(List UInt8) × RT,bg (RT.mk (Ll.mk h) aj)=q:=⟨_,rfl⟩
 obtain⟨AU,pI,pJ,pK,yQ⟩:=Own.enter1 uX
 refine cl Tryz.call92 (gN _ _ g0 (RT.mk (Ll.mk h) aj) bM aI kg fE pI (fun j n=>ah.rds av (by decide) aC ((fun j n=>ah.rds av (by decide) cB ((fun j n=>ah.rds av (by decide) bY ((fun j n=>ah.rds av (by decide) aJ ((pJ _ aG) j n)) j n)) j n)) j n)) (show h.length≤aI∧h.length≤9223372036854775807 from by omega) ko) ?_
 rintro _ AV ⟨kr,iO,rfl,pM,fF⟩
 have uY:=pK _ _ pM
 replace fF:ah 1 bM aI h kr iO fE.xB.ls:=fF
 have yR:=(fF).le
 refine Kz (.pointer (some ⟨c,16,none⟩)) (Kz (.pointer (some ⟨c,16,none⟩)) ?_)
 have uZ:=uY.pk [2,0,1,3,4,5,6,7]
 refine bz [.string ⟨List.toArray kg⟩] 16 uZ Tryz.sizeOf9 ?_
 intro AX u6
 refine nt (Wp.region (Mz rfl ?_))
 have u7:=u6.pk [1,0,2,3,4,5,6,7]
 obtain⟨⟨ku,iP⟩,kw⟩:∃ q:(List UInt8) × RT,bg fE=q:=⟨_,rfl⟩
 obtain⟨AY,pO,pQ,pR,yS⟩:=Own.enter1 u7
 refine cl Tryz.call92 (gN _ _ g0 fE kr iO ku iP pO (fun j n=>ah.rds av (by decide) fF ((fun j n=>ah.rds av (by decide) aC ((fun j n=>ah.rds av (by decide) cB ((fun j n=>ah.rds av (by decide) bY ((fun j n=>ah.rds av (by decide) aJ ((pQ _ aG) j n)) j n)) j n)) j n)) j n)) (show fE.xB.ls.length≤iO∧fE.xB.ls.length≤9223372036854775807 from by omega) kw) ?_
 rintro _ AZ ⟨ma,mf,rfl,pU,gy⟩
 have ve:=pR _ _ pU
 replace gy:ah 1 kr iO fE.xB.ls ma mf iP.xB.ls:=gy
 have yT:=(gy).le
 refine Kz (.pointer (some ⟨c,16,none⟩)) (Kz (.pointer (some ⟨c,17,none⟩)) ?_)
 have vg:=ve.pk [1,0,2,3,4,5,6,7]
 refine bz [.string ⟨List.toArray ku⟩] 17 vg Tryz.sizeOf9 ?_
 intro A7 vk
 refine WL.nil (bN (bN (Fin.then (Wp.region (fw (.int .i64 ((b+1:Nat):Int)) (Yl.int (e:=IntKind.i64.wrap (((b:Nat):Int)+1)) yk (by rw [IntWalk.i64_in _ (by omega)]; omega)) (Mz rfl (WL.nil ?_)))))))
 have vo:=vk.pk [2,0,1,3,4,5,6,7]
 exact Fin.round (b+1,X,Y,J,K,L,M,N,O,P,Q,R,Z,kg,ku,bi,bn,t,bq,bv,bL,u,bA,bB,x,ma,mf,iP.xB.ls,iP.xE) ⟨rfl,rfl,rfl,rfl,rfl,rfl,trivial⟩ (aO.2 ⟨vo,by exact bE,by exact(ah.trans (ah.trans aC fF) gy),by omega,by first | omega | exact Nat.zero_le _,by first | omega | exact Nat.zero_le _,by first | omega | exact Nat.zero_le _,by omega,by omega,by omega,by omega,by omega,by omega,by omega,by omega,by omega,et (bF) (et (congrArg (fun q=>bS o ax ay q X Y J K L M N O P Q R Z ae af t u x h aj) bI) (et (iN cu) (et (iN df) (et (iN dx) (et (ip dA) (et (aa ko) (aa kw)))))))⟩) (by show f.length - (b+1) < f.length - b; omega)
 refine jF (dF dA) (sr (Kz (.bool (decide (((aF.toNat:Nat):Int)=111))) (An rfl ?_)))
 by_cases dC:((aF.toNat:Nat):Int)=111
 refine jT (dT dC) (Wp.region (Mz rfl ?_))
 have vv:=dO.pk [2,0,1,3,4,5,6,7]
 obtain⟨⟨iQ,iR⟩,ky⟩:∃ q:(List aB) × RT,iY (RT.mk (Ll.mk h) aj)=q:=⟨_,rfl⟩
 obtain⟨A8,pV,pW,pX,yU⟩:=Own.enter1 vv
 refine cl Tryz.call93 (oW _ _ g0 (RT.mk (Ll.mk h) aj) bM aI iQ iR pV (fun j n=>ah.rds av (by decide) aC ((fun j n=>ah.rds av (by decide) cB ((fun j n=>ah.rds av (by decide) bY ((fun j n=>ah.rds av (by decide) aJ ((pW _ aG) j n)) j n)) j n)) j n)) (show h.length≤aI∧h.length≤9223372036854775807 from by omega) ky) ?_
 rintro _ A9 ⟨mg,mh,mi,mq,rfl,pY,gz,kz⟩
 have mr:=pX _ _ pY
 replace gz:ah 1 bM aI h mi mq iR.xB.ls:=gz
 have yV:=(gz).le
 have yX:=mr.rowC (i:=0) rfl
 replace kz:iQ.length≤1000:=kz
 refine Kz (.pointer (some ⟨c,18,none⟩)) ?_
 have vw:=mr.pk [3,0,1,2,4,5,6,7,8]
 refine bz [.slice mg iQ.length mh] 18 vw Tryz.sizeOf25 ?_
 intro Ba vz
 refine WL.nil (bN (bN (Fin.then (Wp.region (fw (.int .i64 ((b+1:Nat):Int)) (Yl.int (e:=IntKind.i64.wrap (((b:Nat):Int)+1)) yk (by rw [IntWalk.i64_in _ (by omega)]; omega)) (Mz rfl (WL.nil ?_)))))))
 have vB:=vz.pk [3,0,2,4,1,6,7,8]
 exact Fin.round (b+1,X,Y,J,K,L,M,N,O,P,Q,R,Z,ae,af,mg,mh,iQ,bq,bv,bL,u,bA,bB,x,mi,mq,iR.xB.ls,iR.xE) ⟨rfl,rfl,rfl,rfl,rfl,rfl,trivial⟩ (aO.2 ⟨vB,by exact bE,by exact(ah.trans aC gz),by omega,by first | omega | exact Nat.zero_le _,by first | omega | exact Nat.zero_le _,by first | omega | exact Nat.zero_le _,by omega,by omega,by omega,by omega,by omega,by omega,by omega,by omega,by omega,et (bF) (et (congrArg (fun q=>bS o ax ay q X Y J K L M N O P Q R Z ae af t u x h aj) bI) (et (iN cu) (et (iN df) (et (iN dx) (et (iN dA) (et (ip dC) (aa ky)))))))⟩) (by show f.length - (b+1) < f.length - b; omega)
 refine jF (dF dC) (sr (Kz (.bool (decide (((aF.toNat:Nat):Int)=115))) (An rfl ?_)))
 by_cases dP:((aF.toNat:Nat):Int)=115
 refine jT (dT dP) (Wp.region (Mz rfl ?_))
 have vC:=dO.pk [2,0,1,3,4,5,6,7]
 obtain⟨⟨iT,iU⟩,kC⟩:∃ q:(List aX) × RT,iZ (RT.mk (Ll.mk h) aj)=q:=⟨_,rfl⟩
 obtain⟨Bb,p8,p9,qa,yY⟩:=Own.enter1 vC
 refine cl Tryz.call94 (oZ _ _ g0 (RT.mk (Ll.mk h) aj) bM aI iT iU p8 (fun j n=>ah.rds av (by decide) aC ((fun j n=>ah.rds av (by decide) cB ((fun j n=>ah.rds av (by decide) bY ((fun j n=>ah.rds av (by decide) aJ ((p9 _ aG) j n)) j n)) j n)) j n)) (show h.length≤aI∧h.length≤9223372036854775807 from by omega) kC) ?_
 rintro _ Bc ⟨mD,mE,vD,mF,mG,rfl,qb,kD,gB,kE⟩
 have mH:=qa _ _ qb
 replace gB:ah 1 bM aI h mF mG iU.xB.ls:=gB
 have yZ:=(gB).le
 have y5:=dM kD
 have y7:=mH.rowC (i:=0) rfl
 replace kE:iT.length≤1000:=kE
 refine Kz (.pointer (some ⟨c,19,none⟩)) ?_
 have vE:=mH.pk [4,0,1,2,3,5,6,7,8,9]
 refine bz [.slice mD iT.length mE] 19 vE Tryz.sizeOf26 ?_
 intro Bd vF
 refine WL.nil (bN (bN (Fin.then (Wp.region (fw (.int .i64 ((b+1:Nat):Int)) (Yl.int (e:=IntKind.i64.wrap (((b:Nat):Int)+1)) yk (by rw [IntWalk.i64_in _ (by omega)]; omega)) (Mz rfl (WL.nil ?_)))))))
 have vG:=vF.pk [4,0,3,5,6,1,2,9]
 exact Fin.round (b+1,X,Y,J,K,L,M,N,O,P,Q,R,Z,ae,af,bi,bn,t,mD,mE,vD,iT,bA,bB,x,mF,mG,iU.xB.ls,iU.xE) ⟨rfl,rfl,rfl,rfl,rfl,rfl,trivial⟩ (aO.2 ⟨vG,by exact kD,by exact(ah.trans aC gB),by omega,by first | omega | exact Nat.zero_le _,by first | omega | exact Nat.zero_le _,by first | omega | exact Nat.zero_le _,by omega,by omega,by omega,by omega,by omega,by omega,by omega,by omega,by omega,et (bF) (et (congrArg (fun q=>bS o ax ay q X Y J K L M N O P Q R Z ae af t u x h aj) bI) (et (iN cu) (et (iN df) (et (iN dx) (et (iN dA) (et (iN dC) (et (ip dP) (aa kC))))))))⟩) (by show f.length - (b+1) < f.length - b; omega)
 refine jF (dF dP) (sr (Kz (.bool (decide (((aF.toNat:Nat):Int)=119))) (An rfl ?_)))
 by_cases dR:((aF.toNat:Nat):Int)=119
 refine jT (dT dR) (Wp.region (Mz rfl ?_))
 have vH:=dO.pk [2,0,1,3,4,5,6,7]
 obtain⟨⟨iV,iW⟩,kF⟩:∃ q:(List aA) × RT,gY (RT.mk (Ll.mk h) aj)=q:=⟨_,rfl⟩
 obtain⟨Be,qc,qd,qf,y8⟩:=Own.enter1 vH
 refine cl Tryz.call95 (nA _ _ g0 (RT.mk (Ll.mk h) aj) bM aI iV iW qc (fun j n=>ah.rds av (by decide) aC ((fun j n=>ah.rds av (by decide) cB ((fun j n=>ah.rds av (by decide) bY ((fun j n=>ah.rds av (by decide) aJ ((qd _ aG) j n)) j n)) j n)) j n)) (show h.length≤aI∧h.length≤9223372036854775807 from by omega) kF) ?_
 rintro _ Bf ⟨mI,mJ,mK,mM,rfl,qg,gD,kG⟩
 have mO:=qf _ _ qg
 replace gD:ah 1 bM aI h mK mM iW.xB.ls:=gD
 have y9:=(gD).le
 have za:=mO.rowC (i:=0) rfl
 replace kG:iV.length≤1000:=kG
 refine Kz (.pointer (some ⟨c,20,none⟩)) ?_
 have vI:=mO.pk [3,0,1,2,4,5,6,7,8]
 refine bz [.slice mI iV.length mJ] 20 vI Tryz.sizeOf27 ?_
 intro Bg vJ
 refine WL.nil (bN (bN (Fin.then (Wp.region (fw (.int .i64 ((b+1:Nat):Int)) (Yl.int (e:=IntKind.i64.wrap (((b:Nat):Int)+1)) yk (by rw [IntWalk.i64_in _ (by omega)]; omega)) (Mz rfl (WL.nil ?_)))))))
 have vK:=vJ.pk [3,0,2,4,5,6,7,1]
 exact Fin.round (b+1,X,Y,J,K,L,M,N,O,P,Q,R,Z,ae,af,bi,bn,t,bq,bv,bL,u,mI,mJ,iV,mK,mM,iW.xB.ls,iW.xE) ⟨rfl,rfl,rfl,rfl,rfl,rfl,trivial⟩ (aO.2 ⟨vK,by exact bE,by exact(ah.trans aC gD),by omega,by first | omega | exact Nat.zero_le _,by first | omega | exact Nat.zero_le _,by first | omega | exact Nat.zero_le _,by omega,by omega,by omega,by omega,by omega,by omega,by omega,by omega,by omega,et (bF) (et (congrArg (fun q=>bS o ax ay q X Y J K L M N O P Q R Z ae af t u x h aj) bI) (et (iN cu) (et (iN df) (et (iN dx) (et (iN dA) (et (iN dC) (et (iN dP) (et (ip dR) (aa kF)))))))))⟩) (by show f.length - (b+1) < f.length - b; omega)
 refine jF (dF dR) (sr (Mz rfl ?_))
 have vL:=dO.pk [2,0,1,3,4,5,6,7]
 obtain⟨⟨bT,bU⟩,dG⟩:∃ q:Nat × RT,cZ (RT.mk (Ll.mk h) aj)=q:=⟨_,rfl⟩
 obtain⟨Bh,qh,qi,qj,zb⟩:=Own.enter1 vL
 refine cl Tryz.call96 (mR _ _ g0 (RT.mk (Ll.mk h) aj) bM aI bT bU qh (fun j n=>ah.rds av (by decide) aC ((fun j n=>ah.rds av (by decide) cB ((fun j n=>ah.rds av (by decide) bY ((fun j n=>ah.rds av (by decide) aJ ((qi _ aG) j n)) j n)) j n)) j n)) (show h.length≤aI∧h.length≤9223372036854775807 from by omega) dG) ?_
 rintro _ Bi ⟨eF,eH,rfl,ql,dm,kH⟩
 have eT:=qj _ _ ql
 replace dm:ah 1 bM aI h eF eH bU.xB.ls:=dm
 have ze:=(dm).le
 replace kH:bT≤18446744073709551615:=kH
 refine An rfl (Wp.region (Mz rfl ?_))
 refine WL.do rfl (Do.call Tryz.call47 rfl ?_ (fun _ _ k=>k))
 refine Calls.body (args:= [.pointer (some ⟨c,0,none⟩), .int .u8 ((aF.toNat:Nat):Int)]) Tryz.func47 rfl rfl rfl ?_
 show Wp _ _ _ [(0, .pointer (some ⟨c,0,none⟩)),(1, .int .u8 ((aF.toNat:Nat):Int))] _ _
 refine sr (An rfl (Wp.seq (sr (Mn rfl (bo (sr (Kz (.bool (decide (((aF.toNat:Nat):Int)=113))) (An rfl ?_))))))))
 by_cases dU:((aF.toNat:Nat):Int)=113
 refine jT (dT dU) (sr (Mz rfl (Kz (.pointer (some ⟨c,0,none⟩)) (Kz (.pointer (some ⟨c,6,none⟩)) (An rfl (rt (bR (tR (rs (Mz rfl (Kz (.pointer (some ⟨c,6,none⟩)) ?_)))))))))))
 have vM:=eT.pk [2,0,1,3,4,5,6,7]
 refine bz [.int .u64 ((bT:Nat):Int)] 6 vM Tryz.sizeOf22 ?_
 intro Bj vN
 refine WL.nil (bN (bN (Fin.then (Wp.region (fw (.int .i64 ((b+1:Nat):Int)) (Yl.int (e:=IntKind.i64.wrap (((b:Nat):Int)+1)) yk (by rw [IntWalk.i64_in _ (by omega)]; omega)) (Mz rfl (WL.nil ?_)))))))
 have vO:=vN.pk [2,0,1,3,4,5,6,7]
 exact Fin.round (b+1,X,Y,bT,K,L,M,N,O,P,Q,R,Z,ae,af,bi,bn,t,bq,bv,bL,u,bA,bB,x,eF,eH,bU.xB.ls,bU.xE) ⟨rfl,rfl,rfl,rfl,rfl,rfl,trivial⟩ (aO.2 ⟨vO,by exact bE,by exact(ah.trans aC dm),by omega,by first | omega | exact Nat.zero_le _,by first | omega | exact Nat.zero_le _,by first | omega | exact Nat.zero_le _,by omega,by omega,by omega,by omega,by omega,by omega,by omega,by omega,by omega,et (bF) (et (congrArg (fun q=>bS o ax ay q X Y J K L M N O P Q R Z ae af t u x h aj) bI) (et (iN cu) (et (iN df) (et (iN dx) (et (iN dA) (et (iN dC) (et (iN dP) (et (iN dR) (et (aa dG) (ip dU))))))))))⟩) (by show f.length - (b+1) < f.length - b; omega)
 refine jF (dF dU) (sr (Kz (.bool (decide (((aF.toNat:Nat):Int)=98))) (An rfl ?_)))
 by_cases eO:((aF.toNat:Nat):Int)=98
 refine jT (dT eO) (sr (Mz rfl (Kz (.pointer (some ⟨c,0,none⟩)) (Kz (.pointer (some ⟨c,7,none⟩)) (An rfl (rt (bR (tR (rs (Mz rfl (Kz (.pointer (some ⟨c,7,none⟩)) ?_)))))))))))
 have vP:=eT.pk [2,0,1,3,4,5,6,7]
 refine bz [.int .u64 ((bT:Nat):Int)] 7 vP Tryz.sizeOf22 ?_
 intro Bl vQ
 refine WL.nil (bN (bN (Fin.then (Wp.region (fw (.int .i64 ((b+1:Nat):Int)) (Yl.int (e:=IntKind.i64.wrap (((b:Nat):Int)+1)) yk (by rw [IntWalk.i64_in _ (by omega)]; omega)) (Mz rfl (WL.nil ?_)))))))
 have vR:=vQ.pk [2,0,1,3,4,5,6,7]
 exact Fin.round (b+1,X,Y,J,bT,L,M,N,O,P,Q,R,Z,ae,af,bi,bn,t,bq,bv,bL,u,bA,bB,x,eF,eH,bU.xB.ls,bU.xE) ⟨rfl,rfl,rfl,rfl,rfl,rfl,trivial⟩ (aO.2 ⟨vR,by exact bE,by exact(ah.trans aC dm),by omega,by first | omega | exact Nat.zero_le _,by first | omega | exact Nat.zero_le _,by first | omega | exact Nat.zero_le _,by omega,by omega,by omega,by omega,by omega,by omega,by omega,by omega,by omega,et (bF) (et (congrArg (fun q=>bS o ax ay q X Y J K L M N O P Q R Z ae af t u x h aj) bI) (et (iN cu) (et (iN df) (et (iN dx) (et (iN dA) (et (iN dC) (et (iN dP) (et (iN dR) (et (aa dG) (et (iN dU) (ip eO)))))))))))⟩) (by show f.length - (b+1) < f.length - b; omega)
 refine jF (dF eO) (sr (Kz (.bool (decide (((aF.toNat:Nat):Int)=116))) (An rfl ?_)))
 by_cases eU:((aF.toNat:Nat):Int)=116
 refine jT (dT eU) (sr (Mz rfl (Kz (.pointer (some ⟨c,0,none⟩)) (Kz (.pointer (some ⟨c,8,none⟩)) (An rfl (rt (bR (tR (rs (Mz rfl (Kz (.pointer (some ⟨c,8,none⟩)) ?_)))))))))))
 have vS:=eT.pk [2,0,1,3,4,5,6,7]
 refine bz [.int .u64 ((bT:Nat):Int)] 8 vS Tryz.sizeOf22 ?_
 intro Bn vT
 refine WL.nil (bN (bN (Fin.then (Wp.region (fw (.int .i64 ((b+1:Nat):Int)) (Yl.int (e:=IntKind.i64.wrap (((b:Nat):Int)+1)) yk (by rw [IntWalk.i64_in _ (by omega)]; omega)) (Mz rfl (WL.nil ?_)))))))
 have vU:=vT.pk [2,0,1,3,4,5,6,7]
 exact Fin.round (b+1,X,Y,J,K,bT,M,N,O,P,Q,R,Z,ae,af,bi,bn,t,bq,bv,bL,u,bA,bB,x,eF,eH,bU.xB.ls,bU.xE) ⟨rfl,rfl,rfl,rfl,rfl,rfl,trivial⟩ (aO.2 ⟨vU,by exact bE,by exact(ah.trans aC dm),by omega,by first | omega | exact Nat.zero_le _,by first | omega | exact Nat.zero_le _,by first | omega | exact Nat.zero_le _,by omega,by omega,by omega,by omega,by omega,by omega,by omega,by omega,by omega,et (bF) (et (congrArg (fun q=>bS o ax ay q X Y J K L M N O P Q R Z ae af t u x h aj) bI) (et (iN cu) (et (iN df) (et (iN dx) (et (iN dA) (et (iN dC) (et (iN dP) (et (iN dR) (et (aa dG) (et (iN dU) (et (iN eO) (ip eU))))))))))))⟩) (by show f.length - (b+1) < f.length - b; omega)
 refine jF (dF eU) (sr (Kz (.bool (decide (((aF.toNat:Nat):Int)=108))) (An rfl ?_)))
 by_cases fe:((aF.toNat:Nat):Int)=108
 refine jT (dT fe) (sr (Mz rfl (Kz (.pointer (some ⟨c,0,none⟩)) (Kz (.pointer (some ⟨c,9,none⟩)) (An rfl (rt (bR (tR (rs (Mz rfl (Kz (.pointer (some ⟨c,9,none⟩)) ?_)))))))))))
 have vV:=eT.pk [2,0,1,3,4,5,6,7]
 refine bz [.int .u64 ((bT:Nat):Int)] 9 vV Tryz.sizeOf22 ?_
 intro Bo vW
 refine WL.nil (bN (bN (Fin.then (Wp.region (fw (.int .i64 ((b+1:Nat):Int)) (Yl.int (e:=IntKind.i64.wrap (((b:Nat):Int)+1)) yk (by rw [IntWalk.i64_in _ (by omega)]; omega)) (Mz rfl (WL.nil ?_)))))))
 have vX:=vW.pk [2,0,1,3,4,5,6,7]
 exact Fin.round (b+1,X,Y,J,K,L,bT,N,O,P,Q,R,Z,ae,af,bi,bn,t,bq,bv,bL,u,bA,bB,x,eF,eH,bU.xB.ls,bU.xE) ⟨rfl,rfl,rfl,rfl,rfl,rfl,trivial⟩ (aO.2 ⟨vX,by exact bE,by exact(ah.trans aC dm),by omega,by first | omega | exact Nat.zero_le _,by first | omega | exact Nat.zero_le _,by first | omega | exact Nat.zero_le _,by omega,by omega,by omega,by omega,by omega,by omega,by omega,by omega,by omega,et (bF) (et (congrArg (fun q=>bS o ax ay q X Y J K L M N O P Q R Z ae af t u x h aj) bI) (et (iN cu) (et (iN df) (et (iN dx) (et (iN dA) (et (iN dC) (et (iN dP) (et (iN dR) (et (aa dG) (et (iN dU) (et (iN eO) (et (iN eU) (ip fe)))))))))))))⟩) (by show f.length - (b+1) < f.length - b; omega)
 refine jF (dF fe) (sr (Kz (.bool (decide (((aF.toNat:Nat):Int)=118))) (An rfl ?_)))
 by_cases fG:((aF.toNat:Nat):Int)=118
 refine jT (dT fG) (sr (Mz rfl (Kz (.pointer (some ⟨c,0,none⟩)) (Kz (.pointer (some ⟨c,10,none⟩)) (An rfl (rt (bR (tR (rs (Mz rfl (Kz (.pointer (some ⟨c,10,none⟩)) ?_)))))))))))
 have vY:=eT.pk [2,0,1,3,4,5,6,7]
 refine bz [.int .u64 ((bT:Nat):Int)] 10 vY Tryz.sizeOf22 ?_
 intro Bp vZ
 refine WL.nil (bN (bN (Fin.then (Wp.region (fw (.int .i64 ((b+1:Nat):Int)) (Yl.int (e:=IntKind.i64.wrap (((b:Nat):Int)+1)) yk (by rw [IntWalk.i64_in _ (by omega)]; omega)) (Mz rfl (WL.nil ?_)))))))
 have wh:=vZ.pk [2,0,1,3,4,5,6,7]
 exact Fin.round (b+1,X,Y,J,K,L,M,bT,O,P,Q,R,Z,ae,af,bi,bn,t,bq,bv,bL,u,bA,bB,x,eF,eH,bU.xB.ls,bU.xE) ⟨rfl,rfl,rfl,rfl,rfl,rfl,trivial⟩ (aO.2 ⟨wh,by exact bE,by exact(ah.trans aC dm),by omega,by first | omega | exact Nat.zero_le _,by first | omega | exact Nat.zero_le _,by first | omega | exact Nat.zero_le _,by omega,by omega,by omega,by omega,by omega,by omega,by omega,by omega,by omega,et (bF) (et (congrArg (fun q=>bS o ax ay q X Y J K L M N O P Q R Z ae af t u x h aj) bI) (et (iN cu) (et (iN df) (et (iN dx) (et (iN dA) (et (iN dC) (et (iN dP) (et (iN dR) (et (aa dG) (et (iN dU) (et (iN eO) (et (iN eU) (et (iN fe) (ip fG))))))))))))))⟩) (by show f.length - (b+1) < f.length - b; omega)
 refine jF (dF fG) (sr (Kz (.bool (decide (((aF.toNat:Nat):Int)=101))) (An rfl ?_)))
 by_cases fO:((aF.toNat:Nat):Int)=101
 refine jT (dT fO) (sr (Mz rfl (Kz (.pointer (some ⟨c,0,none⟩)) (Kz (.pointer (some ⟨c,11,none⟩)) (An rfl (rt (bR (tR (rs (Mz rfl (Kz (.pointer (some ⟨c,11,none⟩)) ?_)))))))))))
 have wm:=eT.pk [2,0,1,3,4,5,6,7]
 refine bz [.int .u64 ((bT:Nat):Int)] 11 wm Tryz.sizeOf22 ?_
 intro Bq wo
 refine WL.nil (bN (bN (Fin.then (Wp.region (fw (.int .i64 ((b+1:Nat):Int)) (Yl.int (e:=IntKind.i64.wrap (((b:Nat):Int)+1)) yk (by rw [IntWalk.i64_in _ (by omega)]; omega)) (Mz rfl (WL.nil ?_)))))))
 have wu:=wo.pk [2,0,1,3,4,5,6,7]
 exact Fin.round (b+1,X,Y,J,K,L,M,N,bT,P,Q,R,Z,ae,af,bi,bn,t,bq,bv,bL,u,bA,bB,x,eF,eH,bU.xB.ls,bU.xE) ⟨rfl,rfl,rfl,rfl,rfl,rfl,trivial⟩ (aO.2 ⟨wu,by exact bE,by exact(ah.trans aC dm),by omega,by first | omega | exact Nat.zero_le _,by first | omega | exact Nat.zero_le _,by first | omega | exact Nat.zero_le _,by omega,by omega,by omega,by omega,by omega,by omega,by omega,by omega,by omega,et (bF) (et (congrArg (fun q=>bS o ax ay q X Y J K L M N O P Q R Z ae af t u x h aj) bI) (et (iN cu) (et (iN df) (et (iN dx) (et (iN dA) (et (iN dC) (et (iN dP) (et (iN dR) (et (aa dG) (et (iN dU) (et (iN eO) (et (iN eU) (et (iN fe) (et (iN fG) (ip fO)))))))))))))))⟩) (by show f.length - (b+1) < f.length - b; omega)
 refine jF (dF fO) (sr (Kz (.bool (decide (((aF.toNat:Nat):Int)=109))) (An rfl ?_)))
 by_cases gQ:((aF.toNat:Nat):Int)=109
 refine jT (dT gQ) (sr (Mz rfl (Kz (.pointer (some ⟨c,0,none⟩)) (Kz (.pointer (some ⟨c,12,none⟩)) (An rfl (rt (bR (tR (rs (Mz rfl (Kz (.pointer (some ⟨c,12,none⟩)) ?_)))))))))))
 have ww:=eT.pk [2,0,1,3,4,5,6,7]
 refine bz [.int .u64 ((bT:Nat):Int)] 12 ww Tryz.sizeOf22 ?_
 intro Br wy
 refine WL.nil (bN (bN (Fin.then (Wp.region (fw (.int .i64 ((b+1:Nat):Int)) (Yl.int (e:=IntKind.i64.wrap (((b:Nat):Int)+1)) yk (by rw [IntWalk.i64_in _ (by omega)]; omega)) (Mz rfl (WL.nil ?_)))))))
 have wz:=wy.pk [2,0,1,3,4,5,6,7]
 exact Fin.round (b+1,X,Y,J,K,L,M,N,O,bT,Q,R,Z,ae,af,bi,bn,t,bq,bv,bL,u,bA,bB,x,eF,eH,bU.xB.ls,bU.xE) ⟨rfl,rfl,rfl,rfl,rfl,rfl,trivial⟩ (aO.2 ⟨wz,by exact bE,by exact(ah.trans aC dm),by omega,by first | omega | exact Nat.zero_le _,by first | omega | exact Nat.zero_le _,by first | omega | exact Nat.zero_le _,by omega,by omega,by omega,by omega,by omega,by omega,by omega,by omega,by omega,et (bF) (et (congrArg (fun q=>bS o ax ay q X Y J K L M N O P Q R Z ae af t u x h aj) bI) (et (iN cu) (et (iN df) (et (iN dx) (et (iN dA) (et (iN dC) (et (iN dP) (et (iN dR) (et (aa dG) (et (iN dU) (et (iN eO) (et (iN eU) (et (iN fe) (et (iN fG) (et (iN fO) (ip gQ))))))))))))))))⟩) (by show f.length - (b+1) < f.length - b; omega)
 refine jF (dF gQ) (sr (Kz (.bool (decide (((aF.toNat:Nat):Int)=97))) (An rfl ?_)))
 by_cases ja:((aF.toNat:Nat):Int)=97
 refine jT (dT ja) (sr (Mz rfl (Kz (.pointer (some ⟨c,0,none⟩)) (Kz (.pointer (some ⟨c,13,none⟩)) (An rfl (rt (bR (tR (rs (Mz rfl (Kz (.pointer (some ⟨c,13,none⟩)) ?_)))))))))))
 have wB:=eT.pk [2,0,1,3,4,5,6,7]
 refine bz [.int .u64 ((bT:Nat):Int)] 13 wB Tryz.sizeOf22 ?_
 intro Bt wC
 refine WL.nil (bN (bN (Fin.then (Wp.region (fw (.int .i64 ((b+1:Nat):Int)) (Yl.int (e:=IntKind.i64.wrap (((b:Nat):Int)+1)) yk (by rw [IntWalk.i64_in _ (by omega)]; omega)) (Mz rfl (WL.nil ?_)))))))
 have wD:=wC.pk [2,0,1,3,4,5,6,7]
 exact Fin.round (b+1,X,Y,J,K,L,M,N,O,P,bT,R,Z,ae,af,bi,bn,t,bq,bv,bL,u,bA,bB,x,eF,eH,bU.xB.ls,bU.xE) ⟨rfl,rfl,rfl,rfl,rfl,rfl,trivial⟩ (aO.2 ⟨wD,by exact bE,by exact(ah.trans aC dm),by omega,by first | omega | exact Nat.zero_le _,by first | omega | exact Nat.zero_le _,by first | omega | exact Nat.zero_le _,by omega,by omega,by omega,by omega,by omega,by omega,by omega,by omega,by omega,et (bF) (et (congrArg (fun q=>bS o ax ay q X Y J K L M N O P Q R Z ae af t u x h aj) bI) (et (iN cu) (et (iN df) (et (iN dx) (et (iN dA) (et (iN dC) (et (iN dP) (et (iN dR) (et (aa dG) (et (iN dU) (et (iN eO) (et (iN eU) (et (iN fe) (et (iN fG) (et (iN fO) (et (iN gQ) (ip ja)))))))))))))))))⟩) (by show f.length - (b+1) < f.length - b; omega)
 refine jF (dF ja) (sr (Kz (.bool (decide (((aF.toNat:Nat):Int)=110))) (An rfl ?_)))
 by_cases mP:((aF.toNat:Nat):Int)=110
 refine jT (dT mP) (sr (Mz rfl (Kz (.pointer (some ⟨c,0,none⟩)) (Kz (.pointer (some ⟨c,14,none⟩)) (An rfl (rt (bR (tR (rs (Mz rfl (Kz (.pointer (some ⟨c,14,none⟩)) ?_)))))))))))
 have wE:=eT.pk [2,0,1,3,4,5,6,7]
 refine bz [.int .u64 ((bT:Nat):Int)] 14 wE Tryz.sizeOf22 ?_
 intro Bu wF
 refine WL.nil (bN (bN (Fin.then (Wp.region (fw (.int .i64 ((b+1:Nat):Int)) (Yl.int (e:=IntKind.i64.wrap (((b:Nat):Int)+1)) yk (by rw [IntWalk.i64_in _ (by omega)]; omega)) (Mz rfl (WL.nil ?_)))))))
 have wG:=wF.pk [2,0,1,3,4,5,6,7]
 exact Fin.round (b+1,X,Y,J,K,L,M,N,O,P,Q,bT,Z,ae,af,bi,bn,t,bq,bv,bL,u,bA,bB,x,eF,eH,bU.xB.ls,bU.xE) ⟨rfl,rfl,rfl,rfl,rfl,rfl,trivial⟩ (aO.2 ⟨wG,by exact bE,by exact(ah.trans aC dm),by omega,by first | omega | exact Nat.zero_le _,by first | omega | exact Nat.zero_le _,by first | omega | exact Nat.zero_le _,by omega,by omega,by omega,by omega,by omega,by omega,by omega,by omega,by omega,et (bF) (et (congrArg (fun q=>bS o ax ay q X Y J K L M N O P Q R Z ae af t u x h aj) bI) (et (iN cu) (et (iN df) (et (iN dx) (et (iN dA) (et (iN dC) (et (iN dP) (et (iN dR) (et (aa dG) (et (iN dU) (et (iN eO) (et (iN eU) (et (iN fe) (et (iN fG) (et (iN fO) (et (iN gQ) (et (iN ja) (ip mP))))))))))))))))))⟩) (by show f.length - (b+1) < f.length - b; omega)
 exfalso; have q9:=sQ gZ ib; omega
 refine jF (dF lY) (Wp.exit (Fin.thenX ?_))
 have qm:bS o ax ay f 0 0 0 0 0 0 0 0 0 0 0 false ([]) ([]) ([]) ([]) ([]) aL.xB.ls aL.xE=(J,K,L,M,N,u,X,Y,O,P,Q,R,Z,ae,af,t,x,h,aj):=et (bF) (et (congrArg (fun q=>bS o ax ay q X Y J K L M N O P Q R Z ae af t u x h aj) (dY (ls:=f) (i:=b) (by omega))) rfl)
 refine Fin.thenX (Fin.blockX (Fin.then (sr (La (bf o ax ay 0 X Y J K L M N O P Q R Z ae af bi t.length bn bq u.length bv bA x.length bB) dO 1 Tryz.isAgg29 Tryz.sizeOf29 ?_))))
 have wH:=dO.pk [3,0,1,2,4,5,6,7]
 refine bz (bf o ax ay 0 X Y J K L M N O P Q R Z ae af bi t.length bn bq u.length bv bA x.length bB) 0 wH Tryz.sizeOf29 ?_
 intro Bv mQ
 refine nt (rt (Fin.res (lQ rfl rfl (bu.agg (cs:=(bf o ax ay 0 X Y J K L M N O P Q R Z ae af bi t.length bn bq u.length bv bA x.length bB)) Tryz.isAgg29 Tryz.sizeOf29 ((mQ.cls (i:=0) rfl).lit (k:=0) (m:=21) rfl))) ?_))
 have wI:=mQ.pk [4,5,6,7,3]
 have e:jO p0=(bG.mk o ax ay 0 X Y J K L M N O P Q R Z (bC.mk ae af) (Ll.mk t) (Ll.mk u) (Ll.mk x),RT.mk (Ll.mk h) aj):=et (aa je) (et (iN fo) (et (aa jR) (et (aa jV) (et (aa gZ) (aa qm)))))
 obtain⟨rfl,rfl⟩:=dL (e.symm.trans hr)
 exact⟨bi,bn,bq,bv,bA,bB,bL,bM,aI,rfl,wI,bE,(ah.trans (ah.trans (ah.trans aJ bY) cB) aC),(by first | omega | (dsimp only; omega) | (simp only [List.length_nil]; omega) | (refine⟨?_, ?_⟩ <;> (dsimp only; omega)))⟩
def ic (f:List UInt8):bG × Int:=
 bnd (iJ f) fun b=>if b.2=0 then bnd (jO (RT.mk (Ll.mk b.1) 0)) fun a=>if a.2.xE=0 then if((a.2.xB.ls.length:Nat):Int) > 0 then bnd (dJ a.2 11) fun e=>if e.xE=0 then bnd (dz a.1) fun c=>if c=0 then(a.1,0) else(bG.mk 0 0 0 0 0 0 0 0 0 0 0 0 0 0 0 false (bC.mk ([]) ([])) (Ll.mk ([])) (Ll.mk ([])) (Ll.mk ([])),c) else(bG.mk 0 0 0 0 0 0 0 0 0 0 0 0 0 0 0 false (bC.mk ([]) ([])) (Ll.mk ([])) (Ll.mk ([])) (Ll.mk ([])),e.xE) else bnd (dz a.1) fun d=>if d=0 then(a.1,0) else(bG.mk 0 0 0 0 0 0 0 0 0 0 0 0 0 0 0 false (bC.mk ([]) ([])) (Ll.mk ([])) (Ll.mk ([])) (Ll.mk ([])),d) else(bG.mk 0 0 0 0 0 0 0 0 0 0 0 0 0 0 0 false (bC.mk ([]) ([])) (Ll.mk ([])) (Ll.mk ([])) (Ll.mk ([])),a.2.xE) else(bG.mk 0 0 0 0 0 0 0 0 0 0 0 0 0 0 0 false (bC.mk ([]) ([])) (Ll.mk ([])) (Ll.mk ([])) (Ll.mk ([])),b.2)
set_option maxHeartbeats 4000000 in
theorem rq (w:World) (D:Nat→Prop) (A0:Option Addr) (n0 c0:Nat) (K:List UInt8) (C:bG) (r1:Int) (H:Own w D w []) (eD:Ro w D fun w'=>bD w' 1 A0 n0 (List.flatMap eB K)) (eF:n0=K.length) (fQ:K.length *1≤211106232532992) (fT:K.length≤c0) (hr:ic K=(C,r1)):
    Calls Tryz.prog 14 #[.slice A0 n0 c0] w (cK fun v w'=> ∃ (aJ:Option Addr) (aK:Nat) (aL:Option Addr) (aM:Nat) (aN:Option Addr) (aO:Nat) (ax:List ag),v= .tuple #[.agg (aV C aJ aK aL aM aN aO).toArray, .int .i64 r1]∧Own w D w' [row aJ C.az.ls.length aK (List.flatMap aB.cells C.az.ls) 64 6,row aL C.ai.ls.length aM (List.flatMap ag.cells ax) 84 3,sepL (List.flatMap ag.own ax),row aN C.aj.ls.length aO (List.flatMap aA.cells C.aj.ls) 88 2]∧(List.map ag.abs ax=C.ai.ls)∧(C.az.ls.length≤1000∧C.ai.ls.length≤1000∧C.aj.ls.length≤1000∧C.bF≤18446744073709551615∧C.aY≤18446744073709551615∧C.bE≤18446744073709551615∧C.bH≤18446744073709551615∧C.bL≤18446744073709551615∧C.aS≤18446744073709551615∧C.bB≤18446744073709551615∧C.aK≤18446744073709551615∧C.xN≤18446744073709551615)):=by
 subst eF
 refine Calls.body (args:= [.slice A0 K.length c0]) Tryz.func14 rfl rfl rfl ?_
 show Wp _ _ _ [(0, .slice A0 K.length c0)] _ _
 refine sr ?_
 refine dD (bf 0 0 0 0 0 0 0 0 0 0 0 0 0 0 0 false ([]) ([]) none 0 0 none 0 0 none 0 0) 29 H ?_
 intro r fU eG
 refine Ar rfl (Mz rfl ?_)
 obtain⟨⟨l,M⟩,z⟩:∃ q:(List UInt8) × Int,iJ K=q:=⟨_,rfl⟩
 obtain⟨fV,bH,bI,bK,eZ⟩:=Own.enter0 eG
 refine cl Tryz.call44 (sG _ _ A0 K.length c0 K l M bH (bI _ eD) rfl (by omega) (by first | omega | (simp only [List.length_take,List.length_drop]; omega) | exact Nat.le_refl _) z) ?_
 rintro _ fZ ⟨x,s,rfl,bL,aP⟩
 have aX:=bK _ _ bL
 have fe:=aX.rowC (i:=0) rfl
 replace aP:l.length≤K.length:=aP
 refine Mz rfl (Kz (.slice x l.length s) (Kz (.int .i64 M) (Az rfl (An rfl (Wp.seq (sr (Mz rfl (fw (.bool (decide (¬ (M=0)))) (Yl.bool (e:= !(decide (M=0))) yk decide_not.symm) (nt ?_)))))))))
 by_cases G:M=0
 refine jF (dF (not_not_intro G)) (sk (sr (Mz rfl (Kz (.agg #[.slice x l.length s, .int .i64 0]) ?_))))
 refine dD [.slice x l.length s, .int .i64 0] 75 aX ?_
 intro p gm eH
 refine Ar rfl (Mz rfl ?_)
 obtain⟨⟨a,n⟩,A⟩:∃ q:bG × RT,jO (RT.mk (Ll.mk l) 0)=q:=⟨_,rfl⟩
 obtain⟨gp,bM,fo,bN,bQ⟩:=Own.enter1 eH
 refine cl Tryz.call45 (rV _ _ p (RT.mk (Ll.mk l) 0) x s a n bM (bQ _ 0 _ rfl bJ) (show l.length≤s∧l.length≤9223372036854775807 from by omega) A) ?_
 rintro _ gq ⟨f,b,g,c,h,d,j,I,B,rfl,bR,L,R,aQ⟩
 have aI:=bN _ _ bR
 replace R:ah 1 x s l I B n.xB.ls:=R
 have fq:=(R).le
 have fu:=dM L
 have fA:=aI.rowC (i:=0) rfl
 have fB:=aI.rowC (i:=1) rfl
 have fC:=aI.rowC (i:=3) rfl
 replace aQ:a.az.ls.length≤1000∧a.ai.ls.length≤1000∧a.aj.ls.length≤1000∧a.bF≤18446744073709551615∧a.aY≤18446744073709551615∧a.bE≤18446744073709551615∧a.bH≤18446744073709551615∧a.bL≤18446744073709551615∧a.aS≤18446744073709551615∧a.bB≤18446744073709551615∧a.aK≤18446744073709551615∧a.xN≤18446744073709551615:=aQ
 refine dD (bf 0 0 0 0 0 0 0 0 0 0 0 0 0 0 0 false ([]) ([]) none 0 0 none 0 0 none 0 0) 29 aI ?_
 intro y gu eO
 refine bz (aV a f b g c h d) 0 eO Tryz.sizeOf29 ?_
 intro eP N
 refine nt (Wp.seq (sr (Mz rfl (Kz (.pointer (some ⟨p,0,none⟩)) (Kz (.pointer (some ⟨p,1,none⟩)) (Lz (.int .i64 n.xE) N 5 Tryz.isAgg32 (Kz (.bool (decide (n.xE=0))) (Mz rfl ?_))))))))
 by_cases t:n.xE=0
 refine gw (.pointer (some ⟨p,0,none⟩)) (dT t) (Yl.move rfl) (Gz (.pointer (some ⟨p,0,none⟩)) (dT t) (Gz (.pointer (some ⟨p,0,none⟩)) (dT t) (Gl (.slice I n.xB.ls.length B) (dT t) N 5 Tryz.isAgg31 (Gz (.int .i64 ((n.xB.ls.length:Nat):Int)) (dT t) (Gz (.bool (decide (((n.xB.ls.length:Nat):Int) > 0))) (dT t) (fw (.bool (decide (((n.xB.ls.length:Nat):Int) > 0))) (Yl.pickT rfl (dT t) rfl) (nt ?_)))))))
 by_cases O:((n.xB.ls.length:Nat):Int) > 0
 refine jT (dT O) (Wp.region (Mz rfl ?_))
 have eQ:=N.pk [5,0,1,2,3,4,6,7]
 obtain⟨u,S⟩:∃ q,dJ n 11=q:=⟨_,rfl⟩
 obtain⟨gy,bS,fD,bU,bV⟩:=Own.enter1 eQ
 refine cl Tryz.call46 (iX _ _ p n I B 11 u bS (fun w9 h9=>ah.rds av (by decide) R ((bV _ 5 _ rfl bJ) w9 h9)) (show n.xB.ls.length≤B∧n.xB.ls.length≤9223372036854775807 from by omega) S) ?_
 rintro _ eT ⟨ak,au,rfl,bW,ay⟩
 have aZ:=bU _ _ bW
 replace ay:ah 1 I B n.xB.ls ak au u.xB.ls:=ay
 have fE:=(ay).le
 refine nt (Wp.seq (sr (Mz rfl (Kz (.pointer (some ⟨p,0,none⟩)) (Kz (.pointer (some ⟨p,1,none⟩)) (Lz (.int .i64 u.xE) aZ 0 Tryz.isAgg32 (fw (.bool (decide (¬ (u.xE=0)))) (Yl.bool (e:= !(decide (u.xE=0))) yk decide_not.symm) (nt ?_))))))))
 by_cases az:u.xE=0
 refine jF (dF (not_not_intro az)) (sk (Wp.seq (Wp.seq ?_)))
 have bg:=aZ.pk [1,2,3,4,5,7]
 refine Wp.region (La (aV a f b g c h d) bg 0 Tryz.isAgg29 Tryz.sizeOf29 ?_)
 obtain⟨E,P⟩:∃ q,dz a=q:=⟨_,rfl⟩
 obtain⟨gB,bX,fF,bY,T⟩:=Own.enter0 bg
 refine cl Tryz.call12 (oU _ _ a f a.az.ls.length b g a.ai.ls.length c j h a.aj.ls.length d E bX rfl (T _ 1 _ rfl bJ) (show a.az.ls.length≤b∧a.az.ls.length≤9223372036854775807 from by omega) L rfl (T _ 2 _ rfl bJ) (show a.ai.ls.length≤c∧a.ai.ls.length≤9223372036854775807 from by omega) (fun x9 h9=>⟨T _ 3 _ rfl (jq (List.mem_flatMap.2 ⟨x9,h9, .head _⟩) bJ),nH (φ:=fun _=>_) bg (i:=3) rfl (jq (List.mem_flatMap.2 ⟨x9,h9, .head _⟩) mG)⟩) rfl (T _ 4 _ rfl bJ) (show a.aj.ls.length≤d∧a.aj.ls.length≤9223372036854775807 from by omega) P) ?_
 rintro _ fH ⟨rfl,bi⟩
 have aC:=bY _ _ bi
 refine Ar rfl (Mz rfl (fw (.bool (decide (¬ (E=0)))) (Yl.bool (e:= !(decide (E=0))) yk decide_not.symm) (nt ?_)))
 by_cases U:E=0
 refine jF (dF (not_not_intro U)) (sk (sr (La (aV a f b g c h d) aC 0 Tryz.isAgg29 Tryz.sizeOf29 ?_)))
 have cu:=aC.pk [5,0,1,2,3,4]
 refine bz (aV a f b g c h d) 0 cu Tryz.sizeOf29 ?_
 intro fI aR
 refine An rfl (rt (Fin.res (ib (vs:= [.agg (aV a f b g c h d).toArray, .int .i64 0]) rfl (bT.cell rfl (bu.agg (cs:=(aV a f b g c h d)) Tryz.isAgg29 Tryz.sizeOf29 ((aR.cls (i:=0) rfl).lit (k:=0) (m:=21) rfl)) (bT.tmp rfl bT.nil)) (Nat.le_of_ble_eq_true rfl)) ?_))
 have cz:=aR.pk [2,3,4,5]
 have e:ic K=(a,0):=et (aa z) (et (ip G) (et (aa A) (et (ip t) (et (ip O) (et (aa S) (et (ip az) (et (aa P) (ip U))))))))
 obtain⟨rfl,rfl⟩:=dL (e.symm.trans hr)
 exact⟨f,b,g,c,h,d,j,rfl,cz,L,(by first | omega | (dsimp only; omega) | (simp only [List.length_nil]; omega) | (refine⟨?_, ?_⟩ <;> (dsimp only; omega)))⟩
 refine jT (dT U) (sr (Kz (.agg (bf 0 0 0 0 0 0 0 0 0 0 0 0 0 0 0 false ([]) ([]) none 0 0 none 0 0 none 0 0).toArray) (Mz rfl ?_)))
 have cB:=aC.pk [5,0,1,2,3,4]
 refine bz (bf 0 0 0 0 0 0 0 0 0 0 0 0 0 0 0 false ([]) ([]) none 0 0 none 0 0 none 0 0) 0 cB Tryz.sizeOf29 ?_
 intro V aS
 refine An rfl (rt (tR (Fin.res (ib (vs:= [.agg (bf 0 0 0 0 0 0 0 0 0 0 0 0 0 0 0 false ([]) ([]) none 0 0 none 0 0 none 0 0).toArray, .int .i64 E]) rfl (bT.cell rfl (bu.agg (cs:=(bf 0 0 0 0 0 0 0 0 0 0 0 0 0 0 0 false ([]) ([]) none 0 0 none 0 0 none 0 0)) Tryz.isAgg29 Tryz.sizeOf29 ((aS.cls (i:=0) rfl).lit (k:=0) (m:=21) rfl)) (bT.tmp rfl bT.nil)) (Nat.le_of_ble_eq_true rfl)) ?_)))
 have cO:Own w D V [row none 0 0 (List.flatMap aB.cells ([])) 64 6,blk r (bf 0 0 0 0 0 0 0 0 0 0 0 0 0 0 0 false ([]) ([]) none 0 0 none 0 0 none 0 0) 29,blk y (aV a f b g c h d) 29,row f a.az.ls.length b (List.flatMap aB.cells a.az.ls) 64 6,row g a.ai.ls.length c (List.flatMap ag.cells j) 84 3,sepL (List.flatMap ag.own j),row h a.aj.ls.length d (List.flatMap aA.cells a.aj.ls) 88 2]:=aS.free (bP 64 6)
 have cZ:Own w D V [sepL (List.flatMap ag.own ([])),row none 0 0 (List.flatMap aB.cells ([])) 64 6,blk r (bf 0 0 0 0 0 0 0 0 0 0 0 0 0 0 0 false ([]) ([]) none 0 0 none 0 0 none 0 0) 29,blk y (aV a f b g c h d) 29,row f a.az.ls.length b (List.flatMap aB.cells a.az.ls) 64 6,row g a.ai.ls.length c (List.flatMap ag.cells j) 84 3,sepL (List.flatMap ag.own j),row h a.aj.ls.length d (List.flatMap aA.cells a.aj.ls) 88 2]:=cO.sepNil
 have df:Own w D V [row none 0 0 (List.flatMap ag.cells ([])) 84 3,sepL (List.flatMap ag.own ([])),row none 0 0 (List.flatMap aB.cells ([])) 64 6,blk r (bf 0 0 0 0 0 0 0 0 0 0 0 0 0 0 0 false ([]) ([]) none 0 0 none 0 0 none 0 0) 29,blk y (aV a f b g c h d) 29,row f a.az.ls.length b (List.flatMap aB.cells a.az.ls) 64 6,row g a.ai.ls.length c (List.flatMap ag.cells j) 84 3,sepL (List.flatMap ag.own j),row h a.aj.ls.length d (List.flatMap aA.cells a.aj.ls) 88 2]:=cZ.free (bP 84 3)
 have dh:Own w D V [row none 0 0 (List.flatMap aA.cells ([])) 88 2,row none 0 0 (List.flatMap ag.cells ([])) 84 3,sepL (List.flatMap ag.own ([])),row none 0 0 (List.flatMap aB.cells ([])) 64 6,blk r (bf 0 0 0 0 0 0 0 0 0 0 0 0 0 0 0 false ([]) ([]) none 0 0 none 0 0 none 0 0) 29,blk y (aV a f b g c h d) 29,row f a.az.ls.length b (List.flatMap aB.cells a.az.ls) 64 6,row g a.ai.ls.length c (List.flatMap ag.cells j) 84 3,sepL (List.flatMap ag.own j),row h a.aj.ls.length d (List.flatMap aA.cells a.aj.ls) 88 2]:=df.free (bP 88 2)
 have di:=dh.pk [3,1,2,0]
 have e:ic K=(bG.mk 0 0 0 0 0 0 0 0 0 0 0 0 0 0 0 false (bC.mk ([]) ([])) (Ll.mk ([])) (Ll.mk ([])) (Ll.mk ([])),E):=et (aa z) (et (ip G) (et (aa A) (et (ip t) (et (ip O) (et (aa S) (et (ip az) (et (aa P) (iN U))))))))
 obtain⟨rfl,rfl⟩:=dL (e.symm.trans hr)
 exact⟨none,0,none,0,none,0, [],rfl,di,rfl,(by first | omega | (dsimp only; omega) | (simp only [List.length_nil]; omega) | (refine⟨?_, ?_⟩ <;> (dsimp only; omega)))⟩
 refine jT (dT az) (Wp.seq ?_)
 have X:=aZ.drew
 refine Wp.drawnX [] (fun W=> ∃ L',Own w D W ([blk p [.slice ak u.xB.ls.length au, .int .i64 u.xE] 75,blk y (aV a f b g c h d) 29,row f a.az.ls.length b (List.flatMap aB.cells a.az.ls) 64 6,row g a.ai.ls.length c (List.flatMap ag.cells j) 84 3,sepL (List.flatMap ag.own j),row h a.aj.ls.length d (List.flatMap aA.cells a.aj.ls) 88 2,row x l.length s (List.flatMap eB l) 5 1]++L')) (by kernel_rfl) (by kernel_rfl) (bO.then (bO.then bO.base)) ⟨_,X⟩ ?_
 revert X
 generalize World.drew eT=fJ
 intro X
 refine GX.take (v:= .agg (bf 0 0 0 0 0 0 0 0 0 0 0 0 0 0 0 false ([]) ([]) none 0 0 none 0 0 none 0 0).toArray) (rs:= []) 0 rfl (by kernel_rfl) (fun _ _=>yk) (GX.take (v:= .pointer (some ⟨p,0,none⟩)) (rs:= []) 1 rfl (by kernel_rfl) (fun _ _=>Yl.move rfl) (GX.take (v:= .pointer (some ⟨p,0,none⟩)) (rs:= []) 2 rfl (by kernel_rfl) (fun _ _=>yk) (GX.take (v:= .pointer (some ⟨p,1,none⟩)) (rs:= []) 3 rfl (by kernel_rfl) (fun _ _=>yk) (GX.take (v:= .int .i64 u.xE) (rs:= []) 4 rfl (by kernel_rfl) (fun _ ⟨_,H9⟩=>Yl.load rfl (bu.one Tryz.isAgg32 (fG.of (H9.cls (i:=0) rfl) rfl))) ?_))))
 have dm:=X.pk [7,0,1,2,3,4,5,6]
 refine GX.do0 5 rfl (by kernel_rfl) (Do.store (vs:=(bf 0 0 0 0 0 0 0 0 0 0 0 0 0 0 0 false ([]) ([]) none 0 0 none 0 0 none 0 0)) (o:=0) dm rfl rfl Tryz.sizeOf29 rfl rfl rfl rfl ?_)
 intro Y dn
 have aD:=dn.pk [1,2,3,4,5,6,7,0]
 refine⟨.inr ⟨_,aD⟩, ?_⟩
 refine GX.take (v:= .int .i64 u.xE) (rs:= []) 6 rfl (by kernel_rfl) (fun _ _=>Yl.assign rfl) (GX.done (by kernel_rfl) (Fin.then (rt (tR (Fin.res (ib (vs:= [.agg (bf 0 0 0 0 0 0 0 0 0 0 0 0 0 0 0 false ([]) ([]) none 0 0 none 0 0 none 0 0).toArray, .int .i64 u.xE]) rfl (bT.cell rfl (bu.agg (cs:=(bf 0 0 0 0 0 0 0 0 0 0 0 0 0 0 0 false ([]) ([]) none 0 0 none 0 0 none 0 0)) Tryz.isAgg29 Tryz.sizeOf29 ((aD.cls (i:=7) rfl).lit (k:=0) (m:=21) rfl)) (bT.tmp rfl bT.nil)) (Nat.le_of_ble_eq_true rfl)) ?_)))))
 have dw:Own w D Y [row none 0 0 (List.flatMap aB.cells ([])) 64 6,blk p [.slice ak u.xB.ls.length au, .int .i64 u.xE] 75,blk y (aV a f b g c h d) 29,row f a.az.ls.length b (List.flatMap aB.cells a.az.ls) 64 6,row g a.ai.ls.length c (List.flatMap ag.cells j) 84 3,sepL (List.flatMap ag.own j),row h a.aj.ls.length d (List.flatMap aA.cells a.aj.ls) 88 2,row x l.length s (List.flatMap eB l) 5 1,blk r (bf 0 0 0 0 0 0 0 0 0 0 0 0 0 0 0 false ([]) ([]) none 0 0 none 0 0 none 0 0) 29]:=aD.free (bP 64 6)
 have dx:Own w D Y [sepL (List.flatMap ag.own ([])),row none 0 0 (List.flatMap aB.cells ([])) 64 6,blk p [.slice ak u.xB.ls.length au, .int .i64 u.xE] 75,blk y (aV a f b g c h d) 29,row f a.az.ls.length b (List.flatMap aB.cells a.az.ls) 64 6,row g a.ai.ls.length c (List.flatMap ag.cells j) 84 3,sepL (List.flatMap ag.own j),row h a.aj.ls.length d (List.flatMap aA.cells a.aj.ls) 88 2,row x l.length s (List.flatMap eB l) 5 1,blk r (bf 0 0 0 0 0 0 0 0 0 0 0 0 0 0 0 false ([]) ([]) none 0 0 none 0 0 none 0 0) 29]:=dw.sepNil
 have dA:Own w D Y [row none 0 0 (List.flatMap ag.cells ([])) 84 3,sepL (List.flatMap ag.own ([])),row none 0 0 (List.flatMap aB.cells ([])) 64 6,blk p [.slice ak u.xB.ls.length au, .int .i64 u.xE] 75,blk y (aV a f b g c h d) 29,row f a.az.ls.length b (List.flatMap aB.cells a.az.ls) 64 6,row g a.ai.ls.length c (List.flatMap ag.cells j) 84 3,sepL (List.flatMap ag.own j),row h a.aj.ls.length d (List.flatMap aA.cells a.aj.ls) 88 2,row x l.length s (List.flatMap eB l) 5 1,blk r (bf 0 0 0 0 0 0 0 0 0 0 0 0 0 0 0 false ([]) ([]) none 0 0 none 0 0 none 0 0) 29]:=dx.free (bP 84 3)
 have dB:Own w D Y [row none 0 0 (List.flatMap aA.cells ([])) 88 2,row none 0 0 (List.flatMap ag.cells ([])) 84 3,sepL (List.flatMap ag.own ([])),row none 0 0 (List.flatMap aB.cells ([])) 64 6,blk p [.slice ak u.xB.ls.length au, .int .i64 u.xE] 75,blk y (aV a f b g c h d) 29,row f a.az.ls.length b (List.flatMap aB.cells a.az.ls) 64 6,row g a.ai.ls.length c (List.flatMap ag.cells j) 84 3,sepL (List.flatMap ag.own j),row h a.aj.ls.length d (List.flatMap aA.cells a.aj.ls) 88 2,row x l.length s (List.flatMap eB l) 5 1,blk r (bf 0 0 0 0 0 0 0 0 0 0 0 0 0 0 0 false ([]) ([]) none 0 0 none 0 0 none 0 0) 29]:=dA.free (bP 88 2)
 have dC:=dB.pk [3,1,2,0]
 have e:ic K=(bG.mk 0 0 0 0 0 0 0 0 0 0 0 0 0 0 0 false (bC.mk ([]) ([])) (Ll.mk ([])) (Ll.mk ([])) (Ll.mk ([])),u.xE):=et (aa z) (et (ip G) (et (aa A) (et (ip t) (et (ip O) (et (aa S) (iN az))))))
 obtain⟨rfl,rfl⟩:=dL (e.symm.trans hr)
 exact⟨none,0,none,0,none,0, [],rfl,dC,rfl,(by first | omega | (dsimp only; omega) | (simp only [List.length_nil]; omega) | (refine⟨?_, ?_⟩ <;> (dsimp only; omega)))⟩
 refine jF (dF O) (sk (Wp.seq (sr (Mz rfl (Kz (.pointer (some ⟨p,0,none⟩)) (Kz (.pointer (some ⟨p,1,none⟩)) (Lz (.int .i64 n.xE) N 5 Tryz.isAgg32 (fw (.bool (decide (¬ (n.xE=0)))) (Yl.bool (e:= !(decide (n.xE=0))) yk decide_not.symm) (nt ?_)))))))))
 have bn:(decide (¬ (n.xE=0)))=false:=(dF (by omega))
 refine jF bn (sk (Wp.seq (Wp.seq ?_)))
 have aF:=N.pk [0,1,2,3,4,7]
 refine Wp.region (La (aV a f b g c h d) aF 0 Tryz.isAgg29 Tryz.sizeOf29 ?_)
 obtain⟨F,Q⟩:∃ q,dz a=q:=⟨_,rfl⟩
 obtain⟨fK,bq,eX,bv,J⟩:=Own.enter0 aF
 refine cl Tryz.call12 (oU _ _ a f a.az.ls.length b g a.ai.ls.length c j h a.aj.ls.length d F bq rfl (J _ 1 _ rfl bJ) (show a.az.ls.length≤b∧a.az.ls.length≤9223372036854775807 from by omega) L rfl (J _ 2 _ rfl bJ) (show a.ai.ls.length≤c∧a.ai.ls.length≤9223372036854775807 from by omega) (fun x9 h9=>⟨J _ 3 _ rfl (jq (List.mem_flatMap.2 ⟨x9,h9, .head _⟩) bJ),nH (φ:=fun _=>_) aF (i:=3) rfl (jq (List.mem_flatMap.2 ⟨x9,h9, .head _⟩) mG)⟩) rfl (J _ 4 _ rfl bJ) (show a.aj.ls.length≤d∧a.aj.ls.length≤9223372036854775807 from by omega) Q) ?_
 rintro _ fM ⟨rfl,bA⟩
 have aG:=bv _ _ bA
 refine Ar rfl (Mz rfl (fw (.bool (decide (¬ (F=0)))) (Yl.bool (e:= !(decide (F=0))) yk decide_not.symm) (nt ?_)))
 by_cases Z:F=0
 refine jF (dF (not_not_intro Z)) (sk (sr (La (aV a f b g c h d) aG 0 Tryz.isAgg29 Tryz.sizeOf29 ?_)))
 have dE:=aG.pk [5,0,1,2,3,4]
 refine bz (aV a f b g c h d) 0 dE Tryz.sizeOf29 ?_
 intro fO aT
 refine An rfl (rt (Fin.res (ib (vs:= [.agg (aV a f b g c h d).toArray, .int .i64 0]) rfl (bT.cell rfl (bu.agg (cs:=(aV a f b g c h d)) Tryz.isAgg29 Tryz.sizeOf29 ((aT.cls (i:=0) rfl).lit (k:=0) (m:=21) rfl)) (bT.tmp rfl bT.nil)) (Nat.le_of_ble_eq_true rfl)) ?_))
 have dG:=aT.pk [2,3,4,5]
 have e:ic K=(a,0):=et (aa z) (et (ip G) (et (aa A) (et (ip t) (et (iN O) (et (aa Q) (ip Z))))))
 obtain⟨rfl,rfl⟩:=dL (e.symm.trans hr)
 exact⟨f,b,g,c,h,d,j,rfl,dG,L,(by first | omega | (dsimp only; omega) | (simp only [List.length_nil]; omega) | (refine⟨?_, ?_⟩ <;> (dsimp only; omega)))⟩
 refine jT (dT Z) (sr (Kz (.agg (bf 0 0 0 0 0 0 0 0 0 0 0 0 0 0 0 false ([]) ([]) none 0 0 none 0 0 none 0 0).toArray) (Mz rfl ?_)))
 have dH:=aG.pk [5,0,1,2,3,4]
 refine bz (bf 0 0 0 0 0 0 0 0 0 0 0 0 0 0 0 false ([]) ([]) none 0 0 none 0 0 none 0 0) 0 dH Tryz.sizeOf29 ?_
 intro ae aU
 refine An rfl (rt (tR (Fin.res (ib (vs:= [.agg (bf 0 0 0 0 0 0 0 0 0 0 0 0 0 0 0 false ([]) ([]) none 0 0 none 0 0 none 0 0).toArray, .int .i64 F]) rfl (bT.cell rfl (bu.agg (cs:=(bf 0 0 0 0 0 0 0 0 0 0 0 0 0 0 0 false ([]) ([]) none 0 0 none 0 0 none 0 0)) Tryz.isAgg29 Tryz.sizeOf29 ((aU.cls (i:=0) rfl).lit (k:=0) (m:=21) rfl)) (bT.tmp rfl bT.nil)) (Nat.le_of_ble_eq_true rfl)) ?_)))
 have dI:Own w D ae [row none 0 0 (List.flatMap aB.cells ([])) 64 6,blk r (bf 0 0 0 0 0 0 0 0 0 0 0 0 0 0 0 false ([]) ([]) none 0 0 none 0 0 none 0 0) 29,blk y (aV a f b g c h d) 29,row f a.az.ls.length b (List.flatMap aB.cells a.az.ls) 64 6,row g a.ai.ls.length c (List.flatMap ag.cells j) 84 3,sepL (List.flatMap ag.own j),row h a.aj.ls.length d (List.flatMap aA.cells a.aj.ls) 88 2]:=aU.free (bP 64 6)
 have dK:Own w D ae [sepL (List.flatMap ag.own ([])),row none 0 0 (List.flatMap aB.cells ([])) 64 6,blk r (bf 0 0 0 0 0 0 0 0 0 0 0 0 0 0 0 false ([]) ([]) none 0 0 none 0 0 none 0 0) 29,blk y (aV a f b g c h d) 29,row f a.az.ls.length b (List.flatMap aB.cells a.az.ls) 64 6,row g a.ai.ls.length c (List.flatMap ag.cells j) 84 3,sepL (List.flatMap ag.own j),row h a.aj.ls.length d (List.flatMap aA.cells a.aj.ls) 88 2]:=dI.sepNil
 have dN:Own w D ae [row none 0 0 (List.flatMap ag.cells ([])) 84 3,sepL (List.flatMap ag.own ([])),row none 0 0 (List.flatMap aB.cells ([])) 64 6,blk r (bf 0 0 0 0 0 0 0 0 0 0 0 0 0 0 0 false ([]) ([]) none 0 0 none 0 0 none 0 0) 29,blk y (aV a f b g c h d) 29,row f a.az.ls.length b (List.flatMap aB.cells a.az.ls) 64 6,row g a.ai.ls.length c (List.flatMap ag.cells j) 84 3,sepL (List.flatMap ag.own j),row h a.aj.ls.length d (List.flatMap aA.cells a.aj.ls) 88 2]:=dK.free (bP 84 3)
 have dO:Own w D ae [row none 0 0 (List.flatMap aA.cells ([])) 88 2,row none 0 0 (List.flatMap ag.cells ([])) 84 3,sepL (List.flatMap ag.own ([])),row none 0 0 (List.flatMap aB.cells ([])) 64 6,blk r (bf 0 0 0 0 0 0 0 0 0 0 0 0 0 0 0 false ([]) ([]) none 0 0 none 0 0 none 0 0) 29,blk y (aV a f b g c h d) 29,row f a.az.ls.length b (List.flatMap aB.cells a.az.ls) 64 6,row g a.ai.ls.length c (List.flatMap ag.cells j) 84 3,sepL (List.flatMap ag.own j),row h a.aj.ls.length d (List.flatMap aA.cells a.aj.ls) 88 2]:=dN.free (bP 88 2)
 have dP:=dO.pk [3,1,2,0]
 have e:ic K=(bG.mk 0 0 0 0 0 0 0 0 0 0 0 0 0 0 0 false (bC.mk ([]) ([])) (Ll.mk ([])) (Ll.mk ([])) (Ll.mk ([])),F):=et (aa z) (et (ip G) (et (aa A) (et (ip t) (et (iN O) (et (aa Q) (iN Z))))))
 obtain⟨rfl,rfl⟩:=dL (e.symm.trans hr)
 exact⟨none,0,none,0,none,0, [],rfl,dP,rfl,(by first | omega | (dsimp only; omega) | (simp only [List.length_nil]; omega) | (refine⟨?_, ?_⟩ <;> (dsimp only; omega)))⟩
 refine Sz (dF t) (Sz (dF t) (Sz (dF t) (Sz (dF t) (Sz (dF t) (Sz (dF t) (fw (.bool false) (Yl.pickF rfl (dF t) rfl) (nt (jf (sk (Wp.seq (sr (Mz rfl (Kz (.pointer (some ⟨p,0,none⟩)) (Kz (.pointer (some ⟨p,1,none⟩)) (Lz (.int .i64 n.xE) N 5 Tryz.isAgg32 (fw (.bool (decide (¬ (n.xE=0)))) (Yl.bool (e:= !(decide (n.xE=0))) yk decide_not.symm) (nt ?_)))))))))))))))))
 have bB:(decide (¬ (n.xE=0)))=true:=(dT (by omega))
 refine jT bB (Wp.seq ?_)
 have af:=N.drew
 refine Wp.drawnX [] (fun W=> ∃ L',Own w D W ([blk y (aV a f b g c h d) 29,row f a.az.ls.length b (List.flatMap aB.cells a.az.ls) 64 6,row g a.ai.ls.length c (List.flatMap ag.cells j) 84 3,sepL (List.flatMap ag.own j),row h a.aj.ls.length d (List.flatMap aA.cells a.aj.ls) 88 2,blk p [.slice I n.xB.ls.length B, .int .i64 n.xE] 75,row x l.length s (List.flatMap eB l) 5 1]++L')) (by kernel_rfl) (by kernel_rfl) (bO.then (bO.then bO.base)) ⟨_,af⟩ ?_
 revert af
 generalize World.drew eP=fP
 intro af
 refine GX.take (v:= .agg (bf 0 0 0 0 0 0 0 0 0 0 0 0 0 0 0 false ([]) ([]) none 0 0 none 0 0 none 0 0).toArray) (rs:= []) 0 rfl (by kernel_rfl) (fun _ _=>yk) (GX.take (v:= .pointer (some ⟨p,0,none⟩)) (rs:= []) 1 rfl (by kernel_rfl) (fun _ _=>Yl.move rfl) (GX.take (v:= .pointer (some ⟨p,0,none⟩)) (rs:= []) 2 rfl (by kernel_rfl) (fun _ _=>yk) (GX.take (v:= .pointer (some ⟨p,1,none⟩)) (rs:= []) 3 rfl (by kernel_rfl) (fun _ _=>yk) (GX.take (v:= .int .i64 n.xE) (rs:= []) 4 rfl (by kernel_rfl) (fun _ ⟨_,H9⟩=>Yl.load rfl (bu.one Tryz.isAgg32 (fG.of (H9.cls (i:=5) rfl) rfl))) ?_))))
 have dQ:=af.pk [7,0,1,2,3,4,5,6]
 refine GX.do0 5 rfl (by kernel_rfl) (Do.store (vs:=(bf 0 0 0 0 0 0 0 0 0 0 0 0 0 0 0 false ([]) ([]) none 0 0 none 0 0 none 0 0)) (o:=0) dQ rfl rfl Tryz.sizeOf29 rfl rfl rfl rfl ?_)
 intro ai dR
 have aH:=dR.pk [1,2,3,4,5,6,7,0]
 refine⟨.inr ⟨_,aH⟩, ?_⟩
 refine GX.take (v:= .int .i64 n.xE) (rs:= []) 6 rfl (by kernel_rfl) (fun _ _=>Yl.assign rfl) (GX.done (by kernel_rfl) (Fin.then (rt (tR (Fin.res (ib (vs:= [.agg (bf 0 0 0 0 0 0 0 0 0 0 0 0 0 0 0 false ([]) ([]) none 0 0 none 0 0 none 0 0).toArray, .int .i64 n.xE]) rfl (bT.cell rfl (bu.agg (cs:=(bf 0 0 0 0 0 0 0 0 0 0 0 0 0 0 0 false ([]) ([]) none 0 0 none 0 0 none 0 0)) Tryz.isAgg29 Tryz.sizeOf29 ((aH.cls (i:=7) rfl).lit (k:=0) (m:=21) rfl)) (bT.tmp rfl bT.nil)) (Nat.le_of_ble_eq_true rfl)) ?_)))))
 have dS:Own w D ai [row none 0 0 (List.flatMap aB.cells ([])) 64 6,blk y (aV a f b g c h d) 29,row f a.az.ls.length b (List.flatMap aB.cells a.az.ls) 64 6,row g a.ai.ls.length c (List.flatMap ag.cells j) 84 3,sepL (List.flatMap ag.own j),row h a.aj.ls.length d (List.flatMap aA.cells a.aj.ls) 88 2,blk p [.slice I n.xB.ls.length B, .int .i64 n.xE] 75,row x l.length s (List.flatMap eB l) 5 1,blk r (bf 0 0 0 0 0 0 0 0 0 0 0 0 0 0 0 false ([]) ([]) none 0 0 none 0 0 none 0 0) 29]:=aH.free (bP 64 6)
 have dU:Own w D ai [sepL (List.flatMap ag.own ([])),row none 0 0 (List.flatMap aB.cells ([])) 64 6,blk y (aV a f b g c h d) 29,row f a.az.ls.length b (List.flatMap aB.cells a.az.ls) 64 6,row g a.ai.ls.length c (List.flatMap ag.cells j) 84 3,sepL (List.flatMap ag.own j),row h a.aj.ls.length d (List.flatMap aA.cells a.aj.ls) 88 2,blk p [.slice I n.xB.ls.length B, .int .i64 n.xE] 75,row x l.length s (List.flatMap eB l) 5 1,blk r (bf 0 0 0 0 0 0 0 0 0 0 0 0 0 0 0 false ([]) ([]) none 0 0 none 0 0 none 0 0) 29]:=dS.sepNil
 have dV:Own w D ai [row none 0 0 (List.flatMap ag.cells ([])) 84 3,sepL (List.flatMap ag.own ([])),row none 0 0 (List.flatMap aB.cells ([])) 64 6,blk y (aV a f b g c h d) 29,row f a.az.ls.length b (List.flatMap aB.cells a.az.ls) 64 6,row g a.ai.ls.length c (List.flatMap ag.cells j) 84 3,sepL (List.flatMap ag.own j),row h a.aj.ls.length d (List.flatMap aA.cells a.aj.ls) 88 2,blk p [.slice I n.xB.ls.length B, .int .i64 n.xE] 75,row x l.length s (List.flatMap eB l) 5 1,blk r (bf 0 0 0 0 0 0 0 0 0 0 0 0 0 0 0 false ([]) ([]) none 0 0 none 0 0 none 0 0) 29]:=dU.free (bP 84 3)
 have dW:Own w D ai [row none 0 0 (List.flatMap aA.cells ([])) 88 2,row none 0 0 (List.flatMap ag.cells ([])) 84 3,sepL (List.flatMap ag.own ([])),row none 0 0 (List.flatMap aB.cells ([])) 64 6,blk y (aV a f b g c h d) 29,row f a.az.ls.length b (List.flatMap aB.cells a.az.ls) 64 6,row g a.ai.ls.length c (List.flatMap ag.cells j) 84 3,sepL (List.flatMap ag.own j),row h a.aj.ls.length d (List.flatMap aA.cells a.aj.ls) 88 2,blk p [.slice I n.xB.ls.length B, .int .i64 n.xE] 75,row x l.length s (List.flatMap eB l) 5 1,blk r (bf 0 0 0 0 0 0 0 0 0 0 0 0 0 0 0 false ([]) ([]) none 0 0 none 0 0 none 0 0) 29]:=dV.free (bP 88 2)
 have dX:=dW.pk [3,1,2,0]
 have e:ic K=(bG.mk 0 0 0 0 0 0 0 0 0 0 0 0 0 0 0 false (bC.mk ([]) ([])) (Ll.mk ([])) (Ll.mk ([])) (Ll.mk ([])),n.xE):=et (aa z) (et (ip G) (et (aa A) (iN t)))
 obtain⟨rfl,rfl⟩:=dL (e.symm.trans hr)
 exact⟨none,0,none,0,none,0, [],rfl,dX,rfl,(by first | omega | (dsimp only; omega) | (simp only [List.length_nil]; omega) | (refine⟨?_, ?_⟩ <;> (dsimp only; omega)))⟩
 refine jT (dT G) (sr (Kz (.agg (bf 0 0 0 0 0 0 0 0 0 0 0 0 0 0 0 false ([]) ([]) none 0 0 none 0 0 none 0 0).toArray) (Mz rfl ?_)))
 have dY:=aX.pk [1,0]
 refine bz (bf 0 0 0 0 0 0 0 0 0 0 0 0 0 0 0 false ([]) ([]) none 0 0 none 0 0 none 0 0) 0 dY Tryz.sizeOf29 ?_
 intro aj aW
 refine An rfl (rt (tR (Fin.res (ib (vs:= [.agg (bf 0 0 0 0 0 0 0 0 0 0 0 0 0 0 0 false ([]) ([]) none 0 0 none 0 0 none 0 0).toArray, .int .i64 M]) rfl (bT.cell rfl (bu.agg (cs:=(bf 0 0 0 0 0 0 0 0 0 0 0 0 0 0 0 false ([]) ([]) none 0 0 none 0 0 none 0 0)) Tryz.isAgg29 Tryz.sizeOf29 ((aW.cls (i:=0) rfl).lit (k:=0) (m:=21) rfl)) (bT.tmp rfl bT.nil)) (Nat.le_of_ble_eq_true rfl)) ?_)))
 have dZ:Own w D aj [row none 0 0 (List.flatMap aB.cells ([])) 64 6,blk r (bf 0 0 0 0 0 0 0 0 0 0 0 0 0 0 0 false ([]) ([]) none 0 0 none 0 0 none 0 0) 29,row x l.length s (List.flatMap eB l) 5 1]:=aW.free (bP 64 6)
 have d9:Own w D aj [sepL (List.flatMap ag.own ([])),row none 0 0 (List.flatMap aB.cells ([])) 64 6,blk r (bf 0 0 0 0 0 0 0 0 0 0 0 0 0 0 0 false ([]) ([]) none 0 0 none 0 0 none 0 0) 29,row x l.length s (List.flatMap eB l) 5 1]:=dZ.sepNil
 have ed:Own w D aj [row none 0 0 (List.flatMap ag.cells ([])) 84 3,sepL (List.flatMap ag.own ([])),row none 0 0 (List.flatMap aB.cells ([])) 64 6,blk r (bf 0 0 0 0 0 0 0 0 0 0 0 0 0 0 0 false ([]) ([]) none 0 0 none 0 0 none 0 0) 29,row x l.length s (List.flatMap eB l) 5 1]:=d9.free (bP 84 3)
 have ek:Own w D aj [row none 0 0 (List.flatMap aA.cells ([])) 88 2,row none 0 0 (List.flatMap ag.cells ([])) 84 3,sepL (List.flatMap ag.own ([])),row none 0 0 (List.flatMap aB.cells ([])) 64 6,blk r (bf 0 0 0 0 0 0 0 0 0 0 0 0 0 0 0 false ([]) ([]) none 0 0 none 0 0 none 0 0) 29,row x l.length s (List.flatMap eB l) 5 1]:=ed.free (bP 88 2)
 have eu:=ek.pk [3,1,2,0]
 have e:ic K=(bG.mk 0 0 0 0 0 0 0 0 0 0 0 0 0 0 0 false (bC.mk ([]) ([])) (Ll.mk ([])) (Ll.mk ([])) (Ll.mk ([])),M):=et (aa z) (iN G)
 obtain⟨rfl,rfl⟩:=dL (e.symm.trans hr)
 exact⟨none,0,none,0,none,0, [],rfl,eu,rfl,(by first | omega | (dsimp only; omega) | (simp only [List.length_nil]; omega) | (refine⟨?_, ?_⟩ <;> (dsimp only; omega)))⟩
end Go.Proofs.YtccjclalngabhaaGreat
