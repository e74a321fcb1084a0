/-
 wire: the document's answer, which messages may be.
-/
import Derived.Test.YtccjclalngabhaaGreatWiC
namespace Go.Proofs.YtccjclalngabhaaGreat
set_option maxRecDepth 100000
open Go.RowKit
set_option linter.unusedVariables false
set_option linter.unusedSectionVars false
set_option linter.unusedSimpArgs false
def iw (a:bC):Int:=
 if((a.aD.length:Nat):Int) > 12 then 21 else if((a.aI.length:Nat):Int) > 12 then 21 else if a.aI≠([]) then if a.aI≤a.aD then 21 else 0 else 0
theorem lL (w:World) (D:Nat→Prop) (d:bC) (n:Int) (H:Own w D w []) (hr:iw d=n):
    Calls Tryz.prog 35 #[.agg (bC.cells d).toArray] w (cK fun v w'=>v= .int .i64 n∧Own w D w' []):=by
 refine Calls.body (args:= [.agg (bC.cells d).toArray]) Tryz.func35 rfl rfl rfl ?_
 show Wp _ _ _ [(0, .agg (bC.cells d).toArray)] _ _
 refine sr ?_
 refine dD (bC.cells d) 24 H ?_
 intro g o f
 refine An rfl (Wp.seq (sr (Kz (.pointer (some ⟨g,0,none⟩)) (Lz (.string ⟨List.toArray d.aD⟩) f 0 Tryz.isAgg9 (Kz (.int .i64 ((d.aD.length:Nat):Int)) (Kz (.bool (decide (((d.aD.length:Nat):Int) > 12))) (Mz rfl ?_)))))))
 by_cases b:((d.aD.length:Nat):Int) > 12
 refine Sz (dT b) (Sz (dT b) (Sz (dT b) (Sz (dT b) (fw (.bool true) (Yl.pickT rfl (dT b) rfl) (Mz rfl (Sz rfl (Sz rfl (Sz rfl (Sz rfl (WL.skipU rfl rfl rfl (WL.skipU rfl rfl rfl (WL.skipU rfl rfl rfl (WL.skipU rfl rfl rfl (WL.skipU rfl rfl rfl (Sz rfl (fw (.bool true) (Yl.pickT rfl rfl rfl) (nt (jt (sr (An rfl (rt (tR (rs ?_)))))))))))))))))))))))
 have i:=f.pk []
 obtain rfl:_=21:=hr.symm.trans (ip b)
 exact⟨rfl,i⟩
 refine Gz (.pointer (some ⟨g,1,none⟩)) (dF b) (Gl (.string ⟨List.toArray d.aI⟩) (dF b) f 0 Tryz.isAgg9 (Gz (.int .i64 ((d.aI.length:Nat):Int)) (dF b) (Gz (.bool (decide (((d.aI.length:Nat):Int) > 12))) (dF b) (fw (.bool (decide (((d.aI.length:Nat):Int) > 12))) (Yl.pickF rfl (dF b) rfl) (Mz rfl ?_)))))
 by_cases a:((d.aI.length:Nat):Int) > 12
 refine Sz (dT a) (Sz (dT a) (Sz (dT a) (Sz (dT a) (WL.skipU rfl rfl rfl (WL.skipU rfl rfl rfl (WL.skipU rfl rfl rfl (WL.skipU rfl rfl rfl (WL.skipU rfl rfl rfl (Sz (dT a) (fw (.bool true) (Yl.pickT rfl (dT a) rfl) (nt (jt (sr (An rfl (rt (tR (rs ?_)))))))))))))))))
 have j:=f.pk []
 obtain rfl:_=21:=hr.symm.trans (et (iN b) (ip a))
 exact⟨rfl,j⟩
 refine Gz (.pointer (some ⟨g,1,none⟩)) (dF a) (Gl (.string ⟨List.toArray d.aI⟩) (dF a) f 0 Tryz.isAgg9 (gw (.bool (decide (d.aI≠([])))) (dF a) (Yl.strNe rfl rfl) (gw (.bool (decide (d.aI≠([])))) (dF a) (Yl.move rfl) ?_)))
 by_cases c:d.aI≠([])
 refine Gz (.pointer (some ⟨g,0,none⟩)) (dT c) (Gl (.string ⟨List.toArray d.aD⟩) (dT c) f 0 Tryz.isAgg9 (Gz (.pointer (some ⟨g,1,none⟩)) (dT c) (Gl (.string ⟨List.toArray d.aI⟩) (dT c) f 0 Tryz.isAgg9 (gw (.bool (decide (d.aI≤d.aD))) (dT c) (Yl.bool (e:= !(Op.bytesLess d.aD d.aI)) (Yl.strGe rfl rfl) (uZ _ _)) (gw (.bool (decide (d.aI≤d.aD))) (dF a) (Yl.pickT rfl (dT c) rfl) (fw (.bool (decide (d.aI≤d.aD))) (Yl.pickF rfl (dF a) rfl) (nt ?_)))))))
 by_cases h:d.aI≤d.aD
 refine jT (dT h) (sr (An rfl (rt (tR (rs ?_)))))
 have k:=f.pk []
 obtain rfl:_=21:=hr.symm.trans (et (iN b) (et (iN a) (et (ip c) (ip h))))
 exact⟨rfl,k⟩
 refine jF (dF h) (sk (sr (An rfl (rt (rs ?_)))))
 have l:=f.pk []
 obtain rfl:_=0:=hr.symm.trans (et (iN b) (et (iN a) (et (ip c) (iN h))))
 exact⟨rfl,l⟩
 refine Sz (dF c) (Sz (dF c) (Sz (dF c) (Sz (dF c) (Sz (dF c) (gw (.bool false) (dF a) (Yl.pickF rfl (dF c) rfl) (fw (.bool false) (Yl.pickF rfl (dF a) rfl) (nt (jf (sk (sr (An rfl (rt (rs ?_)))))))))))))
 have m:=f.pk []
 obtain rfl:_=0:=hr.symm.trans (et (iN b) (et (iN a) (iN c)))
 exact⟨rfl,m⟩
def gW (a:List UInt8):Int:=
 if((a.length:Nat):Int) < 1 then 20 else if((a.length:Nat):Int) > 12 then 20 else 0
theorem jL (w:World) (D:Nat→Prop) (b:List UInt8) (d:Int) (H:Own w D w []) (hr:gW b=d):
    Calls Tryz.prog 74 #[.string ⟨List.toArray b⟩] w (cK fun v w'=>v= .int .i64 d∧Own w D w' []∧(¬ (d=0)∨(1≤b.length∧b.length≤12))):=by
 refine Calls.body (args:= [.string ⟨List.toArray b⟩]) Tryz.func74 rfl rfl rfl ?_
 show Wp _ _ _ [(0, .string ⟨List.toArray b⟩)] _ _
 refine sr (An rfl (Wp.seq (sr (Mz rfl (Kz (.int .i64 ((b.length:Nat):Int)) (Kz (.bool (decide (((b.length:Nat):Int) < 1))) (Mz rfl ?_)))))))
 by_cases a:((b.length:Nat):Int) < 1
 refine Sz (dT a) (Sz (dT a) (Sz (dT a) (fw (.bool true) (Yl.pickT rfl (dT a) rfl) (nt (jt (sr (An rfl (rt (tR (rs ?_))))))))))
 have e:Own w D w []:=H.pk []
 obtain rfl:_=20:=hr.symm.trans (ip a)
 exact⟨rfl,e,(by omega)⟩
 refine gw (.string ⟨List.toArray b⟩) (dF a) (Yl.move rfl) (Gz (.int .i64 ((b.length:Nat):Int)) (dF a) (Gz (.bool (decide (((b.length:Nat):Int) > 12))) (dF a) (fw (.bool (decide (((b.length:Nat):Int) > 12))) (Yl.pickF rfl (dF a) rfl) (nt ?_))))
 by_cases c:((b.length:Nat):Int) > 12
 refine jT (dT c) (sr (An rfl (rt (tR (rs ?_)))))
 have f:Own w D w []:=H.pk []
 obtain rfl:_=20:=hr.symm.trans (et (iN a) (ip c))
 exact⟨rfl,f,(by omega)⟩
 refine jF (dF c) (sk (sr (An rfl (rt (rs ?_)))))
 have g:Own w D w []:=H.pk []
 obtain rfl:_=0:=hr.symm.trans (et (iN a) (iN c))
 exact⟨rfl,g,(by omega)⟩
def jg (a:aB):Int:=
 if a.ae=1 then if a.aD≠([]) then 40 else if a.aI≠([]) then 40 else if a.au≠([]) then 40 else if a.aF=0 then bnd (gW a.aL) fun d=>if d=0 then if((a.au.length:Nat):Int) > 16 then 2 else 0 else 20 else 40 else if a.ae=2 then if a.aD≠([]) then 40 else if a.aI≠([]) then 40 else if a.aF=0 then bnd (gW a.aL) fun e=>if e=0 then if((a.au.length:Nat):Int) > 16 then 2 else 0 else 20 else 40 else if a.ae=4 then if a.aL≠([]) then 40 else if a.au≠([]) then 40 else if((a.au.length:Nat):Int) > 16 then 2 else bnd (iw (bC.mk a.aD a.aI)) fun f=>if f=0 then if a.aF < 1 then 1 else if a.aF > 4 then 1 else 0 else 21 else if a.ae=3 then if a.aD≠([]) then 40 else if a.aI≠([]) then 40 else if a.au≠([]) then 40 else if a.aF=0 then bnd (gW a.aL) fun b=>if b=0 then if((a.au.length:Nat):Int) > 16 then 2 else 0 else 20 else 40 else if a.ae=5 then if a.aL≠([]) then 40 else if a.au≠([]) then 40 else if a.aF=0 then if((a.au.length:Nat):Int) > 16 then 2 else bnd (iw (bC.mk a.aD a.aI)) fun c=>if c=0 then 0 else 21 else 40 else 40
theorem qK (w:World) (D:Nat→Prop) (a:aB) (r0:Int) (H:Own w D w []) (hr:jg a=r0):
    Calls Tryz.prog 75 #[.agg (aB.cells a).toArray] w (cK fun v w'=>v= .int .i64 r0∧Own w D w' []∧(¬ (r0=0)∨(1≤a.ae∧a.ae≤5))):=by
 refine Calls.body (args:= [.agg (aB.cells a).toArray]) Tryz.func75 rfl rfl rfl ?_
 show Wp _ _ _ [(0, .agg (aB.cells a).toArray)] _ _
 refine sr ?_
 refine dD (aB.cells a) 64 H ?_
 intro d dJ b
 refine Ar rfl (Kz (.pointer (some ⟨d,0,none⟩)) (Lz (.int .i64 a.ae) b 0 Tryz.isAgg3 (Kz (.bool (decide (a.ae=1))) (Mz rfl ?_))))
 by_cases g:a.ae=1
 refine Sz (dT g) (Sz (dT g) (Sz (dT g) (fw (.bool true) (Yl.pickT rfl (dT g) rfl) (Mz rfl (Sz rfl (Sz rfl (Sz rfl (fw (.bool true) (Yl.pickT rfl rfl rfl) (Ar rfl (Kz (.pointer (some ⟨d,0,none⟩)) (Lz (.int .i64 a.ae) b 0 Tryz.isAgg3 (Kz (.bool (decide (a.ae=4))) (Mz rfl ?_)))))))))))))
 have z:(decide (a.ae=4))=false:=(dF (by omega))
 refine Gz (.pointer (some ⟨d,0,none⟩)) z (Gl (.int .i64 a.ae) z b 0 Tryz.isAgg3 (Gz (.bool (decide (a.ae=5))) z (fw (.bool (decide (a.ae=5))) (Yl.pickF rfl z rfl) (An rfl (Wp.seq (sr (Mz rfl (Kz (.bool false) (Mz rfl (Sz rfl (Sz rfl (fw (.bool false) (Yl.pickF rfl rfl rfl) (Mz rfl (gw (.bool true) rfl (Yl.move rfl) (gw (.bool true) rfl (Yl.move rfl) (Gz (.pointer (some ⟨d,3,none⟩)) rfl (Gl (.string ⟨List.toArray a.aD⟩) rfl b 0 Tryz.isAgg9 (gw (.bool (decide (a.aD≠([])))) rfl (Yl.strNe rfl rfl) (gw (.bool (decide (a.aD≠([])))) rfl (Yl.move rfl) ?_)))))))))))))))))))
 by_cases B:a.aD≠([])
 refine Sz (dT B) (Sz (dT B) (Sz (dT B) (gw (.bool true) rfl (Yl.pickT rfl (dT B) rfl) (gw (.bool true) rfl (Yl.pickT rfl rfl rfl) (fw (.bool true) (Yl.pickF rfl rfl rfl) (Mz rfl (Sz rfl (Sz rfl (WL.skipU rfl rfl rfl (WL.skipU rfl rfl rfl (WL.skipU rfl rfl rfl (Sz rfl (fw (.bool true) (Yl.pickT rfl rfl rfl) (Mz rfl (Sz rfl (Sz rfl (Sz rfl (Sz rfl (WL.skipU rfl rfl rfl (WL.skipU rfl rfl rfl (WL.skipU rfl rfl rfl (Sz rfl (fw (.bool true) (Yl.pickT rfl rfl rfl) (Mz rfl (Sz rfl (Sz rfl (Sz rfl (Sz rfl (WL.skipU rfl rfl rfl (WL.skipU rfl rfl rfl (WL.skipU rfl rfl rfl (Sz rfl (fw (.bool true) (Yl.pickT rfl rfl rfl) (nt (jt (sr (Az rfl ?_)))))))))))))))))))))))))))))))))))))
 refine nt (rt (tR (rs ?_)))
 have bQ:=b.pk []
 obtain rfl:_=40:=hr.symm.trans (et (ip g) (ip B))
 exact⟨rfl,bQ,(by omega)⟩
 refine Gz (.pointer (some ⟨d,4,none⟩)) (dF B) (Gl (.string ⟨List.toArray a.aI⟩) (dF B) b 0 Tryz.isAgg9 (gw (.bool (decide (a.aI≠([])))) (dF B) (Yl.strNe rfl rfl) (gw (.bool (decide (a.aI≠([])))) rfl (Yl.pickF rfl (dF B) rfl) (gw (.bool (decide (a.aI≠([])))) rfl (Yl.pickT rfl rfl rfl) (fw (.bool (decide (a.aI≠([])))) (Yl.pickF rfl rfl rfl) (Mz rfl ?_))))))
 by_cases C:a.aI≠([])
 refine Sz (dT C) (Sz (dT C) (WL.skipU rfl rfl rfl (WL.skipU rfl rfl rfl (WL.skipU rfl rfl rfl (Sz (dT C) (fw (.bool true) (Yl.pickT rfl (dT C) rfl) (Mz rfl (Sz rfl (Sz rfl (Sz rfl (Sz rfl (WL.skipU rfl rfl rfl (WL.skipU rfl rfl rfl (WL.skipU rfl rfl rfl (Sz rfl (fw (.bool true) (Yl.pickT rfl rfl rfl) (Mz rfl (Sz rfl (Sz rfl (Sz rfl (Sz rfl (WL.skipU rfl rfl rfl (WL.skipU rfl rfl rfl (WL.skipU rfl rfl rfl (Sz rfl (fw (.bool true) (Yl.pickT rfl rfl rfl) (nt (jt (sr (An rfl (rt (tR (rs ?_)))))))))))))))))))))))))))))))))
 have bR:=b.pk []
 obtain rfl:_=40:=hr.symm.trans (et (ip g) (et (iN B) (ip C)))
 exact⟨rfl,bR,(by omega)⟩
 refine gw (.bool (decide (a.ae=5))) (dF C) (Yl.move rfl) (gw (.bool (decide (a.ae=5))) (dF C) (Yl.move rfl) ?_)
 have r:(decide (a.ae=5))=false:=(dF (by omega))
 refine Sz r (Sz r (Sz r (gw (.bool false) (dF C) (Yl.pickF rfl r rfl) (fw (.bool false) (Yl.pickF rfl (dF C) rfl) (Mz rfl (Gz (.pointer (some ⟨d,0,none⟩)) rfl (Gl (.int .i64 a.ae) rfl b 0 Tryz.isAgg3 (gw (.bool (decide (¬ (a.ae=2)))) rfl (Yl.bool (e:= !(decide (a.ae=2))) yk decide_not.symm) (gw (.bool (decide (¬ (a.ae=2)))) rfl (Yl.move rfl) ?_)))))))))
 have Y:(decide (¬ (a.ae=2)))=true:=(dT (by omega))
 refine Gz (.pointer (some ⟨d,2,none⟩)) Y (Gl (.string ⟨List.toArray a.au⟩) Y b 0 Tryz.isAgg9 (WL.valG (v:= .bool (decide (a.au≠([])))) rfl rfl Y rfl (Yl.strNe rfl rfl) (gw (.bool (decide (a.au≠([])))) rfl (Yl.pickT rfl Y rfl) (fw (.bool (decide (a.au≠([])))) (Yl.pickF rfl rfl rfl) (Mz rfl ?_)))))
 by_cases u:a.au≠([])
 refine Sz (dT u) (Sz (dT u) (Sz (dT u) (Sz (dT u) (WL.skipU rfl rfl rfl (WL.skipU rfl rfl rfl (WL.skipU rfl rfl rfl (Sz (dT u) (fw (.bool true) (Yl.pickT rfl (dT u) rfl) (nt (jt (sr (An rfl (rt (tR (rs ?_)))))))))))))))
 have bS:=b.pk []
 obtain rfl:_=40:=hr.symm.trans (et (ip g) (et (iN B) (et (iN C) (ip u))))
 exact⟨rfl,bS,(by omega)⟩
 refine Gz (.pointer (some ⟨d,0,none⟩)) (dF u) (Gl (.int .i64 a.ae) (dF u) b 0 Tryz.isAgg3 (gw (.bool (decide (¬ (a.ae=4)))) (dF u) (Yl.bool (e:= !(decide (a.ae=4))) yk decide_not.symm) (gw (.bool (decide (¬ (a.ae=4)))) (dF u) (Yl.move rfl) ?_)))
 have Z:(decide (¬ (a.ae=4)))=true:=(dT (by omega))
 refine Gz (.pointer (some ⟨d,5,none⟩)) Z (Gl (.int .i64 a.aF) Z b 0 Tryz.isAgg3 (WL.valG (v:= .bool (decide (¬ (a.aF=0)))) rfl rfl Z rfl (Yl.bool (e:= !(decide (a.aF=0))) yk decide_not.symm) (gw (.bool (decide (¬ (a.aF=0)))) (dF u) (Yl.pickT rfl Z rfl) (fw (.bool (decide (¬ (a.aF=0)))) (Yl.pickF rfl (dF u) rfl) (nt ?_)))))
 by_cases ax:a.aF=0
 refine jF (dF (not_not_intro ax)) (sk (Wp.seq (sr (Mz rfl (Mz rfl (Gz (.pointer (some ⟨d,1,none⟩)) rfl (Gl (.string ⟨List.toArray a.aL⟩) rfl b 0 Tryz.isAgg9 ?_)))))))
 obtain⟨ay,ae⟩:∃ q,gW a.aL=q:=⟨_,rfl⟩
 obtain⟨dK,aV,dw,aW,dx⟩:=Own.enter0 b
 refine jI rfl Tryz.call74 (jL _ _ a.aL ay aV ae) ?_
 rintro _ dL ⟨rfl,aX,aN⟩
 have aC:=aW _ _ aX
 replace aN: ¬ (ay=0)∨(1≤a.aL.length∧a.aL.length≤12):=aN
 refine gw (.bool (decide (¬ (ay=0)))) rfl (Yl.bool (e:= !(decide (ay=0))) yk decide_not.symm) (fw (.bool (decide (¬ (ay=0)))) (Yl.pickT rfl rfl rfl) (nt ?_))
 by_cases aD:ay=0
 refine jF (dF (not_not_intro aD)) (sk (Wp.seq (sr (Kz (.pointer (some ⟨d,2,none⟩)) (Lz (.string ⟨List.toArray a.au⟩) aC 0 Tryz.isAgg9 (Kz (.int .i64 ((a.au.length:Nat):Int)) (Kz (.bool (decide (((a.au.length:Nat):Int) > 16))) (nt ?_))))))))
 by_cases aL:((a.au.length:Nat):Int) > 16
 refine jT (dT aL) (sr (An rfl (rt (tR (rs ?_)))))
 have bT:=aC.pk []
 obtain rfl:_=2:=hr.symm.trans (et (ip g) (et (iN B) (et (iN C) (et (iN u) (et (ip ax) (et (aa ae) (et (ip aD) (ip aL))))))))
 exact⟨rfl,bT,(by omega)⟩
 refine jF (dF aL) (sk (Wp.seq (sr (Mz rfl (Mz rfl (Sz r (Sz r (Sz r (Sz r (Sz r (Sz r (Sz r (fw (.bool false) (Yl.pickF rfl r rfl) (nt (jf (sk (Wp.seq (sr (Kz (.pointer (some ⟨d,0,none⟩)) (Lz (.int .i64 a.ae) aC 0 Tryz.isAgg3 (Kz (.bool (decide (a.ae=4))) (Mz rfl (Sz z (Sz z (Sz z (Sz z (WL.skipU rfl rfl rfl (WL.skipU rfl rfl rfl (WL.skipU rfl rfl rfl (Sz z (fw (.bool false) (Yl.pickF rfl z rfl) (nt (jf ?_)))))))))))))))))))))))))))))))))
 refine sk (sr (An rfl (rt (rs ?_))))
 have bU:=aC.pk []
 obtain rfl:_=0:=hr.symm.trans (et (ip g) (et (iN B) (et (iN C) (et (iN u) (et (ip ax) (et (aa ae) (et (ip aD) (iN aL))))))))
 exact⟨rfl,bU,(by omega)⟩
 refine jT (dT aD) (sr (An rfl (rt (tR (rs ?_)))))
 have bV:=aC.pk []
 obtain rfl:_=20:=hr.symm.trans (et (ip g) (et (iN B) (et (iN C) (et (iN u) (et (ip ax) (et (aa ae) (iN aD)))))))
 exact⟨rfl,bV,(by omega)⟩
 refine jT (dT ax) (sr (An rfl (rt (tR (rs ?_)))))
 have bW:=b.pk []
 obtain rfl:_=40:=hr.symm.trans (et (ip g) (et (iN B) (et (iN C) (et (iN u) (iN ax)))))
 exact⟨rfl,bW,(by omega)⟩
 refine Gz (.pointer (some ⟨d,0,none⟩)) (dF g) (Gl (.int .i64 a.ae) (dF g) b 0 Tryz.isAgg3 (Gz (.bool (decide (a.ae=2))) (dF g) (fw (.bool (decide (a.ae=2))) (Yl.pickF rfl (dF g) rfl) (Mz rfl ?_))))
 by_cases i:a.ae=2
 refine Sz (dT i) (Sz (dT i) (Sz (dT i) (fw (.bool true) (Yl.pickT rfl (dT i) rfl) (Ar rfl (Kz (.pointer (some ⟨d,0,none⟩)) (Lz (.int .i64 a.ae) b 0 Tryz.isAgg3 (Kz (.bool (decide (a.ae=4))) (Mz rfl ?_))))))))
 have A:(decide (a.ae=4))=false:=(dF (by omega))
 refine Gz (.pointer (some ⟨d,0,none⟩)) A (Gl (.int .i64 a.ae) A b 0 Tryz.isAgg3 (Gz (.bool (decide (a.ae=5))) A (fw (.bool (decide (a.ae=5))) (Yl.pickF rfl A rfl) (An rfl (Wp.seq (sr (Mz rfl (Kz (.bool false) (Mz rfl (Sz rfl (Sz rfl (fw (.bool false) (Yl.pickF rfl rfl rfl) (Mz rfl (gw (.bool true) rfl (Yl.move rfl) (gw (.bool true) rfl (Yl.move rfl) (Gz (.pointer (some ⟨d,3,none⟩)) rfl (Gl (.string ⟨List.toArray a.aD⟩) rfl b 0 Tryz.isAgg9 (gw (.bool (decide (a.aD≠([])))) rfl (Yl.strNe rfl rfl) (gw (.bool (decide (a.aD≠([])))) rfl (Yl.move rfl) ?_)))))))))))))))))))
 by_cases E:a.aD≠([])
 refine Sz (dT E) (Sz (dT E) (Sz (dT E) (gw (.bool true) rfl (Yl.pickT rfl (dT E) rfl) (gw (.bool true) rfl (Yl.pickT rfl rfl rfl) (fw (.bool true) (Yl.pickF rfl rfl rfl) (Mz rfl (Sz rfl (Sz rfl (WL.skipU rfl rfl rfl (WL.skipU rfl rfl rfl (WL.skipU rfl rfl rfl (Sz rfl (fw (.bool true) (Yl.pickT rfl rfl rfl) (Mz rfl (Sz rfl (Sz rfl (Sz rfl (Sz rfl (WL.skipU rfl rfl rfl (WL.skipU rfl rfl rfl (WL.skipU rfl rfl rfl (Sz rfl (fw (.bool true) (Yl.pickT rfl rfl rfl) (Mz rfl (Sz rfl (Sz rfl (Sz rfl (Sz rfl (WL.skipU rfl rfl rfl (WL.skipU rfl rfl rfl (WL.skipU rfl rfl rfl (Sz rfl (fw (.bool true) (Yl.pickT rfl rfl rfl) (nt (jt (sr (Az rfl ?_)))))))))))))))))))))))))))))))))))))
 refine nt (rt (tR (rs ?_)))
 have bX:=b.pk []
 obtain rfl:_=40:=hr.symm.trans (et (iN g) (et (ip i) (ip E)))
 exact⟨rfl,bX,(by omega)⟩
 refine Gz (.pointer (some ⟨d,4,none⟩)) (dF E) (Gl (.string ⟨List.toArray a.aI⟩) (dF E) b 0 Tryz.isAgg9 (gw (.bool (decide (a.aI≠([])))) (dF E) (Yl.strNe rfl rfl) (gw (.bool (decide (a.aI≠([])))) rfl (Yl.pickF rfl (dF E) rfl) (gw (.bool (decide (a.aI≠([])))) rfl (Yl.pickT rfl rfl rfl) (fw (.bool (decide (a.aI≠([])))) (Yl.pickF rfl rfl rfl) (Mz rfl ?_))))))
 by_cases F:a.aI≠([])
 refine Sz (dT F) (Sz (dT F) (WL.skipU rfl rfl rfl (WL.skipU rfl rfl rfl (WL.skipU rfl rfl rfl (Sz (dT F) (fw (.bool true) (Yl.pickT rfl (dT F) rfl) (Mz rfl (Sz rfl (Sz rfl (Sz rfl (Sz rfl (WL.skipU rfl rfl rfl (WL.skipU rfl rfl rfl (WL.skipU rfl rfl rfl (Sz rfl (fw (.bool true) (Yl.pickT rfl rfl rfl) (Mz rfl (Sz rfl (Sz rfl (Sz rfl (Sz rfl (WL.skipU rfl rfl rfl (WL.skipU rfl rfl rfl (WL.skipU rfl rfl rfl (Sz rfl (fw (.bool true) (Yl.pickT rfl rfl rfl) (nt (jt (sr (An rfl (rt (tR (rs ?_)))))))))))))))))))))))))))))))))
 have bY:=b.pk []
 obtain rfl:_=40:=hr.symm.trans (et (iN g) (et (ip i) (et (iN E) (ip F))))
 exact⟨rfl,bY,(by omega)⟩
 refine gw (.bool (decide (a.ae=5))) (dF F) (Yl.move rfl) (gw (.bool (decide (a.ae=5))) (dF F) (Yl.move rfl) ?_)
 have s:(decide (a.ae=5))=false:=(dF (by omega))
 refine Sz s (Sz s (Sz s (gw (.bool false) (dF F) (Yl.pickF rfl s rfl) (fw (.bool false) (Yl.pickF rfl (dF F) rfl) (Mz rfl (Gz (.pointer (some ⟨d,0,none⟩)) rfl (Gl (.int .i64 a.ae) rfl b 0 Tryz.isAgg3 (gw (.bool (decide (¬ (a.ae=2)))) rfl (Yl.bool (e:= !(decide (a.ae=2))) yk decide_not.symm) (gw (.bool (decide (¬ (a.ae=2)))) rfl (Yl.move rfl) ?_)))))))))
 have af:(decide (¬ (a.ae=2)))=false:=(dF (by omega))
 refine Sz af (Sz af (Sz af (gw (.bool false) rfl (Yl.pickF rfl af rfl) (fw (.bool false) (Yl.pickF rfl rfl rfl) (Mz rfl (Gz (.pointer (some ⟨d,0,none⟩)) rfl (Gl (.int .i64 a.ae) rfl b 0 Tryz.isAgg3 (gw (.bool (decide (¬ (a.ae=4)))) rfl (Yl.bool (e:= !(decide (a.ae=4))) yk decide_not.symm) (gw (.bool (decide (¬ (a.ae=4)))) rfl (Yl.move rfl) ?_)))))))))
 have ag:(decide (¬ (a.ae=4)))=true:=(dT (by omega))
 refine Gz (.pointer (some ⟨d,5,none⟩)) ag (Gl (.int .i64 a.aF) ag b 0 Tryz.isAgg3 (WL.valG (v:= .bool (decide (¬ (a.aF=0)))) rfl rfl ag rfl (Yl.bool (e:= !(decide (a.aF=0))) yk decide_not.symm) (gw (.bool (decide (¬ (a.aF=0)))) rfl (Yl.pickT rfl ag rfl) (fw (.bool (decide (¬ (a.aF=0)))) (Yl.pickF rfl rfl rfl) (nt ?_)))))
 by_cases az:a.aF=0
 refine jF (dF (not_not_intro az)) (sk (Wp.seq (sr (Mz rfl (Mz rfl (Gz (.pointer (some ⟨d,1,none⟩)) rfl (Gl (.string ⟨List.toArray a.aL⟩) rfl b 0 Tryz.isAgg9 ?_)))))))
 obtain⟨aA,ah⟩:∃ q,gW a.aL=q:=⟨_,rfl⟩
 obtain⟨dM,aY,dz,aZ,dA⟩:=Own.enter0 b
 refine jI rfl Tryz.call74 (jL _ _ a.aL aA aY ah) ?_
 rintro _ dN ⟨rfl,bf,aO⟩
 have aF:=aZ _ _ bf
 replace aO: ¬ (aA=0)∨(1≤a.aL.length∧a.aL.length≤12):=aO
 refine gw (.bool (decide (¬ (aA=0)))) rfl (Yl.bool (e:= !(decide (aA=0))) yk decide_not.symm) (fw (.bool (decide (¬ (aA=0)))) (Yl.pickT rfl rfl rfl) (nt ?_))
 by_cases aG:aA=0
 refine jF (dF (not_not_intro aG)) (sk (Wp.seq (sr (Kz (.pointer (some ⟨d,2,none⟩)) (Lz (.string ⟨List.toArray a.au⟩) aF 0 Tryz.isAgg9 (Kz (.int .i64 ((a.au.length:Nat):Int)) (Kz (.bool (decide (((a.au.length:Nat):Int) > 16))) (nt ?_))))))))
 by_cases aM:((a.au.length:Nat):Int) > 16
 refine jT (dT aM) (sr (An rfl (rt (tR (rs ?_)))))
 have bZ:=aF.pk []
 obtain rfl:_=2:=hr.symm.trans (et (iN g) (et (ip i) (et (iN E) (et (iN F) (et (ip az) (et (aa ah) (et (ip aG) (ip aM))))))))
 exact⟨rfl,bZ,(by omega)⟩
 refine jF (dF aM) (sk (Wp.seq (sr (Mz rfl (Mz rfl (Sz s (Sz s (Sz s (Sz s (Sz s (Sz s (Sz s (fw (.bool false) (Yl.pickF rfl s rfl) (nt (jf (sk (Wp.seq (sr (Kz (.pointer (some ⟨d,0,none⟩)) (Lz (.int .i64 a.ae) aF 0 Tryz.isAgg3 (Kz (.bool (decide (a.ae=4))) (Mz rfl (Sz A (Sz A (Sz A (Sz A (WL.skipU rfl rfl rfl (WL.skipU rfl rfl rfl (WL.skipU rfl rfl rfl (Sz A (fw (.bool false) (Yl.pickF rfl A rfl) (nt (jf ?_)))))))))))))))))))))))))))))))))
 refine sk (sr (An rfl (rt (rs ?_))))
 have cu:=aF.pk []
 obtain rfl:_=0:=hr.symm.trans (et (iN g) (et (ip i) (et (iN E) (et (iN F) (et (ip az) (et (aa ah) (et (ip aG) (iN aM))))))))
 exact⟨rfl,cu,(by omega)⟩
 refine jT (dT aG) (sr (An rfl (rt (tR (rs ?_)))))
 have cz:=aF.pk []
 obtain rfl:_=20:=hr.symm.trans (et (iN g) (et (ip i) (et (iN E) (et (iN F) (et (ip az) (et (aa ah) (iN aG)))))))
 exact⟨rfl,cz,(by omega)⟩
 refine jT (dT az) (sr (An rfl (rt (tR (rs ?_)))))
 have cB:=b.pk []
 obtain rfl:_=40:=hr.symm.trans (et (iN g) (et (ip i) (et (iN E) (et (iN F) (iN az)))))
 exact⟨rfl,cB,(by omega)⟩
 refine Gz (.pointer (some ⟨d,0,none⟩)) (dF i) (Gl (.int .i64 a.ae) (dF i) b 0 Tryz.isAgg3 (Gz (.bool (decide (a.ae=3))) (dF i) (fw (.bool (decide (a.ae=3))) (Yl.pickF rfl (dF i) rfl) (Ar rfl (Kz (.pointer (some ⟨d,0,none⟩)) (Lz (.int .i64 a.ae) b 0 Tryz.isAgg3 (Kz (.bool (decide (a.ae=4))) (Mz rfl ?_))))))))
 by_cases f:a.ae=4
 refine Sz (dT f) (Sz (dT f) (Sz (dT f) (fw (.bool true) (Yl.pickT rfl (dT f) rfl) (An rfl (Wp.seq (sr (Mz rfl (fw (.bool (decide (¬ (a.ae=3)))) (Yl.bool (e:= !(decide (a.ae=3))) yk decide_not.symm) (Mz rfl ?_)))))))))
 have aH:(decide (¬ (a.ae=3)))=true:=(dT (by omega))
 refine WL.valG (v:= .bool true) rfl rfl aH rfl (Yl.move rfl) (Gz (.bool false) aH (fw (.bool false) (Yl.pickT rfl aH rfl) (Mz rfl (gw (.bool (decide (a.ae=3))) rfl (Yl.move rfl) (gw (.bool (decide (a.ae=3))) rfl (Yl.move rfl) ?_)))))
 have x:(decide (a.ae=3))=false:=(dF (by omega))
 refine Sz x (Sz x (Sz x (Sz x (WL.skipU rfl rfl rfl (WL.skipU rfl rfl rfl (WL.skipU rfl rfl rfl (Sz x (gw (.bool false) rfl (Yl.pickF rfl x rfl) (fw (.bool false) (Yl.pickF rfl rfl rfl) (Mz rfl (gw (.bool true) rfl (Yl.move rfl) (gw (.bool true) rfl (Yl.move rfl) (Gz (.pointer (some ⟨d,1,none⟩)) rfl (Gl (.string ⟨List.toArray a.aL⟩) rfl b 0 Tryz.isAgg9 (gw (.bool (decide (a.aL≠([])))) rfl (Yl.strNe rfl rfl) (gw (.bool (decide (a.aL≠([])))) rfl (Yl.pickT rfl rfl rfl) (fw (.bool (decide (a.aL≠([])))) (Yl.pickF rfl rfl rfl) (Mz rfl ?_))))))))))))))))))
 by_cases p:a.aL≠([])
 refine Sz (dT p) (Sz (dT p) (Sz (dT p) (Sz (dT p) (WL.skipU rfl rfl rfl (WL.skipU rfl rfl rfl (WL.skipU rfl rfl rfl (Sz (dT p) (fw (.bool true) (Yl.pickT rfl (dT p) rfl) (Mz rfl (Sz rfl (Sz rfl (Sz rfl (Sz rfl (WL.skipU rfl rfl rfl (WL.skipU rfl rfl rfl (WL.skipU rfl rfl rfl (Sz rfl (fw (.bool true) (Yl.pickT rfl rfl rfl) (nt (jt (sr (An rfl (rt (tR (rs ?_)))))))))))))))))))))))))
 have cO:=b.pk []
 obtain rfl:_=40:=hr.symm.trans (et (iN g) (et (iN i) (et (ip f) (ip p))))
 exact⟨rfl,cO,(by omega)⟩
 refine Gz (.pointer (some ⟨d,0,none⟩)) (dF p) (Gl (.int .i64 a.ae) (dF p) b 0 Tryz.isAgg3 (gw (.bool (decide (¬ (a.ae=2)))) (dF p) (Yl.bool (e:= !(decide (a.ae=2))) yk decide_not.symm) (gw (.bool (decide (¬ (a.ae=2)))) (dF p) (Yl.move rfl) ?_)))
 have ai:(decide (¬ (a.ae=2)))=true:=(dT (by omega))
 refine Gz (.pointer (some ⟨d,2,none⟩)) ai (Gl (.string ⟨List.toArray a.au⟩) ai b 0 Tryz.isAgg9 (WL.valG (v:= .bool (decide (a.au≠([])))) rfl rfl ai rfl (Yl.strNe rfl rfl) (gw (.bool (decide (a.au≠([])))) (dF p) (Yl.pickT rfl ai rfl) (fw (.bool (decide (a.au≠([])))) (Yl.pickF rfl (dF p) rfl) (Mz rfl ?_)))))
 by_cases t:a.au≠([])
 refine Sz (dT t) (Sz (dT t) (Sz (dT t) (Sz (dT t) (WL.skipU rfl rfl rfl (WL.skipU rfl rfl rfl (WL.skipU rfl rfl rfl (Sz (dT t) (fw (.bool true) (Yl.pickT rfl (dT t) rfl) (nt (jt (sr (An rfl (rt (tR (rs ?_)))))))))))))))
 have cZ:=b.pk []
 obtain rfl:_=40:=hr.symm.trans (et (iN g) (et (iN i) (et (ip f) (et (iN p) (ip t)))))
 exact⟨rfl,cZ,(by omega)⟩
 refine Gz (.pointer (some ⟨d,0,none⟩)) (dF t) (Gl (.int .i64 a.ae) (dF t) b 0 Tryz.isAgg3 (gw (.bool (decide (¬ (a.ae=4)))) (dF t) (Yl.bool (e:= !(decide (a.ae=4))) yk decide_not.symm) (gw (.bool (decide (¬ (a.ae=4)))) (dF t) (Yl.move rfl) ?_)))
 have aj:(decide (¬ (a.ae=4)))=false:=(dF (by omega))
 refine Sz aj (Sz aj (Sz aj (gw (.bool false) (dF t) (Yl.pickF rfl aj rfl) (fw (.bool false) (Yl.pickF rfl (dF t) rfl) (nt (jf (sk (Wp.seq (sr (Mz rfl (Mz rfl (Sz x (Sz x (Sz x (Sz x (fw (.bool false) (Yl.pickF rfl x rfl) (nt (jf (sk (Wp.seq (sr (Kz (.pointer (some ⟨d,2,none⟩)) (Lz (.string ⟨List.toArray a.au⟩) b 0 Tryz.isAgg9 (Kz (.int .i64 ((a.au.length:Nat):Int)) (Kz (.bool (decide (((a.au.length:Nat):Int) > 16))) (nt ?_))))))))))))))))))))))))))
 by_cases W:((a.au.length:Nat):Int) > 16
 refine jT (dT W) (sr (An rfl (rt (tR (rs ?_)))))
 have df:=b.pk []
 obtain rfl:_=2:=hr.symm.trans (et (iN g) (et (iN i) (et (ip f) (et (iN p) (et (iN t) (ip W))))))
 exact⟨rfl,df,(by omega)⟩
 refine jF (dF W) (sk (Wp.seq (sr (Mz rfl (Mz rfl (Gz (.pointer (some ⟨d,3,none⟩)) rfl (Gl (.string ⟨List.toArray a.aD⟩) rfl b 0 Tryz.isAgg9 (Gz (.pointer (some ⟨d,4,none⟩)) rfl (Gl (.string ⟨List.toArray a.aI⟩) rfl b 0 Tryz.isAgg9 (Gz (.agg #[.string ⟨List.toArray a.aD⟩, .string ⟨List.toArray a.aI⟩]) rfl ?_))))))))))
 obtain⟨aI,R⟩:∃ q,iw (bC.mk a.aD a.aI)=q:=⟨_,rfl⟩
 obtain⟨dO,bg,dB,bi,dC⟩:=Own.enter0 b
 refine jI rfl Tryz.call35 (lL _ _ (bC.mk a.aD a.aI) aI bg R) ?_
 rintro _ dP ⟨rfl,bn⟩
 have G:=bi _ _ bn
 refine gw (.bool (decide (¬ (aI=0)))) rfl (Yl.bool (e:= !(decide (aI=0))) yk decide_not.symm) (fw (.bool (decide (¬ (aI=0)))) (Yl.pickT rfl rfl rfl) (nt ?_))
 by_cases I:aI=0
 refine jF (dF (not_not_intro I)) (sk (Wp.seq (sr (Kz (.pointer (some ⟨d,0,none⟩)) (Lz (.int .i64 a.ae) G 0 Tryz.isAgg3 (Kz (.bool (decide (a.ae=4))) (Mz rfl (Gz (.pointer (some ⟨d,5,none⟩)) (dT f) (Gl (.int .i64 a.aF) (dT f) G 0 Tryz.isAgg3 (Gz (.bool (decide (a.aF < 1))) (dT f) (gw (.bool (decide (a.aF < 1))) (dT f) (Yl.move rfl) ?_)))))))))))
 by_cases y:a.aF < 1
 refine Sz (dT y) (Sz (dT y) (Sz (dT y) (gw (.bool true) (dT f) (Yl.pickT rfl (dT y) rfl) (fw (.bool true) (Yl.pickT rfl (dT f) rfl) (nt (jt (sr (An rfl (rt (tR (rs ?_)))))))))))
 have bq:=G.pk []
 obtain rfl:_=1:=hr.symm.trans (et (iN g) (et (iN i) (et (ip f) (et (iN p) (et (iN t) (et (iN W) (et (aa R) (et (ip I) (ip y)))))))))
 exact⟨rfl,bq,(by omega)⟩
 refine Gz (.pointer (some ⟨d,5,none⟩)) (dF y) (Gl (.int .i64 a.aF) (dF y) G 0 Tryz.isAgg3 (Gz (.bool (decide (a.aF > 4))) (dF y) (gw (.bool (decide (a.aF > 4))) (dT f) (Yl.pickF rfl (dF y) rfl) (fw (.bool (decide (a.aF > 4))) (Yl.pickT rfl (dT f) rfl) (nt ?_)))))
 by_cases ak:a.aF > 4
 refine jT (dT ak) (sr (An rfl (rt (tR (rs ?_)))))
 have bu:=G.pk []
 obtain rfl:_=1:=hr.symm.trans (et (iN g) (et (iN i) (et (ip f) (et (iN p) (et (iN t) (et (iN W) (et (aa R) (et (ip I) (et (iN y) (ip ak))))))))))
 exact⟨rfl,bu,(by omega)⟩
 refine jF (dF ak) (sk (sr (An rfl (rt (rs ?_)))))
 have bv:=G.pk []
 obtain rfl:_=0:=hr.symm.trans (et (iN g) (et (iN i) (et (ip f) (et (iN p) (et (iN t) (et (iN W) (et (aa R) (et (ip I) (et (iN y) (iN ak))))))))))
 exact⟨rfl,bv,(by omega)⟩
 refine jT (dT I) (sr (An rfl (rt (tR (rs ?_)))))
 have bz:=G.pk []
 obtain rfl:_=21:=hr.symm.trans (et (iN g) (et (iN i) (et (ip f) (et (iN p) (et (iN t) (et (iN W) (et (aa R) (iN I))))))))
 exact⟨rfl,bz,(by omega)⟩
 refine Gz (.pointer (some ⟨d,0,none⟩)) (dF f) (Gl (.int .i64 a.ae) (dF f) b 0 Tryz.isAgg3 (Gz (.bool (decide (a.ae=5))) (dF f) (fw (.bool (decide (a.ae=5))) (Yl.pickF rfl (dF f) rfl) (An rfl (Wp.seq (sr (Mz rfl (fw (.bool (decide (¬ (a.ae=3)))) (Yl.bool (e:= !(decide (a.ae=3))) yk decide_not.symm) (Mz rfl ?_)))))))))
 by_cases c:a.ae=3
 refine Sk rfl rfl (dF (not_not_intro c)) rfl (Sk rfl rfl (dF (not_not_intro c)) rfl (fw (.bool false) (Yl.pickF rfl (dF (not_not_intro c)) rfl) (Mz rfl (gw (.bool (decide (a.ae=3))) rfl (Yl.move rfl) (gw (.bool (decide (a.ae=3))) rfl (Yl.move rfl) (Gz (.pointer (some ⟨d,3,none⟩)) (dT c) (Gl (.string ⟨List.toArray a.aD⟩) (dT c) b 0 Tryz.isAgg9 (gw (.bool (decide (a.aD≠([])))) (dT c) (Yl.strNe rfl rfl) (gw (.bool (decide (a.aD≠([])))) (dT c) (Yl.move rfl) ?_)))))))))
 by_cases n:a.aD≠([])
 refine Sz (dT n) (Sz (dT n) (Sz (dT n) (gw (.bool true) (dT c) (Yl.pickT rfl (dT n) rfl) (gw (.bool true) rfl (Yl.pickT rfl (dT c) rfl) (fw (.bool true) (Yl.pickF rfl rfl rfl) (Mz rfl (Sz rfl (Sz rfl (WL.skipU rfl rfl rfl (WL.skipU rfl rfl rfl (WL.skipU rfl rfl rfl (Sz rfl (fw (.bool true) (Yl.pickT rfl rfl rfl) (Mz rfl (Sz rfl (Sz rfl (Sz rfl (Sz rfl (WL.skipU rfl rfl rfl (WL.skipU rfl rfl rfl (WL.skipU rfl rfl rfl (Sz rfl (fw (.bool true) (Yl.pickT rfl rfl rfl) (Mz rfl (Sz rfl (Sz rfl (Sz rfl (Sz rfl (WL.skipU rfl rfl rfl (WL.skipU rfl rfl rfl (WL.skipU rfl rfl rfl (Sz rfl (fw (.bool true) (Yl.pickT rfl rfl rfl) (nt (jt (sr (Az rfl ?_)))))))))))))))))))))))))))))))))))))
 refine nt (rt (tR (rs ?_)))
 have bA:=b.pk []
 obtain rfl:_=40:=hr.symm.trans (et (iN g) (et (iN i) (et (iN f) (et (ip c) (ip n)))))
 exact⟨rfl,bA,(by omega)⟩
 refine Gz (.pointer (some ⟨d,4,none⟩)) (dF n) (Gl (.string ⟨List.toArray a.aI⟩) (dF n) b 0 Tryz.isAgg9 (gw (.bool (decide (a.aI≠([])))) (dF n) (Yl.strNe rfl rfl) (gw (.bool (decide (a.aI≠([])))) (dT c) (Yl.pickF rfl (dF n) rfl) (gw (.bool (decide (a.aI≠([])))) rfl (Yl.pickT rfl (dT c) rfl) (fw (.bool (decide (a.aI≠([])))) (Yl.pickF rfl rfl rfl) (Mz rfl ?_))))))
 by_cases o:a.aI≠([])
 refine Sz (dT o) (Sz (dT o) (WL.skipU rfl rfl rfl (WL.skipU rfl rfl rfl (WL.skipU rfl rfl rfl (Sz (dT o) (fw (.bool true) (Yl.pickT rfl (dT o) rfl) (Mz rfl (Sz rfl (Sz rfl (Sz rfl (Sz rfl (WL.skipU rfl rfl rfl (WL.skipU rfl rfl rfl (WL.skipU rfl rfl rfl (Sz rfl (fw (.bool true) (Yl.pickT rfl rfl rfl) (Mz rfl (Sz rfl (Sz rfl (Sz rfl (Sz rfl (WL.skipU rfl rfl rfl (WL.skipU rfl rfl rfl (WL.skipU rfl rfl rfl (Sz rfl (fw (.bool true) (Yl.pickT rfl rfl rfl) (nt (jt (sr (An rfl (rt (tR (rs ?_)))))))))))))))))))))))))))))))))
 have bB:=b.pk []
 obtain rfl:_=40:=hr.symm.trans (et (iN g) (et (iN i) (et (iN f) (et (ip c) (et (iN n) (ip o))))))
 exact⟨rfl,bB,(by omega)⟩
 refine gw (.bool (decide (a.ae=5))) (dF o) (Yl.move rfl) (gw (.bool (decide (a.ae=5))) (dF o) (Yl.move rfl) ?_)
 have m:(decide (a.ae=5))=false:=(dF (by omega))
 refine Sz m (Sz m (Sz m (gw (.bool false) (dF o) (Yl.pickF rfl m rfl) (fw (.bool false) (Yl.pickF rfl (dF o) rfl) (Mz rfl (Gz (.pointer (some ⟨d,0,none⟩)) rfl (Gl (.int .i64 a.ae) rfl b 0 Tryz.isAgg3 (gw (.bool (decide (¬ (a.ae=2)))) rfl (Yl.bool (e:= !(decide (a.ae=2))) yk decide_not.symm) (gw (.bool (decide (¬ (a.ae=2)))) rfl (Yl.move rfl) ?_)))))))))
 have M:(decide (¬ (a.ae=2)))=true:=(dT (by omega))
 refine Gz (.pointer (some ⟨d,2,none⟩)) M (Gl (.string ⟨List.toArray a.au⟩) M b 0 Tryz.isAgg9 (WL.valG (v:= .bool (decide (a.au≠([])))) rfl rfl M rfl (Yl.strNe rfl rfl) (gw (.bool (decide (a.au≠([])))) rfl (Yl.pickT rfl M rfl) (fw (.bool (decide (a.au≠([])))) (Yl.pickF rfl rfl rfl) (Mz rfl ?_)))))
 by_cases k:a.au≠([])
 refine Sz (dT k) (Sz (dT k) (Sz (dT k) (Sz (dT k) (WL.skipU rfl rfl rfl (WL.skipU rfl rfl rfl (WL.skipU rfl rfl rfl (Sz (dT k) (fw (.bool true) (Yl.pickT rfl (dT k) rfl) (nt (jt (sr (An rfl (rt (tR (rs ?_)))))))))))))))
 have bD:=b.pk []
 obtain rfl:_=40:=hr.symm.trans (et (iN g) (et (iN i) (et (iN f) (et (ip c) (et (iN n) (et (iN o) (ip k)))))))
 exact⟨rfl,bD,(by omega)⟩
 refine Gz (.pointer (some ⟨d,0,none⟩)) (dF k) (Gl (.int .i64 a.ae) (dF k) b 0 Tryz.isAgg3 (gw (.bool (decide (¬ (a.ae=4)))) (dF k) (Yl.bool (e:= !(decide (a.ae=4))) yk decide_not.symm) (gw (.bool (decide (¬ (a.ae=4)))) (dF k) (Yl.move rfl) ?_)))
 have N:(decide (¬ (a.ae=4)))=true:=(dT (by omega))
 refine Gz (.pointer (some ⟨d,5,none⟩)) N (Gl (.int .i64 a.aF) N b 0 Tryz.isAgg3 (WL.valG (v:= .bool (decide (¬ (a.aF=0)))) rfl rfl N rfl (Yl.bool (e:= !(decide (a.aF=0))) yk decide_not.symm) (gw (.bool (decide (¬ (a.aF=0)))) (dF k) (Yl.pickT rfl N rfl) (fw (.bool (decide (¬ (a.aF=0)))) (Yl.pickF rfl (dF k) rfl) (nt ?_)))))
 by_cases J:a.aF=0
 refine jF (dF (not_not_intro J)) (sk (Wp.seq (sr (Mz rfl (Mz rfl (Gz (.pointer (some ⟨d,1,none⟩)) (dT c) (Gl (.string ⟨List.toArray a.aL⟩) (dT c) b 0 Tryz.isAgg9 ?_)))))))
 obtain⟨K,O⟩:∃ q,gW a.aL=q:=⟨_,rfl⟩
 obtain⟨dE,aP,dh,aQ,di⟩:=Own.enter0 b
 refine jI (dT c) Tryz.call74 (jL _ _ a.aL K aP O) ?_
 rintro _ dG ⟨rfl,aR,aJ⟩
 have S:=aQ _ _ aR
 replace aJ: ¬ (K=0)∨(1≤a.aL.length∧a.aL.length≤12):=aJ
 refine gw (.bool (decide (¬ (K=0)))) (dT c) (Yl.bool (e:= !(decide (K=0))) yk decide_not.symm) (fw (.bool (decide (¬ (K=0)))) (Yl.pickT rfl (dT c) rfl) (nt ?_))
 by_cases T:K=0
 refine jF (dF (not_not_intro T)) (sk (Wp.seq (sr (Kz (.pointer (some ⟨d,2,none⟩)) (Lz (.string ⟨List.toArray a.au⟩) S 0 Tryz.isAgg9 (Kz (.int .i64 ((a.au.length:Nat):Int)) (Kz (.bool (decide (((a.au.length:Nat):Int) > 16))) (nt ?_))))))))
 by_cases au:((a.au.length:Nat):Int) > 16
 refine jT (dT au) (sr (An rfl (rt (tR (rs ?_)))))
 have bE:=S.pk []
 obtain rfl:_=2:=hr.symm.trans (et (iN g) (et (iN i) (et (iN f) (et (ip c) (et (iN n) (et (iN o) (et (iN k) (et (ip J) (et (aa O) (et (ip T) (ip au)))))))))))
 exact⟨rfl,bE,(by omega)⟩
 refine jF (dF au) (sk (Wp.seq (sr (Mz rfl (Mz rfl (Sz m (Sz m (Sz m (Sz m (Sz m (Sz m (Sz m (fw (.bool false) (Yl.pickF rfl m rfl) (nt (jf (sk (Wp.seq (sr (Kz (.pointer (some ⟨d,0,none⟩)) (Lz (.int .i64 a.ae) S 0 Tryz.isAgg3 (Kz (.bool (decide (a.ae=4))) (Mz rfl (Sz (dF f) (Sz (dF f) (Sz (dF f) (Sz (dF f) (WL.skipU rfl rfl rfl (WL.skipU rfl rfl rfl (WL.skipU rfl rfl rfl (Sz (dF f) (fw (.bool false) (Yl.pickF rfl (dF f) rfl) (nt (jf ?_)))))))))))))))))))))))))))))))))
 refine sk (sr (An rfl (rt (rs ?_))))
 have bF:=S.pk []
 obtain rfl:_=0:=hr.symm.trans (et (iN g) (et (iN i) (et (iN f) (et (ip c) (et (iN n) (et (iN o) (et (iN k) (et (ip J) (et (aa O) (et (ip T) (iN au)))))))))))
 exact⟨rfl,bF,(by omega)⟩
 refine jT (dT T) (sr (An rfl (rt (tR (rs ?_)))))
 have bG:=S.pk []
 obtain rfl:_=20:=hr.symm.trans (et (iN g) (et (iN i) (et (iN f) (et (ip c) (et (iN n) (et (iN o) (et (iN k) (et (ip J) (et (aa O) (iN T))))))))))
 exact⟨rfl,bG,(by omega)⟩
 refine jT (dT J) (sr (An rfl (rt (tR (rs ?_)))))
 have bH:=b.pk []
 obtain rfl:_=40:=hr.symm.trans (et (iN g) (et (iN i) (et (iN f) (et (ip c) (et (iN n) (et (iN o) (et (iN k) (iN J))))))))
 exact⟨rfl,bH,(by omega)⟩
 refine gw (.bool (decide (a.ae=5))) (dT c) (Yl.move rfl) (gw (.bool (decide (¬ (a.ae=5)))) (dT c) (Yl.bool (e:= !(decide (a.ae=5))) yk decide_not.symm) (fw (.bool (decide (¬ (a.ae=5)))) (Yl.pickT rfl (dT c) rfl) (Mz rfl ?_)))
 by_cases h:a.ae=5
 refine gw (.bool (decide (a.ae=3))) (dF (not_not_intro h)) (Yl.move rfl) (gw (.bool (decide (a.ae=3))) (dF (not_not_intro h)) (Yl.move rfl) (Sz (dF c) (Sz (dF c) (Sz (dF c) (Sz (dF c) (WL.skipU rfl rfl rfl (WL.skipU rfl rfl rfl (WL.skipU rfl rfl rfl (Sz (dF c) (gw (.bool false) (dF (not_not_intro h)) (Yl.pickF rfl (dF c) rfl) (fw (.bool false) (Yl.pickF rfl (dF (not_not_intro h)) rfl) (Mz rfl (gw (.bool (decide (a.ae=5))) rfl (Yl.move rfl) (gw (.bool (decide (a.ae=5))) rfl (Yl.move rfl) (Gz (.pointer (some ⟨d,1,none⟩)) (dT h) (Gl (.string ⟨List.toArray a.aL⟩) (dT h) b 0 Tryz.isAgg9 (gw (.bool (decide (a.aL≠([])))) (dT h) (Yl.strNe rfl rfl) (gw (.bool (decide (a.aL≠([])))) rfl (Yl.pickT rfl (dT h) rfl) (fw (.bool (decide (a.aL≠([])))) (Yl.pickF rfl rfl rfl) (Mz rfl ?_))))))))))))))))))))
 by_cases j:a.aL≠([])
 refine Sz (dT j) (Sz (dT j) (Sz (dT j) (Sz (dT j) (WL.skipU rfl rfl rfl (WL.skipU rfl rfl rfl (WL.skipU rfl rfl rfl (Sz (dT j) (fw (.bool true) (Yl.pickT rfl (dT j) rfl) (Mz rfl (Sz rfl (Sz rfl (Sz rfl (Sz rfl (WL.skipU rfl rfl rfl (WL.skipU rfl rfl rfl (WL.skipU rfl rfl rfl (Sz rfl (fw (.bool true) (Yl.pickT rfl rfl rfl) (nt (jt (sr (An rfl (rt (tR (rs ?_)))))))))))))))))))))))))
 have bI:=b.pk []
 obtain rfl:_=40:=hr.symm.trans (et (iN g) (et (iN i) (et (iN f) (et (iN c) (et (ip h) (ip j))))))
 exact⟨rfl,bI,(by omega)⟩
 refine Gz (.pointer (some ⟨d,0,none⟩)) (dF j) (Gl (.int .i64 a.ae) (dF j) b 0 Tryz.isAgg3 (gw (.bool (decide (¬ (a.ae=2)))) (dF j) (Yl.bool (e:= !(decide (a.ae=2))) yk decide_not.symm) (gw (.bool (decide (¬ (a.ae=2)))) (dF j) (Yl.move rfl) ?_)))
 have P:(decide (¬ (a.ae=2)))=true:=(dT (by omega))
 refine Gz (.pointer (some ⟨d,2,none⟩)) P (Gl (.string ⟨List.toArray a.au⟩) P b 0 Tryz.isAgg9 (WL.valG (v:= .bool (decide (a.au≠([])))) rfl rfl P rfl (Yl.strNe rfl rfl) (gw (.bool (decide (a.au≠([])))) (dF j) (Yl.pickT rfl P rfl) (fw (.bool (decide (a.au≠([])))) (Yl.pickF rfl (dF j) rfl) (Mz rfl ?_)))))
 by_cases l:a.au≠([])
 refine Sz (dT l) (Sz (dT l) (Sz (dT l) (Sz (dT l) (WL.skipU rfl rfl rfl (WL.skipU rfl rfl rfl (WL.skipU rfl rfl rfl (Sz (dT l) (fw (.bool true) (Yl.pickT rfl (dT l) rfl) (nt (jt (sr (An rfl (rt (tR (rs ?_)))))))))))))))
 have bJ:=b.pk []
 obtain rfl:_=40:=hr.symm.trans (et (iN g) (et (iN i) (et (iN f) (et (iN c) (et (ip h) (et (iN j) (ip l)))))))
 exact⟨rfl,bJ,(by omega)⟩
 refine Gz (.pointer (some ⟨d,0,none⟩)) (dF l) (Gl (.int .i64 a.ae) (dF l) b 0 Tryz.isAgg3 (gw (.bool (decide (¬ (a.ae=4)))) (dF l) (Yl.bool (e:= !(decide (a.ae=4))) yk decide_not.symm) (gw (.bool (decide (¬ (a.ae=4)))) (dF l) (Yl.move rfl) ?_)))
 have Q:(decide (¬ (a.ae=4)))=true:=(dT (by omega))
 refine Gz (.pointer (some ⟨d,5,none⟩)) Q (Gl (.int .i64 a.aF) Q b 0 Tryz.isAgg3 (WL.valG (v:= .bool (decide (¬ (a.aF=0)))) rfl rfl Q rfl (Yl.bool (e:= !(decide (a.aF=0))) yk decide_not.symm) (gw (.bool (decide (¬ (a.aF=0)))) (dF l) (Yl.pickT rfl Q rfl) (fw (.bool (decide (¬ (a.aF=0)))) (Yl.pickF rfl (dF l) rfl) (nt ?_)))))
 by_cases L:a.aF=0
 refine jF (dF (not_not_intro L)) (sk (Wp.seq (sr (Mz rfl (Mz rfl (Sz (dF c) (Sz (dF c) (Sz (dF c) (Sz (dF c) (fw (.bool false) (Yl.pickF rfl (dF c) rfl) (nt (jf (sk (Wp.seq (sr (Kz (.pointer (some ⟨d,2,none⟩)) (Lz (.string ⟨List.toArray a.au⟩) b 0 Tryz.isAgg9 (Kz (.int .i64 ((a.au.length:Nat):Int)) (Kz (.bool (decide (((a.au.length:Nat):Int) > 16))) (nt ?_))))))))))))))))))))
 by_cases U:((a.au.length:Nat):Int) > 16
 refine jT (dT U) (sr (An rfl (rt (tR (rs ?_)))))
 have bK:=b.pk []
 obtain rfl:_=2:=hr.symm.trans (et (iN g) (et (iN i) (et (iN f) (et (iN c) (et (ip h) (et (iN j) (et (iN l) (et (ip L) (ip U)))))))))
 exact⟨rfl,bK,(by omega)⟩
 refine jF (dF U) (sk (Wp.seq (sr (Mz rfl (Mz rfl (Gz (.pointer (some ⟨d,3,none⟩)) (dT h) (Gl (.string ⟨List.toArray a.aD⟩) (dT h) b 0 Tryz.isAgg9 (Gz (.pointer (some ⟨d,4,none⟩)) (dT h) (Gl (.string ⟨List.toArray a.aI⟩) (dT h) b 0 Tryz.isAgg9 (Gz (.agg #[.string ⟨List.toArray a.aD⟩, .string ⟨List.toArray a.aI⟩]) (dT h) ?_))))))))))
 obtain⟨V,X⟩:∃ q,iw (bC.mk a.aD a.aI)=q:=⟨_,rfl⟩
 obtain⟨dH,aS,dm,aT,dn⟩:=Own.enter0 b
 refine jI (dT h) Tryz.call35 (lL _ _ (bC.mk a.aD a.aI) V aS X) ?_
 rintro _ dI ⟨rfl,aU⟩
 have aK:=aT _ _ aU
 refine gw (.bool (decide (¬ (V=0)))) (dT h) (Yl.bool (e:= !(decide (V=0))) yk decide_not.symm) (fw (.bool (decide (¬ (V=0)))) (Yl.pickT rfl (dT h) rfl) (nt ?_))
 by_cases av:V=0
 refine jF (dF (not_not_intro av)) (sk (Wp.seq (sr (Kz (.pointer (some ⟨d,0,none⟩)) (Lz (.int .i64 a.ae) aK 0 Tryz.isAgg3 (Kz (.bool (decide (a.ae=4))) (Mz rfl (Sz (dF f) (Sz (dF f) (Sz (dF f) (Sz (dF f) (WL.skipU rfl rfl rfl (WL.skipU rfl rfl rfl (WL.skipU rfl rfl rfl (Sz (dF f) (fw (.bool false) (Yl.pickF rfl (dF f) rfl) (nt (jf (sk (sr (An rfl (rt (rs ?_)))))))))))))))))))))))
 have bL:=aK.pk []
 obtain rfl:_=0:=hr.symm.trans (et (iN g) (et (iN i) (et (iN f) (et (iN c) (et (ip h) (et (iN j) (et (iN l) (et (ip L) (et (iN U) (et (aa X) (ip av)))))))))))
 exact⟨rfl,bL,(by omega)⟩
 refine jT (dT av) (sr (An rfl (rt (tR (rs ?_)))))
 have bM:=aK.pk []
 obtain rfl:_=21:=hr.symm.trans (et (iN g) (et (iN i) (et (iN f) (et (iN c) (et (ip h) (et (iN j) (et (iN l) (et (ip L) (et (iN U) (et (aa X) (iN av)))))))))))
 exact⟨rfl,bM,(by omega)⟩
 refine jT (dT L) (sr (An rfl (rt (tR (rs ?_)))))
 have bN:=b.pk []
 obtain rfl:_=40:=hr.symm.trans (et (iN g) (et (iN i) (et (iN f) (et (iN c) (et (ip h) (et (iN j) (et (iN l) (iN L))))))))
 exact⟨rfl,bN,(by omega)⟩
 refine Sz (dT h) (Sz (dT h) (WL.skipU rfl rfl rfl (WL.skipU rfl rfl rfl (WL.skipU rfl rfl rfl (WL.skipU rfl rfl rfl (WL.skipU rfl rfl rfl (WL.skipU rfl rfl rfl (WL.skipU rfl rfl rfl (WL.skipU rfl rfl rfl (Sz (dT h) (fw (.bool true) (Yl.pickT rfl (dT h) rfl) (Mz rfl (Sz rfl (Sz rfl (WL.skipU rfl rfl rfl (WL.skipU rfl rfl rfl (WL.skipU rfl rfl rfl (Sz rfl (fw (.bool true) (Yl.pickT rfl rfl rfl) (Mz rfl (Sz rfl (Sz rfl (Sz rfl (Sz rfl (WL.skipU rfl rfl rfl (WL.skipU rfl rfl rfl (WL.skipU rfl rfl rfl (Sz rfl (fw (.bool true) (Yl.pickT rfl rfl rfl) (Mz rfl (Sz rfl (Sz rfl (Sz rfl (Sz rfl (WL.skipU rfl rfl rfl (WL.skipU rfl rfl rfl (WL.skipU rfl rfl rfl (Sz rfl (fw (.bool true) (Yl.pickT rfl rfl rfl) ?_)))))))))))))))))))))))))))))))))))))))
 refine nt (jt (sr (An rfl (rt (tR (rs ?_))))))
 have bO:=b.pk []
 obtain rfl:_=40:=hr.symm.trans (et (iN g) (et (iN i) (et (iN f) (et (iN c) (iN h)))))
 exact⟨rfl,bO,(by omega)⟩
def gy:List aB→Unit ⊕ Int
  | []=>Sum.inl ()
  | b::c=>bnd (jg b) fun a=>if a=0 then gy c else Sum.inr (a)
def je (a:List aB):Int:=
 lp (gy a) fun _=>0
theorem og (w:World) (D:Nat→Prop) (l:Option Addr) (n0 r:Nat) (b:List aB) (M:Int) (H:Own w D w []) (p:Ro w D fun w'=>bD w' 6 l n0 (List.flatMap aB.cells b)) (F:n0=b.length) (Q:b.length≤9223372036854775807) (hr:je b=M):
    Calls Tryz.prog 32 #[.slice l n0 r] w (cK fun v w'=>v= .int .i64 M∧Own w D w' []):=by
 subst F
 refine Calls.body (args:= [.slice l b.length r]) Tryz.func32 rfl rfl rfl ?_
 show Wp _ _ _ [(0, .slice l b.length r)] _ _
 refine sr (An rfl (Wp.seq (sr (Mz rfl (Kz (.int .i64 ((b.length:Nat):Int)) (Mn rfl (bo ?_)))))))
 have G:Own w D w []:=H.pk []
 obtain⟨s,t⟩:∃ q:Nat→World→Prop,q=fun(i:Nat) w'=>Own w D w' []∧(i≤b.length∧gy b=gy (List.drop i b)):=⟨_,rfl⟩
 have f:∀ {a:Nat} {w':World},s a w'↔Own w D w' []∧a≤b.length∧gy b=gy (List.drop a b):=by intros; subst t; exact Iff.rfl
 refine Wp.loop (fun i:Nat=> [(2, .int .i64 0),(8, .int .i64 ((i:Nat):Int)),(7, .int .i64 ((b.length:Nat):Int)),(6, .slice l b.length r)]) s (fun i=>b.length - i) 0 ⟨rfl,rfl,rfl,rfl,trivial⟩ (f.2 ⟨G,by omega,rfl⟩) ?_
 rintro a R u
 show Wp _ _ _ [(2, .int .i64 0),(8, .int .i64 ((a:Nat):Int)),(7, .int .i64 ((b.length:Nat):Int)),(6, .slice l b.length r)] _ _
 obtain⟨g,N,h⟩:=f.1 u
 refine sr (Kz (.bool (decide (((a:Nat):Int) < ((b.length:Nat):Int)))) (nt (Wp.seq ?_)))
 by_cases x:((a:Nat):Int) < ((b.length:Nat):Int)
 obtain⟨c,m⟩:=eG (ls:=b) (i:=a) aB.len (by decide) (g.ro p) (by first | omega | (simp; done) | (simp; omega))
 have n:=drop_at m
 refine jT (dT x) (sk (Wp.seq (bo (sr (fw (.pointer (some ⟨ab l,ao l+a *6,none⟩)) (Yl.indexAddr (ma) rfl rfl ((g.ro p).addr (i:=a) (by omega)) (by omega)) (fw (.agg (aB.cells c).toArray) (Yl.load rfl (bu.agg (cs:=(aB.cells c)) Tryz.isAgg64 Tryz.sizeOf64 ((g.ro p).elem aB.len m (by decide)))) ?_))))))
 refine dD [.int .i64 0, .string ⟨List.toArray ([])⟩, .string ⟨List.toArray ([])⟩, .string ⟨List.toArray ([])⟩, .string ⟨List.toArray ([])⟩, .int .i64 0] 64 g ?_
 intro S T I
 refine bz (aB.cells c) 0 I Tryz.sizeOf64 ?_
 intro U y
 refine ns (La (aB.cells c) y 0 Tryz.isAgg64 Tryz.sizeOf64 ?_)
 obtain⟨d,j⟩:∃ q,jg c=q:=⟨_,rfl⟩
 obtain⟨V,z,O,A,P⟩:=Own.enter0 y
 refine cl Tryz.call75 (qK _ _ c d z j) ?_
 rintro _ W ⟨rfl,B,o⟩
 have C:=A _ _ B
 replace o: ¬ (d=0)∨(1≤c.ae∧c.ae≤5):=o
 refine Ar rfl (Mz rfl (fw (.bool (decide (¬ (d=0)))) (Yl.bool (e:= !(decide (d=0))) yk decide_not.symm) (nt ?_)))
 by_cases k:d=0
 refine jF (dF (not_not_intro k)) (Wp.skip (bN (Fin.then (Wp.region (fw (.int .i64 ((a+1:Nat):Int)) (Yl.int (e:=IntKind.i64.wrap (((a:Nat):Int)+1)) yk (by rw [IntWalk.i64_in _ (by omega)]; omega)) (Mz rfl (WL.nil ?_)))))))
 have J:=C.pk []
 exact Fin.round (a+1) ⟨rfl,rfl,rfl,rfl,trivial⟩ (f.2 ⟨J,by omega,et (h) (et (congrArg (fun q=>gy q) n) (et (aa j) (ip k)))⟩) (by show b.length - (a+1) < b.length - a; omega)
 refine jT (dT k) (sr (Mz rfl (An rfl (rt (bR (tR (tR (bR (tR (rs ?_))))))))))
 have K:=C.pk []
 obtain rfl:_=d:=hr.symm.trans (iH (et (h) (et (congrArg (fun q=>gy q) n) (et (aa j) (iN k)))))
 exact⟨rfl,K⟩
 refine jF (dF x) (Wp.exit (Fin.thenX ?_))
 have E:gy b=Sum.inl ():=et (h) (et (congrArg (fun q=>gy q) (dY (ls:=b) (i:=a) (by omega))) rfl)
 refine Fin.thenX (Fin.blockX (Fin.then (sr (An rfl (rt (rs ?_))))))
 have L:=g.pk []
 obtain rfl:_=0:=hr.symm.trans (kF E)
 exact⟨rfl,L⟩
def l7 (b:List aB):Int:=
 if((b.length:Nat):Int) < 1 then 3 else if((b.length:Nat):Int) > 4 then 3 else bnd (je b) fun a=>a
theorem rQ (w:World) (D:Nat→Prop) (e:Option Addr) (n0 f:Nat) (b:List aB) (s:Int) (H:Own w D w []) (l:Ro w D fun w'=>bD w' 6 e n0 (List.flatMap aB.cells b)) (m:n0=b.length) (u:b.length≤9223372036854775807) (hr:l7 b=s):
    Calls Tryz.prog 30 #[.slice e n0 f] w (cK fun v w'=>v= .int .i64 s∧Own w D w' []):=by
 subst m
 refine Calls.body (args:= [.slice e b.length f]) Tryz.func30 rfl rfl rfl ?_
 show Wp _ _ _ [(0, .slice e b.length f)] _ _
 refine sr (An rfl (Wp.seq (sr (Mz rfl (Kz (.int .i64 ((b.length:Nat):Int)) (Kz (.bool (decide (((b.length:Nat):Int) < 1))) (Mz rfl ?_)))))))
 by_cases a:((b.length:Nat):Int) < 1
 refine Sz (dT a) (Sz (dT a) (Sz (dT a) (fw (.bool true) (Yl.pickT rfl (dT a) rfl) (nt (jt (sr (An rfl (rt (tR (rs ?_))))))))))
 have n:Own w D w []:=H.pk []
 obtain rfl:_=3:=hr.symm.trans (ip a)
 exact⟨rfl,n⟩
 refine gw (.slice e b.length f) (dF a) (Yl.move rfl) (Gz (.int .i64 ((b.length:Nat):Int)) (dF a) (Gz (.bool (decide (((b.length:Nat):Int) > 4))) (dF a) (fw (.bool (decide (((b.length:Nat):Int) > 4))) (Yl.pickF rfl (dF a) rfl) (nt ?_))))
 by_cases c:((b.length:Nat):Int) > 4
 refine jT (dT c) (sr (An rfl (rt (tR (rs ?_)))))
 have o:Own w D w []:=H.pk []
 obtain rfl:_=3:=hr.symm.trans (et (iN a) (ip c))
 exact⟨rfl,o⟩
 refine jF (dF c) (sk (sr (Mz rfl ?_)))
 obtain⟨g,d⟩:∃ q,je b=q:=⟨_,rfl⟩
 obtain⟨x,h,i,j,t⟩:=Own.enter0 H
 refine cl Tryz.call32 (og _ _ e b.length f b g h (i _ l) rfl (by omega) d) ?_
 rintro _ y ⟨rfl,k⟩
 have p:=j _ _ k
 refine An rfl (rt (rs ?_))
 have r:=p.pk []
 obtain rfl:_=g:=hr.symm.trans (et (iN a) (et (iN c) (aa d)))
 exact⟨rfl,r⟩
def fD (f:List aA):List aA→Nat→Unit ⊕ Int
  | [],a=>Sum.inl ()
  | b::c,a=>if b.di < 1 then Sum.inr (170) else if b.di > 4 then Sum.inr (170) else if((a:Nat):Int) > 0 then bnd (gW b.aD) fun d=>if d=0 then bnd (List.getD f (a - 1) default) fun e=>if b.aD≤e.aD then Sum.inr (170) else fD f c (a+1) else Sum.inr (170) else fD f c (a+1)
def l8 (a:List aA):Int:=
 if((a.length:Nat):Int) < 1 then 170 else if((a.length:Nat):Int) > 6 then 170 else bnd (List.getD a 0 default) fun b=>if b.aD≠([]) then 170 else lp (fD a a 0) fun _=>0
theorem rR (w:World) (D:Nat→Prop) (o:Option Addr) (n0 F:Nat) (b:List aA) (r0:Int) (H:Own w D w []) (r:Ro w D fun w'=>bD w' 2 o n0 (List.flatMap aA.cells b)) (U:n0=b.length) (aD:b.length≤9223372036854775807) (hr:l8 b=r0):
    Calls Tryz.prog 33 #[.slice o n0 F] w (cK fun v w'=>v= .int .i64 r0∧Own w D w' []):=by
 subst U
 refine Calls.body (args:= [.slice o b.length F]) Tryz.func33 rfl rfl rfl ?_
 show Wp _ _ _ [(0, .slice o b.length F)] _ _
 refine sr (An rfl (Wp.seq (sr (Mz rfl (Kz (.int .i64 ((b.length:Nat):Int)) (Kz (.bool (decide (((b.length:Nat):Int) < 1))) (Mz rfl ?_)))))))
 by_cases j:((b.length:Nat):Int) < 1
 refine Sz (dT j) (Sz (dT j) (Sz (dT j) (fw (.bool true) (Yl.pickT rfl (dT j) rfl) (Mz rfl (Sz rfl (Sz rfl (Sz rfl (Sz rfl (Sz rfl (fw (.bool true) (Yl.pickT rfl rfl rfl) (nt (jt (sr (An rfl (rt (tR (rs ?_)))))))))))))))))
 have V:Own w D w []:=H.pk []
 obtain rfl:_=170:=hr.symm.trans (ip j)
 exact⟨rfl,V⟩
 refine gw (.slice o b.length F) (dF j) (Yl.move rfl) (Gz (.int .i64 ((b.length:Nat):Int)) (dF j) (Gz (.bool (decide (((b.length:Nat):Int) > 6))) (dF j) (fw (.bool (decide (((b.length:Nat):Int) > 6))) (Yl.pickF rfl (dF j) rfl) (Mz rfl ?_))))
 by_cases g:((b.length:Nat):Int) > 6
 refine Sz (dT g) (Sz (dT g) (Sz (dT g) (Sz (dT g) (Sz (dT g) (fw (.bool true) (Yl.pickT rfl (dT g) rfl) (nt (jt (sr (An rfl (rt (tR (rs ?_))))))))))))
 have X:Own w D w []:=H.pk []
 obtain rfl:_=170:=hr.symm.trans (et (iN j) (ip g))
 exact⟨rfl,X⟩
 refine gw (.slice o b.length F) (dF g) (Yl.move rfl) ?_
 obtain⟨G,m⟩:=eG (ls:=b) (i:=0) aA.len (by decide) (H.ro r) (by first | omega | (simp; done) | (simp; omega))
 refine gw (.pointer (some ⟨ab o,ao o+0 *2,none⟩)) (dF g) (Yl.indexAddr (lV) rfl rfl ((H.ro r).addr (i:=0) (by omega)) (by omega)) (Gz (.pointer (some ⟨ab o,ao o+0 *2,none⟩)) (dF g) (gw (.string ⟨List.toArray G.aD⟩) (dF g) (Yl.load rfl (bu.one Tryz.isAgg9 (((H.ro r).elem aA.len m (by decide)).at_ (k:=0) rfl))) (gw (.bool (decide (G.aD≠([])))) (dF g) (Yl.strNe rfl rfl) (fw (.bool (decide (G.aD≠([])))) (Yl.pickF rfl (dF g) rfl) (nt ?_)))))
 by_cases s:G.aD≠([])
 refine jT (dT s) (sr (An rfl (rt (tR (rs ?_)))))
 have Y:Own w D w []:=H.pk []
 obtain rfl:_=170:=hr.symm.trans (et (iN j) (et (iN g) (et (aa (dA m)) (ip s))))
 exact⟨rfl,Y⟩
 refine jF (dF s) (sk (Wp.seq (sr (Mz rfl (Kz (.int .i64 ((b.length:Nat):Int)) (Mn rfl (bo ?_)))))))
 have Z:Own w D w []:=H.pk []
 obtain⟨M,N⟩:∃ q:Nat→World→Prop,q=fun(i:Nat) w'=>Own w D w' []∧(i≤b.length∧fD b b 0=fD b (List.drop i b) i):=⟨_,rfl⟩
 have x:∀ {a:Nat} {w':World},M a w'↔Own w D w' []∧a≤b.length∧fD b b 0=fD b (List.drop a b) a:=by intros; subst N; exact Iff.rfl
 refine Wp.loop (fun i:Nat=> [(2, .int .i64 0),(22, .int .i64 ((i:Nat):Int)),(21, .int .i64 ((b.length:Nat):Int)),(20, .slice o b.length F),(0, .slice o b.length F)]) M (fun i=>b.length - i) 0 ⟨rfl,rfl,rfl,rfl,rfl,trivial⟩ (x.2 ⟨Z,by omega,rfl⟩) ?_
 rintro a aF O
 show Wp _ _ _ [(2, .int .i64 0),(22, .int .i64 ((a:Nat):Int)),(21, .int .i64 ((b.length:Nat):Int)),(20, .slice o b.length F),(0, .slice o b.length F)] _ _
 obtain⟨A,az,n⟩:=x.1 O
 refine sr (Kz (.bool (decide (((a:Nat):Int) < ((b.length:Nat):Int)))) (nt (Wp.seq ?_)))
 by_cases P:((a:Nat):Int) < ((b.length:Nat):Int)
 obtain⟨c,K⟩:=eG (ls:=b) (i:=a) aA.len (by decide) (A.ro r) (by first | omega | (simp; done) | (simp; omega))
 have p:=drop_at K
 refine jT (dT P) (sk (Wp.seq (bo (sr (Mz rfl (fw (.pointer (some ⟨ab o,ao o+a *2,none⟩)) (Yl.indexAddr (lV) rfl rfl ((A.ro r).addr (i:=a) (by omega)) (by omega)) (fw (.agg (aA.cells c).toArray) (Yl.load rfl (bu.agg (cs:=(aA.cells c)) Tryz.isAgg88 Tryz.sizeOf88 ((A.ro r).elem aA.len K (by decide)))) ?_)))))))
 refine dD [.string ⟨List.toArray ([])⟩, .int .i64 0] 88 A ?_
 intro B aG ae
 refine Az rfl ?_
 refine bz (aA.cells c) 0 ae Tryz.sizeOf88 ?_
 intro af ag
 refine nt (Wp.seq ?_)
 have t:=ag.drew
 refine Wp.drawnX [] (fun W=> ∃ L',Own w D W ([blk B (aA.cells c) 88]++L')) (by kernel_rfl) (by kernel_rfl) (bO.then (bO.block (bO.then (bO.then (bO.block (bO.then bO.base)))))) ⟨_,t⟩ ?_
 revert t
 generalize World.drew af=aH
 intro t
 refine GX.take (v:= .pointer (some ⟨B,1,none⟩)) (rs:= []) 0 rfl (by kernel_rfl) (fun _ _=>yk) (GX.take (v:= .int .i64 c.di) (rs:= []) 1 rfl (by kernel_rfl) (fun _ ⟨_,C⟩=>Yl.load rfl (bu.one Tryz.isAgg3 (fG.of (C.cls (i:=0) rfl) rfl))) (GX.take (v:= .bool (decide (c.di < 1))) (rs:= []) 2 rfl (by kernel_rfl) (fun _ _=>yk) (GX.take (v:= .bool (decide (c.di < 1))) (rs:= []) 3 rfl (by kernel_rfl) (fun _ _=>Yl.move rfl) ?_)))
 by_cases l:c.di < 1
 refine GX.skipG (rs:= []) 4 rfl rfl rfl (dT l) (by kernel_rfl) (GX.skipG (rs:= []) 5 rfl rfl rfl (dT l) (by kernel_rfl) (GX.skipG (rs:= []) 6 rfl rfl rfl (dT l) (by kernel_rfl) (GX.take (v:= .bool true) (rs:= []) 7 rfl (by kernel_rfl) (fun _ _=>Yl.pickT rfl (dT l) rfl) (GX.take (v:= .bool true) (rs:= []) 8 rfl (by kernel_rfl) (fun _ _=>Yl.move rfl) (GX.skipG (rs:= []) 9 rfl rfl rfl rfl (by kernel_rfl) (GX.skipG (rs:= []) 10 rfl rfl rfl rfl (by kernel_rfl) (GX.skipG (rs:= []) 11 rfl rfl rfl rfl (by kernel_rfl) (GX.skipUG (rs:= []) 12 rfl rfl rfl (by kernel_rfl) (GX.skipUG (rs:= []) 13 rfl rfl rfl (by kernel_rfl) (GX.skipUG (rs:= []) 14 rfl rfl rfl (by kernel_rfl) (GX.skipUG (rs:= []) 15 rfl rfl rfl (by kernel_rfl) (GX.skipUG (rs:= []) 16 rfl rfl rfl (by kernel_rfl) (GX.skipUG (rs:= []) 17 rfl rfl rfl (by kernel_rfl) (GX.skipUG (rs:= []) 18 rfl rfl rfl (by kernel_rfl) (GX.skipUG (rs:= []) 19 rfl rfl rfl (by kernel_rfl) (GX.skipUG (rs:= []) 20 rfl rfl rfl (by kernel_rfl) (GX.skipUG (rs:= []) 21 rfl rfl rfl (by kernel_rfl) (GX.skipUG (rs:= []) 22 rfl rfl rfl (by kernel_rfl) (GX.skipUG (rs:= []) 23 rfl rfl rfl (by kernel_rfl) (GX.skipUG (rs:= []) 24 rfl rfl rfl (by kernel_rfl) (GX.skipUG (rs:= []) 25 rfl rfl rfl (by kernel_rfl) (GX.skipUG (rs:= []) 26 rfl rfl rfl (by kernel_rfl) (GX.skipG (rs:= []) 27 rfl rfl rfl rfl (by kernel_rfl) (GX.take (v:= .bool true) (rs:= []) 28 rfl (by kernel_rfl) (fun _ _=>Yl.pickT rfl rfl rfl) (GX.done (by kernel_rfl) (Fin.then (jt (sr (An rfl (rt (bR (tR (tR (bR (tR (rs ?_))))))))))))))))))))))))))))))))))))
 have ah:=t.pk []
 obtain rfl:_=170:=hr.symm.trans (et (iN j) (et (iN g) (et (aa (dA m)) (et (iN s) (iH (et (n) (et (congrArg (fun q=>fD b q a) p) (ip l))))))))
 exact⟨rfl,ah⟩
 refine GX.takeG (v:= .pointer (some ⟨B,1,none⟩)) (rs:= []) 4 rfl rfl rfl (dF l) (by kernel_rfl) (fun _ _=>yk) (GX.takeG (v:= .int .i64 c.di) (rs:= []) 5 rfl rfl rfl (dF l) (by kernel_rfl) (fun _ ⟨_,C⟩=>Yl.load rfl (bu.one Tryz.isAgg3 (fG.of (C.cls (i:=0) rfl) rfl))) (GX.takeG (v:= .bool (decide (c.di > 4))) (rs:= []) 6 rfl rfl rfl (dF l) (by kernel_rfl) (fun _ _=>yk) (GX.take (v:= .bool (decide (c.di > 4))) (rs:= []) 7 rfl (by kernel_rfl) (fun _ _=>Yl.pickF rfl (dF l) rfl) (GX.take (v:= .bool (decide (c.di > 4))) (rs:= []) 8 rfl (by kernel_rfl) (fun _ _=>Yl.move rfl) ?_))))
 by_cases h:c.di > 4
 refine GX.skipG (rs:= []) 9 rfl rfl rfl (dT h) (by kernel_rfl) (GX.skipG (rs:= []) 10 rfl rfl rfl (dT h) (by kernel_rfl) (GX.skipG (rs:= []) 11 rfl rfl rfl (dT h) (by kernel_rfl) (GX.skipUG (rs:= []) 12 rfl rfl rfl (by kernel_rfl) (GX.skipUG (rs:= []) 13 rfl rfl rfl (by kernel_rfl) (GX.skipUG (rs:= []) 14 rfl rfl rfl (by kernel_rfl) (GX.skipUG (rs:= []) 15 rfl rfl rfl (by kernel_rfl) (GX.skipUG (rs:= []) 16 rfl rfl rfl (by kernel_rfl) (GX.skipUG (rs:= []) 17 rfl rfl rfl (by kernel_rfl) (GX.skipUG (rs:= []) 18 rfl rfl rfl (by kernel_rfl) (GX.skipUG (rs:= []) 19 rfl rfl rfl (by kernel_rfl) (GX.skipUG (rs:= []) 20 rfl rfl rfl (by kernel_rfl) (GX.skipUG (rs:= []) 21 rfl rfl rfl (by kernel_rfl) (GX.skipUG (rs:= []) 22 rfl rfl rfl (by kernel_rfl) (GX.skipUG (rs:= []) 23 rfl rfl rfl (by kernel_rfl) (GX.skipUG (rs:= []) 24 rfl rfl rfl (by kernel_rfl) (GX.skipUG (rs:= []) 25 rfl rfl rfl (by kernel_rfl) (GX.skipUG (rs:= []) 26 rfl rfl rfl (by kernel_rfl) (GX.skipG (rs:= []) 27 rfl rfl rfl (dT h) (by kernel_rfl) (GX.take (v:= .bool true) (rs:= []) 28 rfl (by kernel_rfl) (fun _ _=>Yl.pickT rfl (dT h) rfl) (GX.done (by kernel_rfl) (Fin.then (jt (sr (An rfl (rt (bR (tR (tR (bR (tR (rs ?_)))))))))))))))))))))))))))))))
 have ai:=t.pk []
 obtain rfl:_=170:=hr.symm.trans (et (iN j) (et (iN g) (et (aa (dA m)) (et (iN s) (iH (et (n) (et (congrArg (fun q=>fD b q a) p) (et (iN l) (ip h)))))))))
 exact⟨rfl,ai⟩
 refine GX.takeG (v:= .int .i64 ((a:Nat):Int)) (rs:= []) 9 rfl rfl rfl (dF h) (by kernel_rfl) (fun _ _=>Yl.move rfl) (GX.takeG (v:= .bool (decide (((a:Nat):Int) > 0))) (rs:= []) 10 rfl rfl rfl (dF h) (by kernel_rfl) (fun _ _=>yk) (GX.takeG (v:= .bool (decide (((a:Nat):Int) > 0))) (rs:= []) 11 rfl rfl rfl (dF h) (by kernel_rfl) (fun _ _=>Yl.move rfl) ?_))
 by_cases f:((a:Nat):Int) > 0
 refine GX.takeG (v:= .pointer (some ⟨B,0,none⟩)) (rs:= []) 12 rfl rfl rfl (dT f) (by kernel_rfl) (fun _ _=>yk) (GX.takeG (v:= .string ⟨List.toArray c.aD⟩) (rs:= []) 13 rfl rfl rfl (dT f) (by kernel_rfl) (fun _ ⟨_,C⟩=>Yl.load rfl (bu.one Tryz.isAgg9 (fG.of (C.cls (i:=0) rfl) rfl))) ?_)
 obtain⟨z,y⟩:∃ q,gW c.aD=q:=⟨_,rfl⟩
 obtain⟨aI,Q,aB,R,aC⟩:=Own.enter0 t
 refine GX.doG 14 rfl rfl rfl (dT f) (by kernel_rfl) (Do.call Tryz.call74 rfl (jL _ _ c.aD z Q y) ?_)
 rintro _ aJ ⟨rfl,S,L⟩
 have I:=R _ _ S
 replace L: ¬ (z=0)∨(1≤c.aD.length∧c.aD.length≤12):=L
 refine⟨.inr ⟨_,I⟩, ?_⟩
 refine GX.takeG (v:= .bool (decide (¬ (z=0)))) (rs:= []) 15 rfl rfl rfl (dT f) (by kernel_rfl) (fun _ _=>Yl.bool (e:= !(decide (z=0))) yk decide_not.symm) (GX.takeG (v:= .bool (decide (¬ (z=0)))) (rs:= []) 16 rfl rfl rfl (dT f) (by kernel_rfl) (fun _ _=>Yl.move rfl) ?_)
 by_cases d:z=0
 refine GX.takeG (v:= .slice o b.length F) (rs:= []) 17 rfl rfl rfl (dF (not_not_intro d)) (by kernel_rfl) (fun _ _=>Yl.move rfl) (GX.takeG (v:= .int .i64 ((a:Nat):Int)) (rs:= []) 18 rfl rfl rfl (dF (not_not_intro d)) (by kernel_rfl) (fun _ _=>Yl.move rfl) (GX.takeG (v:= .int .i64 ((a - 1:Nat):Int)) (rs:= []) 19 rfl rfl rfl (dF (not_not_intro d)) (by kernel_rfl) (fun _ _=>Yl.int (e:=IntKind.i64.wrap (((a:Nat):Int) - 1)) yk (by rw [IntWalk.i64_in _ (by omega)]; omega)) ?_))
 obtain⟨u,E⟩:=kg (ls:=b) (i:=a - 1) (by first | omega | (simp; done) | (simp; omega))
 refine GX.takeG (v:= .pointer (some ⟨ab o,ao o+(a - 1) *2,none⟩)) (rs:= []) 20 rfl rfl rfl (dF (not_not_intro d)) (by kernel_rfl) (fun _ ⟨_,C⟩=>Yl.indexAddr (lV) rfl rfl ((C.ro r).addr (i:=a - 1) (by omega)) (by omega)) (GX.takeG (v:= .pointer (some ⟨ab o,ao o+(a - 1) *2,none⟩)) (rs:= []) 21 rfl rfl rfl (dF (not_not_intro d)) (by kernel_rfl) (fun _ _=>yk) (GX.takeG (v:= .string ⟨List.toArray u.aD⟩) (rs:= []) 22 rfl rfl rfl (dF (not_not_intro d)) (by kernel_rfl) (fun _ ⟨_,C⟩=>Yl.load rfl (bu.one Tryz.isAgg9 (((C.ro r).elem aA.len E (by decide)).at_ (k:=0) rfl))) (GX.takeG (v:= .pointer (some ⟨B,0,none⟩)) (rs:= []) 23 rfl rfl rfl (dF (not_not_intro d)) (by kernel_rfl) (fun _ _=>yk) (GX.takeG (v:= .string ⟨List.toArray c.aD⟩) (rs:= []) 24 rfl rfl rfl (dF (not_not_intro d)) (by kernel_rfl) (fun _ ⟨_,C⟩=>Yl.load rfl (bu.one Tryz.isAgg9 (fG.of (C.cls (i:=0) rfl) rfl))) (GX.takeG (v:= .bool (decide (c.aD≤u.aD))) (rs:= []) 25 rfl rfl rfl (dF (not_not_intro d)) (by kernel_rfl) (fun _ _=>Yl.bool (e:= !(Op.bytesLess u.aD c.aD)) (Yl.strGe rfl rfl) (uZ _ _)) (GX.takeG (v:= .bool (decide (c.aD≤u.aD))) (rs:= []) 26 rfl rfl rfl (dT f) (by kernel_rfl) (fun _ _=>Yl.pickF rfl (dF (not_not_intro d)) rfl) (GX.takeG (v:= .bool (decide (c.aD≤u.aD))) (rs:= []) 27 rfl rfl rfl (dF h) (by kernel_rfl) (fun _ _=>Yl.pickT rfl (dT f) rfl) (GX.take (v:= .bool (decide (c.aD≤u.aD))) (rs:= []) 28 rfl (by kernel_rfl) (fun _ _=>Yl.pickF rfl (dF h) rfl) (GX.done (by kernel_rfl) (Fin.then ?_))))))))))
 by_cases J:c.aD≤u.aD
 refine jT (dT J) (sr (An rfl (rt (bR (tR (tR (bR (tR (rs ?_)))))))))
 have aj:=I.pk []
 obtain rfl:_=170:=hr.symm.trans (et (iN j) (et (iN g) (et (aa (dA m)) (et (iN s) (iH (et (n) (et (congrArg (fun q=>fD b q a) p) (et (iN l) (et (iN h) (et (ip f) (et (aa y) (et (ip d) (et (aa (dA E)) (ip J))))))))))))))
 exact⟨rfl,aj⟩
 refine jF (dF J) (Wp.skip (bN (Fin.then (Wp.region (fw (.int .i64 ((a+1:Nat):Int)) (Yl.int (e:=IntKind.i64.wrap (((a:Nat):Int)+1)) yk (by rw [IntWalk.i64_in _ (by omega)]; omega)) (Mz rfl (WL.nil ?_)))))))
 have ak:=I.pk []
 exact Fin.round (a+1) ⟨rfl,rfl,rfl,rfl,rfl,trivial⟩ (x.2 ⟨ak,by omega,et (n) (et (congrArg (fun q=>fD b q a) p) (et (iN l) (et (iN h) (et (ip f) (et (aa y) (et (ip d) (et (aa (dA E)) (iN J))))))))⟩) (by show b.length - (a+1) < b.length - a; omega)
 refine GX.skipG (rs:= []) 17 rfl rfl rfl (dT d) (by kernel_rfl) (GX.skipG (rs:= []) 18 rfl rfl rfl (dT d) (by kernel_rfl) (GX.skipG (rs:= []) 19 rfl rfl rfl (dT d) (by kernel_rfl) (GX.skipG (rs:= []) 20 rfl rfl rfl (dT d) (by kernel_rfl) (GX.skipG (rs:= []) 21 rfl rfl rfl (dT d) (by kernel_rfl) (GX.skipG (rs:= []) 22 rfl rfl rfl (dT d) (by kernel_rfl) (GX.skipG (rs:= []) 23 rfl rfl rfl (dT d) (by kernel_rfl) (GX.skipG (rs:= []) 24 rfl rfl rfl (dT d) (by kernel_rfl) (GX.skipG (rs:= []) 25 rfl rfl rfl (dT d) (by kernel_rfl) (GX.takeG (v:= .bool true) (rs:= []) 26 rfl rfl rfl (dT f) (by kernel_rfl) (fun _ _=>Yl.pickT rfl (dT d) rfl) (GX.takeG (v:= .bool true) (rs:= []) 27 rfl rfl rfl (dF h) (by kernel_rfl) (fun _ _=>Yl.pickT rfl (dT f) rfl) (GX.take (v:= .bool true) (rs:= []) 28 rfl (by kernel_rfl) (fun _ _=>Yl.pickF rfl (dF h) rfl) (GX.done (by kernel_rfl) (Fin.then (jt (sr (An rfl (rt (bR (tR (tR (bR (tR (rs ?_)))))))))))))))))))))))
 have au:=I.pk []
 obtain rfl:_=170:=hr.symm.trans (et (iN j) (et (iN g) (et (aa (dA m)) (et (iN s) (iH (et (n) (et (congrArg (fun q=>fD b q a) p) (et (iN l) (et (iN h) (et (ip f) (et (aa y) (iN d))))))))))))
 exact⟨rfl,au⟩
 refine GX.skipG (rs:= []) 12 rfl rfl rfl (dF f) (by kernel_rfl) (GX.skipG (rs:= []) 13 rfl rfl rfl (dF f) (by kernel_rfl) (GX.skipG (rs:= []) 14 rfl rfl rfl (dF f) (by kernel_rfl) (GX.skipG (rs:= []) 15 rfl rfl rfl (dF f) (by kernel_rfl) (GX.skipG (rs:= []) 16 rfl rfl rfl (dF f) (by kernel_rfl) (GX.skipUG (rs:= []) 17 rfl rfl rfl (by kernel_rfl) (GX.skipUG (rs:= []) 18 rfl rfl rfl (by kernel_rfl) (GX.skipUG (rs:= []) 19 rfl rfl rfl (by kernel_rfl) (GX.skipUG (rs:= []) 20 rfl rfl rfl (by kernel_rfl) (GX.skipUG (rs:= []) 21 rfl rfl rfl (by kernel_rfl) (GX.skipUG (rs:= []) 22 rfl rfl rfl (by kernel_rfl) (GX.skipUG (rs:= []) 23 rfl rfl rfl (by kernel_rfl) (GX.skipUG (rs:= []) 24 rfl rfl rfl (by kernel_rfl) (GX.skipUG (rs:= []) 25 rfl rfl rfl (by kernel_rfl) (GX.skipG (rs:= []) 26 rfl rfl rfl (dF f) (by kernel_rfl) (GX.takeG (v:= .bool false) (rs:= []) 27 rfl rfl rfl (dF h) (by kernel_rfl) (fun _ _=>Yl.pickF rfl (dF f) rfl) (GX.take (v:= .bool false) (rs:= []) 28 rfl (by kernel_rfl) (fun _ _=>Yl.pickF rfl (dF h) rfl) (GX.done (by kernel_rfl) (Fin.then (jf (Wp.skip (bN (Fin.then (Wp.region (fw (.int .i64 ((a+1:Nat):Int)) (Yl.int (e:=IntKind.i64.wrap (((a:Nat):Int)+1)) yk (by rw [IntWalk.i64_in _ (by omega)]; omega)) (Mz rfl (WL.nil ?_))))))))))))))))))))))))))
 have av:=t.pk []
 exact Fin.round (a+1) ⟨rfl,rfl,rfl,rfl,rfl,trivial⟩ (x.2 ⟨av,by omega,et (n) (et (congrArg (fun q=>fD b q a) p) (et (iN l) (et (iN h) (iN f))))⟩) (by show b.length - (a+1) < b.length - a; omega)
 refine jF (dF P) (Wp.exit (Fin.thenX ?_))
 have T:fD b b 0=Sum.inl ():=et (n) (et (congrArg (fun q=>fD b q a) (dY (ls:=b) (i:=a) (by omega))) rfl)
 refine Fin.thenX (Fin.blockX (Fin.then (sr (An rfl (rt (rs ?_))))))
 have ax:=A.pk []
 obtain rfl:_=0:=hr.symm.trans (et (iN j) (et (iN g) (et (aa (dA m)) (et (iN s) (kF T)))))
 exact⟨rfl,ax⟩
def dw (a:Int):(List UInt8):=
 if a=1 then [113,98,111] else if a=2 then [113,98,99,115] else if a=3 then [116,108,101,111] else if a=4 then [116,99,115] else if a=5 then [116,102] else bnd (if a=6 then decide (a=6) else decide (a=7)) fun sJrfffffJ=>if sJrfffffJ=true then [116] else if a=8 then [118,101,109,119] else if a=9 then [118] else if a=10 then [118,109,112,102,114] else if a=11 then [109,97,110,114,111] else if a=12 then [109,97,110] else if a=13 then [109] else if a=14 then [109] else []
theorem kv (w:World) (D:Nat→Prop) (a:Int) (A:List UInt8) (H:Own w D w []) (hr:dw a=A):
    Calls Tryz.prog 27 #[.int .i64 a] w (cK fun v w'=>v= .string ⟨List.toArray A⟩∧Own w D w' []∧(A.length≤5)):=by
 refine Calls.body (args:= [.int .i64 a]) Tryz.func27 rfl rfl rfl ?_
 show Wp _ _ _ [(0, .int .i64 a)] _ _
 refine sr (An rfl (Wp.seq (sr (Mn rfl (bo (sr (Kz (.bool (decide (a=1))) (An rfl ?_))))))))
 by_cases b:a=1
 refine jT (dT b) (sr (An rfl (rt (bR (tR (rs ?_))))))
 have B:Own w D w []:=H.pk []
 obtain rfl:_= [113,98,111]:=hr.symm.trans (ip b)
 exact⟨rfl,B,(by exact Nat.le_of_ble_eq_true rfl)⟩
 refine jF (dF b) (sr (Kz (.bool (decide (a=2))) (An rfl ?_)))
 by_cases c:a=2
 refine jT (dT c) (sr (An rfl (rt (bR (tR (rs ?_))))))
 have C:Own w D w []:=H.pk []
 obtain rfl:_= [113,98,99,115]:=hr.symm.trans (et (iN b) (ip c))
 exact⟨rfl,C,(by exact Nat.le_of_ble_eq_true rfl)⟩
 refine jF (dF c) (sr (Kz (.bool (decide (a=3))) (An rfl ?_)))
 by_cases d:a=3
 refine jT (dT d) (sr (An rfl (rt (bR (tR (rs ?_))))))
 have E:Own w D w []:=H.pk []
 obtain rfl:_= [116,108,101,111]:=hr.symm.trans (et (iN b) (et (iN c) (ip d)))
 exact⟨rfl,E,(by exact Nat.le_of_ble_eq_true rfl)⟩
 refine jF (dF d) (sr (Kz (.bool (decide (a=4))) (An rfl ?_)))
 by_cases f:a=4
 refine jT (dT f) (sr (An rfl (rt (bR (tR (rs ?_))))))
 have F:Own w D w []:=H.pk []
 obtain rfl:_= [116,99,115]:=hr.symm.trans (et (iN b) (et (iN c) (et (iN d) (ip f))))
 exact⟨rfl,F,(by exact Nat.le_of_ble_eq_true rfl)⟩
 refine jF (dF f) (sr (Kz (.bool (decide (a=5))) (An rfl ?_)))
 by_cases g:a=5
 refine jT (dT g) (sr (An rfl (rt (bR (tR (rs ?_))))))
 have G:Own w D w []:=H.pk []
 obtain rfl:_= [116,102]:=hr.symm.trans (et (iN b) (et (iN c) (et (iN d) (et (iN f) (ip g)))))
 exact⟨rfl,G,(by exact Nat.le_of_ble_eq_true rfl)⟩
 refine jF (dF g) (Wp.seq (sr (Kz (.bool (decide (a=6))) (An rfl ?_))))
 obtain⟨x,y⟩:∃ q:Bool→World→Prop,q=fun(i:Bool) w'=>Own w D w' []∧((if a=6 then decide (a=6) else decide (a=7))=i):=⟨_,rfl⟩
 have r:∀ {s:Bool} {w':World},x s w'↔Own w D w' []∧(if a=6 then decide (a=6) else decide (a=7))=s:=by intros; subst y; exact Iff.rfl
 refine Wp.joinT (fun i:Bool=> [(14, .bool i),(3, .int .i64 a),(2, .string ⟨List.toArray ([])⟩)]) x ?_ ?_
 by_cases t:a=6
 refine jT (dT t) (Wp.skip ?_)
 have I:Own w D w []:=H.pk []
 exact Fin.join (decide (a=6)) ⟨rfl,rfl,rfl,trivial⟩ (r.2 ⟨I,ip t⟩)
 refine jF (dF t) (Wp.region (Kz (.bool (decide (a=7))) (Az rfl (WL.nil ?_))))
 have J:Own w D w []:=H.pk []
 exact Fin.join (decide (a=7)) ⟨rfl,rfl,rfl,trivial⟩ (r.2 ⟨J,iN t⟩)
 rintro s T z
 show Wp _ _ _ [(14, .bool s),(3, .int .i64 a),(2, .string ⟨List.toArray ([])⟩)] _ _
 obtain⟨k,e⟩:=r.1 z
 rcases Bool.eq_false_or_eq_true (s) with h | h
 refine jT h (sr (An rfl (rt (bR (tR (rs ?_))))))
 have K:=k.pk []
 obtain rfl:_= [116]:=hr.symm.trans (et (iN b) (et (iN c) (et (iN d) (et (iN f) (et (iN g) (et (aa e) (ip h)))))))
 exact⟨rfl,K,(by exact Nat.le_of_ble_eq_true rfl)⟩
 refine jF h (sr (Kz (.bool (decide (a=8))) (An rfl ?_)))
 by_cases j:a=8
 refine jT (dT j) (sr (An rfl (rt (bR (tR (rs ?_))))))
 have L:=k.pk []
 obtain rfl:_= [118,101,109,119]:=hr.symm.trans (et (iN b) (et (iN c) (et (iN d) (et (iN f) (et (iN g) (et (aa e) (et (dn h) (ip j))))))))
 exact⟨rfl,L,(by exact Nat.le_of_ble_eq_true rfl)⟩
 refine jF (dF j) (sr (Kz (.bool (decide (a=9))) (An rfl ?_)))
 by_cases l:a=9
 refine jT (dT l) (sr (An rfl (rt (bR (tR (rs ?_))))))
 have M:=k.pk []
 obtain rfl:_= [118]:=hr.symm.trans (et (iN b) (et (iN c) (et (iN d) (et (iN f) (et (iN g) (et (aa e) (et (dn h) (et (iN j) (ip l)))))))))
 exact⟨rfl,M,(by exact Nat.le_of_ble_eq_true rfl)⟩
 refine jF (dF l) (sr (Kz (.bool (decide (a=10))) (An rfl ?_)))
 by_cases m:a=10
 refine jT (dT m) (sr (An rfl (rt (bR (tR (rs ?_))))))
 have N:=k.pk []
 obtain rfl:_= [118,109,112,102,114]:=hr.symm.trans (et (iN b) (et (iN c) (et (iN d) (et (iN f) (et (iN g) (et (aa e) (et (dn h) (et (iN j) (et (iN l) (ip m))))))))))
 exact⟨rfl,N,(by exact Nat.le_of_ble_eq_true rfl)⟩
 refine jF (dF m) (sr (Kz (.bool (decide (a=11))) (An rfl ?_)))
 by_cases n:a=11
 refine jT (dT n) (sr (An rfl (rt (bR (tR (rs ?_))))))
 have O:=k.pk []
 obtain rfl:_= [109,97,110,114,111]:=hr.symm.trans (et (iN b) (et (iN c) (et (iN d) (et (iN f) (et (iN g) (et (aa e) (et (dn h) (et (iN j) (et (iN l) (et (iN m) (ip n)))))))))))
 exact⟨rfl,O,(by exact Nat.le_of_ble_eq_true rfl)⟩
 refine jF (dF n) (sr (Kz (.bool (decide (a=12))) (An rfl ?_)))
 by_cases o:a=12
 refine jT (dT o) (sr (An rfl (rt (bR (tR (rs ?_))))))
 have P:=k.pk []
 obtain rfl:_= [109,97,110]:=hr.symm.trans (et (iN b) (et (iN c) (et (iN d) (et (iN f) (et (iN g) (et (aa e) (et (dn h) (et (iN j) (et (iN l) (et (iN m) (et (iN n) (ip o))))))))))))
 exact⟨rfl,P,(by exact Nat.le_of_ble_eq_true rfl)⟩
 refine jF (dF o) (Wp.seq (sr (Kz (.bool (decide (a=13))) (An rfl ?_))))
 by_cases p:a=13
 refine jT (dT p) (sk (jT (dT p) (sr (An rfl (rt (bR (tR (rs ?_))))))))
 have Q:=k.pk []
 obtain rfl:_= [109]:=hr.symm.trans (et (iN b) (et (iN c) (et (iN d) (et (iN f) (et (iN g) (et (aa e) (et (dn h) (et (iN j) (et (iN l) (et (iN m) (et (iN n) (et (iN o) (ip p)))))))))))))
 exact⟨rfl,Q,(by exact Nat.le_of_ble_eq_true rfl)⟩
 refine jF (dF p) (Wp.region (Kz (.bool (decide (a=14))) (An rfl ?_)))
 by_cases u:a=14
 refine jT (dT u) (sr (An rfl (rt (bR (tR (rs ?_))))))
 have R:=k.pk []
 obtain rfl:_= [109]:=hr.symm.trans (et (iN b) (et (iN c) (et (iN d) (et (iN f) (et (iN g) (et (aa e) (et (dn h) (et (iN j) (et (iN l) (et (iN m) (et (iN n) (et (iN o) (et (iN p) (ip u))))))))))))))
 exact⟨rfl,R,(by exact Nat.le_of_ble_eq_true rfl)⟩
 refine jF (dF u) (Wp.skip (bN (Fin.then (sr (An rfl (rt (rs ?_)))))))
 have S:=k.pk []
 obtain rfl:_= []:=hr.symm.trans (et (iN b) (et (iN c) (et (iN d) (et (iN f) (et (iN g) (et (aa e) (et (dn h) (et (iN j) (et (iN l) (et (iN m) (et (iN n) (et (iN o) (et (iN p) (iN u))))))))))))))
 exact⟨rfl,S,(by exact Nat.le_of_ble_eq_true rfl)⟩
def kr (a:Int):Bool:=
 if a ≥ 11 then decide (a≤14) else false
theorem ow (w:World) (D:Nat→Prop) (b:Int) (e:Bool) (H:Own w D w []) (hr:kr b=e):
    Calls Tryz.prog 72 #[.int .i64 b] w (cK fun v w'=>v= .bool e∧Own w D w' []):=by
 refine Calls.body (args:= [.int .i64 b]) Tryz.func72 rfl rfl rfl ?_
 show Wp _ _ _ [(0, .int .i64 b)] _ _
 refine sr (Ar rfl (Mz rfl (Kz (.bool (decide (b ≥ 11))) (Mz rfl ?_))))
 by_cases a:b ≥ 11
 refine gw (.int .i64 b) (dT a) (Yl.move rfl) (Gz (.bool (decide (b≤14))) (dT a) (fw (.bool (decide (b≤14))) (Yl.pickT rfl (dT a) rfl) (An rfl (rt (rs ?_)))))
 have c:Own w D w []:=H.pk []
 obtain rfl:_=decide (b≤14):=hr.symm.trans (ip a)
 exact⟨rfl,c⟩
 refine Sz (dF a) (Sz (dF a) (fw (.bool false) (Yl.pickF rfl (dF a) rfl) (An rfl (rt (rs ?_)))))
 have d:Own w D w []:=H.pk []
 obtain rfl:_=false:=hr.symm.trans (iN a)
 exact⟨rfl,d⟩
def iM (a:Int):Bool:=
 if a ≥ 1 then decide (a≤4) else false
theorem kL (w:World) (D:Nat→Prop) (b:Int) (e:Bool) (H:Own w D w []) (hr:iM b=e):
    Calls Tryz.prog 34 #[.int .i64 b] w (cK fun v w'=>v= .bool e∧Own w D w' []):=by
 refine Calls.body (args:= [.int .i64 b]) Tryz.func34 rfl rfl rfl ?_
 show Wp _ _ _ [(0, .int .i64 b)] _ _
 refine sr (Ar rfl (Mz rfl (Kz (.bool (decide (b ≥ 1))) (Mz rfl ?_))))
 by_cases a:b ≥ 1
 refine gw (.int .i64 b) (dT a) (Yl.move rfl) (Gz (.bool (decide (b≤4))) (dT a) (fw (.bool (decide (b≤4))) (Yl.pickT rfl (dT a) rfl) (An rfl (rt (rs ?_)))))
 have c:Own w D w []:=H.pk []
 obtain rfl:_=decide (b≤4):=hr.symm.trans (ip a)
 exact⟨rfl,c⟩
 refine Sz (dF a) (Sz (dF a) (fw (.bool false) (Yl.pickF rfl (dF a) rfl) (An rfl (rt (rs ?_)))))
 have d:Own w D w []:=H.pk []
 obtain rfl:_=false:=hr.symm.trans (iN a)
 exact⟨rfl,d⟩
def gQ (a:bG):Bool:=
 if a.ae=1 then bnd (kr a.bn) fun d=>if d=true then decide (a.dm=0) else false else if a.ae=2 then if a.bn=0 then bnd (kr a.dm) fun e=>e else false else bnd (if a.ae=3 then decide (a.ae=3) else if a.ae=5 then decide (a.ae=5) else if a.ae=8 then decide (a.ae=8) else decide (a.ae=10)) fun sJrffJ=>if sJrffJ=true then if a.bn=0 then bnd (iM a.dm) fun f=>f else false else bnd (if a.ae=11 then decide (a.ae=11) else decide (a.ae=12)) fun sJrffJafJ=>if sJrffJafJ=true then bnd (iM a.bn) fun g=>if g=true then bnd (iM a.dm) fun b=>if b=true then decide (¬ (a.bn=a.dm)) else false else false else bnd (iM a.bn) fun c=>if c=true then decide (a.dm=0) else false
theorem rT (w:World) (D:Nat→Prop) (a:bG) (h:Option Addr) (Y j:Nat) (k:Option Addr) (Z l:Nat) (M:List ag) (m:Option Addr) (ae n:Nat) (r0:Bool) (H:Own w D w []) (aj:Y=a.az.ls.length) (bE:Ro w D fun w'=>bD w' 6 h a.az.ls.length (List.flatMap aB.cells a.az.ls)) (bF:a.az.ls.length≤j∧a.az.ls.length≤9223372036854775807) (ak:List.map ag.abs M=a.ai.ls) (au:Z=a.ai.ls.length) (bH:Ro w D fun w'=>bD w' 3 k a.ai.ls.length (List.flatMap ag.cells M)) (bI:a.ai.ls.length≤l∧a.ai.ls.length≤9223372036854775807) (bJ:∀ x ∈ M,Ro w D (fun w'=>bD w' 2 x.ay.A x.ay.ls.length (List.flatMap aW.cells x.ay.ls))∧(x.ay.ls.length≤x.ay.c∧x.ay.ls.length≤9223372036854775807)) (av:ae=a.aj.ls.length) (bK:Ro w D fun w'=>bD w' 2 m a.aj.ls.length (List.flatMap aA.cells a.aj.ls)) (bL:a.aj.ls.length≤n∧a.aj.ls.length≤9223372036854775807) (hr:gQ a=r0):
    Calls Tryz.prog 28 #[.agg (bf a.ae a.bn a.dm a.aO a.bq a.bM a.bF a.aY a.bE a.bH a.bL a.aS a.bB a.aK a.xN a.bV a.aG.aD a.aG.aI h Y j k Z l m ae n).toArray] w (cK fun v w'=>v= .bool r0∧Own w D w' []):=by
 subst aj au av
 have hdl0x1:=dM ak
 refine Calls.body (args:= [.agg (aV a h j k l m n).toArray]) Tryz.func28 rfl rfl rfl ?_
 show Wp _ _ _ [(0, .agg (aV a h j k l m n).toArray)] _ _
 refine sr ?_
 refine dD (aV a h j k l m n) 29 H ?_
 intro d dK p
 refine An rfl (Wp.seq (sr (Kz (.pointer (some ⟨d,0,none⟩)) (Lz (.int .i64 a.ae) p 0 Tryz.isAgg3 (nt (bo (sr (Kz (.bool (decide (a.ae=1))) (An rfl ?_)))))))))
 by_cases o:a.ae=1
 refine jT (dT o) (sr (Kz (.pointer (some ⟨d,1,none⟩)) (Lz (.int .i64 a.bn) p 0 Tryz.isAgg3 ?_)))
 obtain⟨aK,N⟩:∃ q,kr a.bn=q:=⟨_,rfl⟩
 obtain⟨dL,aL,di,aM,dm⟩:=Own.enter0 p
 refine cl Tryz.call72 (ow _ _ a.bn aK aL N) ?_
 rintro _ dN ⟨rfl,aN⟩
 have ax:=aM _ _ aN
 refine Mz rfl ?_
 rcases Bool.eq_false_or_eq_true (aK) with r | r
 refine Gz (.pointer (some ⟨d,2,none⟩)) r (Gl (.int .i64 a.dm) r ax 0 Tryz.isAgg3 (Gz (.bool (decide (a.dm=0))) r (fw (.bool (decide (a.dm=0))) (Yl.pickT rfl r rfl) (An rfl (rt (bR (tR (rs ?_))))))))
 have bM:=ax.pk []
 obtain rfl:_=decide (a.dm=0):=hr.symm.trans (et (ip o) (et (aa N) (ip r)))
 exact⟨rfl,bM⟩
 refine Sz r (Sz r (Sz r (fw (.bool false) (Yl.pickF rfl r rfl) (An rfl (rt (bR (tR (rs ?_))))))))
 have bO:=ax.pk []
 obtain rfl:_=false:=hr.symm.trans (et (ip o) (et (aa N) (dn r)))
 exact⟨rfl,bO⟩
 refine jF (dF o) (sr (Kz (.bool (decide (a.ae=2))) (An rfl ?_)))
 by_cases s:a.ae=2
 refine jT (dT s) (sr (Kz (.pointer (some ⟨d,1,none⟩)) (Lz (.int .i64 a.bn) p 0 Tryz.isAgg3 (Kz (.bool (decide (a.bn=0))) (Mz rfl ?_)))))
 by_cases u:a.bn=0
 refine Gz (.pointer (some ⟨d,2,none⟩)) (dT u) (Gl (.int .i64 a.dm) (dT u) p 0 Tryz.isAgg3 ?_)
 obtain⟨ay,af⟩:∃ q,kr a.dm=q:=⟨_,rfl⟩
 obtain⟨dO,aO,dw,aP,dx⟩:=Own.enter0 p
 refine jI (dT u) Tryz.call72 (ow _ _ a.dm ay aO af) ?_
 rintro _ dP ⟨rfl,aQ⟩
 have bP:=aP _ _ aQ
 refine fw (.bool ay) (Yl.pickT rfl (dT u) rfl) (An rfl (rt (bR (tR (rs ?_)))))
 have bQ:=bP.pk []
 obtain rfl:_=ay:=hr.symm.trans (et (iN o) (et (ip s) (et (ip u) (aa af))))
 exact⟨rfl,bQ⟩
 refine Sz (dF u) (Sz (dF u) (Sz (dF u) (fw (.bool false) (Yl.pickF rfl (dF u) rfl) (An rfl (rt (bR (tR (rs ?_))))))))
 have bS:=p.pk []
 obtain rfl:_=false:=hr.symm.trans (et (iN o) (et (ip s) (iN u)))
 exact⟨rfl,bS⟩
 refine jF (dF s) (Wp.seq (sr (Kz (.bool (decide (a.ae=3))) (An rfl ?_))))
 obtain⟨aR,aS⟩:∃ q:Bool→World→Prop,q=fun(i:Bool) w'=>Own w D w' [blk d (aV a h j k l m n) 29]∧((if a.ae=3 then decide (a.ae=3) else if a.ae=5 then decide (a.ae=5) else if a.ae=8 then decide (a.ae=8) else decide (a.ae=10))=i):=⟨_,rfl⟩
 have B:∀ {O:Bool} {w':World},aR O w'↔Own w D w' [blk d (aV a h j k l m n) 29]∧(if a.ae=3 then decide (a.ae=3) else if a.ae=5 then decide (a.ae=5) else if a.ae=8 then decide (a.ae=8) else decide (a.ae=10))=O:=by intros; subst aS; exact Iff.rfl
 refine Wp.joinT (fun i:Bool=> [(25, .bool i),(4, .int .i64 a.ae),(2, .bool false),(1, .pointer (some ⟨d,0,none⟩))]) aR ?_ ?_
 by_cases K:a.ae=3
 refine jT (dT K) (Wp.skip ?_)
 have bT:=p.pk [0]
 exact Fin.join (decide (a.ae=3)) ⟨rfl,rfl,rfl,rfl,trivial⟩ (B.2 ⟨bT,ip K⟩)
 refine jF (dF K) (sr (Kz (.bool (decide (a.ae=5))) (An rfl ?_)))
 by_cases P:a.ae=5
 refine jT (dT P) (Wp.skip ?_)
 have bU:=p.pk [0]
 exact Fin.join (decide (a.ae=5)) ⟨rfl,rfl,rfl,rfl,trivial⟩ (B.2 ⟨bU,et (iN K) (ip P)⟩)
 refine jF (dF P) (sr (Kz (.bool (decide (a.ae=8))) (An rfl ?_)))
 by_cases V:a.ae=8
 refine jT (dT V) (Wp.skip ?_)
 have bV:=p.pk [0]
 exact Fin.join (decide (a.ae=8)) ⟨rfl,rfl,rfl,rfl,trivial⟩ (B.2 ⟨bV,et (iN K) (et (iN P) (ip V))⟩)
 refine jF (dF V) (Wp.region (Kz (.bool (decide (a.ae=10))) (Az rfl (WL.nil ?_))))
 have bW:=p.pk [0]
 exact Fin.join (decide (a.ae=10)) ⟨rfl,rfl,rfl,rfl,trivial⟩ (B.2 ⟨bW,et (iN K) (et (iN P) (iN V))⟩)
 rintro O dQ aT
 show Wp _ _ _ [(25, .bool O),(4, .int .i64 a.ae),(2, .bool false),(1, .pointer (some ⟨d,0,none⟩))] _ _
 obtain⟨L,t⟩:=B.1 aT
 rcases Bool.eq_false_or_eq_true (O) with y | y
 refine jT y (sr (Kz (.pointer (some ⟨d,1,none⟩)) (Lz (.int .i64 a.bn) L 0 Tryz.isAgg3 (Kz (.bool (decide (a.bn=0))) (Mz rfl ?_)))))
 by_cases z:a.bn=0
 refine Gz (.pointer (some ⟨d,2,none⟩)) (dT z) (Gl (.int .i64 a.dm) (dT z) L 0 Tryz.isAgg3 ?_)
 obtain⟨az,ah⟩:∃ q,iM a.dm=q:=⟨_,rfl⟩
 obtain⟨dR,aU,dz,aX,dA⟩:=Own.enter0 L
 refine jI (dT z) Tryz.call34 (kL _ _ a.dm az aU ah) ?_
 rintro _ dS ⟨rfl,aY⟩
 have bX:=aX _ _ aY
 refine fw (.bool az) (Yl.pickT rfl (dT z) rfl) (An rfl (rt (bR (tR (rs ?_)))))
 have bY:=bX.pk []
 obtain rfl:_=az:=hr.symm.trans (et (iN o) (et (iN s) (et (aa t) (et (ip y) (et (ip z) (aa ah))))))
 exact⟨rfl,bY⟩
 refine Sz (dF z) (Sz (dF z) (Sz (dF z) (fw (.bool false) (Yl.pickF rfl (dF z) rfl) (An rfl (rt (bR (tR (rs ?_))))))))
 have bZ:=L.pk []
 obtain rfl:_=false:=hr.symm.trans (et (iN o) (et (iN s) (et (aa t) (et (ip y) (iN z)))))
 exact⟨rfl,bZ⟩
 refine jF y (Wp.seq (sr (Kz (.bool (decide (a.ae=11))) (An rfl ?_))))
 obtain⟨aZ,bg⟩:∃ q:Bool→World→Prop,q=fun(i:Bool) w'=>Own w D w' [blk d (aV a h j k l m n) 29]∧((if a.ae=11 then decide (a.ae=11) else decide (a.ae=12))=i):=⟨_,rfl⟩
 have Q:∀ {R:Bool} {w':World},aZ R w'↔Own w D w' [blk d (aV a h j k l m n) 29]∧(if a.ae=11 then decide (a.ae=11) else decide (a.ae=12))=R:=by intros; subst bg; exact Iff.rfl
 refine Wp.joinT (fun i:Bool=> [(38, .bool i),(2, .bool false),(1, .pointer (some ⟨d,0,none⟩))]) aZ ?_ ?_
 by_cases W:a.ae=11
 refine jT (dT W) (Wp.skip ?_)
 have cu:=L.pk [0]
 exact Fin.join (decide (a.ae=11)) ⟨rfl,rfl,rfl,trivial⟩ (Q.2 ⟨cu,ip W⟩)
 refine jF (dF W) (Wp.region (Kz (.bool (decide (a.ae=12))) (Az rfl (WL.nil ?_))))
 have cz:=L.pk [0]
 exact Fin.join (decide (a.ae=12)) ⟨rfl,rfl,rfl,trivial⟩ (Q.2 ⟨cz,iN W⟩)
 rintro R dU bi
 show Wp _ _ _ [(38, .bool R),(2, .bool false),(1, .pointer (some ⟨d,0,none⟩))] _ _
 obtain⟨X,C⟩:=Q.1 bi
 rcases Bool.eq_false_or_eq_true (R) with E | E
 refine jT E (sr (Kz (.pointer (some ⟨d,1,none⟩)) (Lz (.int .i64 a.bn) X 0 Tryz.isAgg3 ?_)))
 obtain⟨bn,I⟩:∃ q,iM a.bn=q:=⟨_,rfl⟩
 obtain⟨dV,bq,dB,bu,dC⟩:=Own.enter0 X
 refine cl Tryz.call34 (kL _ _ a.bn bn bq I) ?_
 rintro _ dE ⟨rfl,aC⟩
 have S:=bu _ _ aC
 refine Mz rfl ?_
 rcases Bool.eq_false_or_eq_true (bn) with f | f
 refine Gz (.pointer (some ⟨d,2,none⟩)) f (Gl (.int .i64 a.dm) f S 0 Tryz.isAgg3 ?_)
 obtain⟨T,F⟩:∃ q,iM a.dm=q:=⟨_,rfl⟩
 obtain⟨dG,aD,cB,aF,cO⟩:=Own.enter0 S
 refine WL.doG rfl rfl f rfl (Do.call Tryz.call34 rfl (kL _ _ a.dm T aD F) ?_)
 rintro _ dH ⟨rfl,aG⟩
 have J:=aF _ _ aG
 refine fw (.bool T) (Yl.pickT rfl f rfl) (Mz rfl ?_)
 rcases Bool.eq_false_or_eq_true (T) with b | b
 refine Gz (.pointer (some ⟨d,1,none⟩)) b (Gl (.int .i64 a.bn) b J 0 Tryz.isAgg3 (Gz (.pointer (some ⟨d,2,none⟩)) b (Gl (.int .i64 a.dm) b J 0 Tryz.isAgg3 (WL.valG (v:= .bool (decide (¬ (a.bn=a.dm)))) rfl rfl b rfl (Yl.bool (e:= !(decide (a.bn=a.dm))) yk decide_not.symm) (fw (.bool (decide (¬ (a.bn=a.dm)))) (Yl.pickT rfl b rfl) (An rfl (rt (bR (tR (rs ?_))))))))))
 have bv:=J.pk []
 obtain rfl:_=decide (¬ (a.bn=a.dm)):=hr.symm.trans (et (iN o) (et (iN s) (et (aa t) (et (dn y) (et (aa C) (et (ip E) (et (aa I) (et (ip f) (et (aa F) (ip b))))))))))
 exact⟨rfl,bv⟩
 refine Sz b (Sz b (Sz b (Sz b (Sz b (fw (.bool false) (Yl.pickF rfl b rfl) (An rfl (rt (bR (tR (rs ?_))))))))))
 have bz:=J.pk []
 obtain rfl:_=false:=hr.symm.trans (et (iN o) (et (iN s) (et (aa t) (et (dn y) (et (aa C) (et (ip E) (et (aa I) (et (ip f) (et (aa F) (dn b))))))))))
 exact⟨rfl,bz⟩
 refine Sz f (Sz f (Sz f (fw (.bool false) (Yl.pickF rfl f rfl) (Mz rfl (Sz rfl (Sz rfl (Sz rfl (Sz rfl (Sz rfl (fw (.bool false) (Yl.pickF rfl rfl rfl) (An rfl (rt (bR (tR (rs ?_)))))))))))))))
 have bA:=S.pk []
 obtain rfl:_=false:=hr.symm.trans (et (iN o) (et (iN s) (et (aa t) (et (dn y) (et (aa C) (et (ip E) (et (aa I) (dn f))))))))
 exact⟨rfl,bA⟩
 refine jF E (Wp.skip (bN (Fin.then (sr (Kz (.pointer (some ⟨d,1,none⟩)) (Lz (.int .i64 a.bn) X 0 Tryz.isAgg3 ?_))))))
 obtain⟨ai,G⟩:∃ q,iM a.bn=q:=⟨_,rfl⟩
 obtain⟨dI,aH,cZ,aI,df⟩:=Own.enter0 X
 refine cl Tryz.call34 (kL _ _ a.bn ai aH G) ?_
 rintro _ dJ ⟨rfl,aJ⟩
 have U:=aI _ _ aJ
 refine Mz rfl ?_
 rcases Bool.eq_false_or_eq_true (ai) with g | g
 refine Gz (.pointer (some ⟨d,2,none⟩)) g (Gl (.int .i64 a.dm) g U 0 Tryz.isAgg3 (Gz (.bool (decide (a.dm=0))) g (fw (.bool (decide (a.dm=0))) (Yl.pickT rfl g rfl) (An rfl (rt (rs ?_))))))
 have bB:=U.pk []
 obtain rfl:_=decide (a.dm=0):=hr.symm.trans (et (iN o) (et (iN s) (et (aa t) (et (dn y) (et (aa C) (et (dn E) (et (aa G) (ip g))))))))
 exact⟨rfl,bB⟩
 refine Sz g (Sz g (Sz g (fw (.bool false) (Yl.pickF rfl g rfl) (An rfl (rt (rs ?_))))))
 have bC:=U.pk []
 obtain rfl:_=false:=hr.symm.trans (et (iN o) (et (iN s) (et (aa t) (et (dn y) (et (aa C) (et (dn E) (et (aa G) (dn g))))))))
 exact⟨rfl,bC⟩
def jh (c:UInt8):List UInt8→Unit ⊕ Bool
  | []=>Sum.inl ()
  | a::b=>if((a.toNat:Nat):Int)=((c.toNat:Nat):Int) then Sum.inr (true) else jh c b
def ak (b:Int) (c:UInt8):Bool:=
 bnd (dw b) fun a=>lp (jh c a) fun _=>false
theorem gL (w:World) (D:Nat→Prop) (o:Int) (c:UInt8) (G:Bool) (H:Own w D w []) (hr:ak o c=G):
    Calls Tryz.prog 73 #[.int .i64 o, .int .u8 ((c.toNat:Nat):Int)] w (cK fun v w'=>v= .bool G∧Own w D w' []):=by
 refine Calls.body (args:= [.int .i64 o, .int .u8 ((c.toNat:Nat):Int)]) Tryz.func73 rfl rfl rfl ?_
 show Wp _ _ _ [(0, .int .i64 o),(1, .int .u8 ((c.toNat:Nat):Int))] _ _
 refine sr (Ar rfl (Mz rfl ?_))
 obtain⟨a,d⟩:∃ q,dw o=q:=⟨_,rfl⟩
 obtain⟨L,p,I,r,J⟩:=Own.enter0 H
 refine cl Tryz.call27 (kv _ _ o a p d) ?_
 rintro _ M ⟨rfl,s,j⟩
 have A:=r _ _ s
 replace j:a.length≤5:=j
 refine An rfl (Wp.seq (sr (An rfl (bo ?_))))
 have B:=A.pk []
 obtain⟨t,u⟩:∃ q:Nat→World→Prop,q=fun(i:Nat) w'=>Own w D w' []∧(i≤a.length∧jh c a=jh c (List.drop i a)):=⟨_,rfl⟩
 have f:∀ {b:Nat} {w':World},t b w'↔Own w D w' []∧b≤a.length∧jh c a=jh c (List.drop b a):=by intros; subst u; exact Iff.rfl
 refine Wp.loop (fun i:Nat=> [(4, .bool false),(6, .int .i64 ((i:Nat):Int)),(5, .string ⟨List.toArray a⟩),(1, .int .u8 ((c.toNat:Nat):Int))]) t (fun i=>a.length - i) 0 ⟨rfl,rfl,rfl,rfl,trivial⟩ (f.2 ⟨B,by omega,rfl⟩) ?_
 rintro b N x
 show Wp _ _ _ [(4, .bool false),(6, .int .i64 ((b:Nat):Int)),(5, .string ⟨List.toArray a⟩),(1, .int .u8 ((c.toNat:Nat):Int))] _ _
 obtain⟨m,K,g⟩:=f.1 x
 refine Wp.seq (sr (Mz rfl (Mz rfl (Kz (.int .i64 ((a.length:Nat):Int)) (Kz (.bool (decide (((b:Nat):Int) < ((a.length:Nat):Int)))) (nt ?_))))))
 by_cases y:((b:Nat):Int) < ((a.length:Nat):Int)
 obtain⟨n,k⟩:=kg (ls:=a) (i:=b) (by omega)
 have l:=drop_at k
 refine jT (dT y) (sk (Wp.seq (bo (sr (Mz rfl (Mz rfl (fw (.int .u8 ((n.toNat:Nat):Int)) (Yl.strIndex Tryz.underlying9 rfl rfl k) (Mz rfl (Kz (.bool (decide (((n.toNat:Nat):Int)=((c.toNat:Nat):Int)))) (nt ?_))))))))))
 by_cases h:((n.toNat:Nat):Int)=((c.toNat:Nat):Int)
 refine jT (dT h) (sr (An rfl (rt (bR (tR (tR (bR (tR (rs ?_)))))))))
 have C:=m.pk []
 obtain rfl:_=true:=hr.symm.trans (et (aa d) (iH (et (g) (et (congrArg (fun q=>jh c q) l) (ip h)))))
 exact⟨rfl,C⟩
 refine jF (dF h) (Wp.skip (bN (Fin.then (Wp.region (Mz rfl (fw (.int .i64 ((b+1:Nat):Int)) (Yl.int (e:=IntKind.i64.wrap (((b:Nat):Int)+1)) yk (by rw [IntWalk.i64_in _ (by omega)]; omega)) (Az rfl (WL.nil ?_))))))))
 have E:=m.pk []
 exact Fin.round (b+1) ⟨rfl,rfl,rfl,rfl,trivial⟩ (f.2 ⟨E,by omega,et (g) (et (congrArg (fun q=>jh c q) l) (iN h))⟩) (by show a.length - (b+1) < a.length - b; omega)
 refine jF (dF y) (Wp.exit (Fin.thenX ?_))
 have z:jh c a=Sum.inl ():=et (g) (et (congrArg (fun q=>jh c q) (dY (ls:=a) (i:=b) (by omega))) rfl)
 refine Fin.thenX (Fin.blockX (Fin.then (sr (An rfl (rt (rs ?_))))))
 have F:=m.pk []
 obtain rfl:_=false:=hr.symm.trans (et (aa d) (kF z))
 exact⟨rfl,F⟩
def mQ (a:bG):Bool:=
 bnd (ak a.ae (113:UInt8)) fun n=>bnd (if n=true then false else decide (¬ (((a.bF:Nat):Int)=0))) fun sJrbR=>if sJrbR=true then false else bnd (ak a.ae (98:UInt8)) fun o=>bnd (if o=true then false else decide (¬ (((a.aY:Nat):Int)=0))) fun sJrbRafbR=>if sJrbRafbR=true then false else bnd (ak a.ae (116:UInt8)) fun p=>bnd (if p=true then false else decide (¬ (((a.bE:Nat):Int)=0))) fun sJrbRafbRafbR=>if sJrbRafbRafbR=true then false else bnd (ak a.ae (108:UInt8)) fun q=>bnd (if q=true then false else decide (¬ (((a.bH:Nat):Int)=0))) fun sJrbRafbRafbRafbR=>if sJrbRafbRafbRafbR=true then false else bnd (ak a.ae (118:UInt8)) fun b=>bnd (if b=true then false else decide (¬ (((a.bL:Nat):Int)=0))) fun sJrbRafbRafbRafbRafbR=>if sJrbRafbRafbRafbRafbR=true then false else bnd (ak a.ae (101:UInt8)) fun c=>bnd (if c=true then false else decide (¬ (((a.aS:Nat):Int)=0))) fun sJrbRafbRafbRafbRafbRafbR=>if sJrbRafbRafbRafbRafbRafbR=true then false else bnd (ak a.ae (109:UInt8)) fun d=>bnd (if d=true then false else decide (¬ (((a.bB:Nat):Int)=0))) fun sJrbRafbRafbRafbRafbRafbRafbR=>if sJrbRafbRafbRafbRafbRafbRafbR=true then false else bnd (ak a.ae (97:UInt8)) fun e=>bnd (if e=true then false else decide (¬ (((a.aK:Nat):Int)=0))) fun sJrbRafbRafbRafbRafbRafbRafbRafbR=>if sJrbRafbRafbRafbRafbRafbRafbRafbR=true then false else bnd (ak a.ae (110:UInt8)) fun f=>bnd (if f=true then false else decide (¬ (((a.xN:Nat):Int)=0))) fun sJrbRafbRafbRafbRafbRafbRafbRafbRafbR=>if sJrbRafbRafbRafbRafbRafbRafbRafbRafbR=true then false else bnd (if a.aO=0 then bnd (ak a.ae (99:UInt8)) fun g=>if g=true then true else decide (a.bq=0) else false) fun sJrbRafbRafbRafbRafbRafbRafbRafbRafbRafR=>bnd (if sJrbRafbRafbRafbRafbRafbRafbRafbRafbRafR=true then bnd (ak a.ae (112:UInt8)) fun h=>if h=true then true else decide (a.bM=0) else false) fun sJrbRafbRafbRafbRafbRafbRafbRafbRafbRafRaR=>bnd (if sJrbRafbRafbRafbRafbRafbRafbRafbRafbRafRaR=true then bnd (ak a.ae (102:UInt8)) fun i=>if i=true then true else !a.bV else false) fun sJrbRafbRafbRafbRafbRafbRafbRafbRafbRafRaRaR=>bnd (if sJrbRafbRafbRafbRafbRafbRafbRafbRafbRafRaRaR=true then bnd (ak a.ae (114:UInt8)) fun j=>if j=true then true else decide ((a.aG.aD=([]))∧(a.aG.aI=([]))) else false) fun sJrbRafbRafbRafbRafbRafbRafbRafbRafbRafRaRaRaR=>bnd (if sJrbRafbRafbRafbRafbRafbRafbRafbRafbRafRaRaRaR=true then bnd (ak a.ae (111:UInt8)) fun k=>if k=true then true else decide (((a.az.ls.length:Nat):Int)=0) else false) fun sJrbRafbRafbRafbRafbRafbRafbRafbRafbRafRaRaRaRaR=>bnd (if sJrbRafbRafbRafbRafbRafbRafbRafbRafbRafRaRaRaRaR=true then bnd (ak a.ae (115:UInt8)) fun l=>if l=true then true else decide (((a.ai.ls.length:Nat):Int)=0) else false) fun sJrbRafbRafbRafbRafbRafbRafbRafbRafbRafRaRaRaRaRaR=>bnd (if sJrbRafbRafbRafbRafbRafbRafbRafbRafbRafRaRaRaRaRaR=true then bnd (ak a.ae (119:UInt8)) fun m=>if m=true then true else decide (((a.aj.ls.length:Nat):Int)=0) else false) fun sJrbRafbRafbRafbRafbRafbRafbRafbRafbRafRaRaRaRaRaRaR=>sJrbRafbRafbRafbRafbRafbRafbRafbRafbRafRaRaRaRaRaRaR
set_option maxHeartbeats 2000000 in
theorem sF (w:World) (D:Nat→Prop) (a:bG) (h:Option Addr) (fG j:Nat) (l:Option Addr) (fH m:Nat) (dB:List ag) (n:Option Addr) (fI o:Nat) (r0:Bool) (H:Own w D w []) (fP:fG=a.az.ls.length) (kv:Ro w D fun w'=>bD w' 6 h a.az.ls.length (List.flatMap aB.cells a.az.ls)) (kw:a.az.ls.length≤j∧a.az.ls.length≤9223372036854775807) (fQ:List.map ag.abs dB=a.ai.ls) (fT:fH=a.ai.ls.length) (ky:Ro w D fun w'=>bD w' 3 l a.ai.ls.length (List.flatMap ag.cells dB)) (kz:a.ai.ls.length≤m∧a.ai.ls.length≤9223372036854775807) (kC:∀ x ∈ dB,Ro w D (fun w'=>bD w' 2 x.ay.A x.ay.ls.length (List.flatMap aW.cells x.ay.ls))∧(x.ay.ls.length≤x.ay.c∧x.ay.ls.length≤9223372036854775807)) (fU:fI=a.aj.ls.length) (kD:Ro w D fun w'=>bD w' 2 n a.aj.ls.length (List.flatMap aA.cells a.aj.ls)) (kE:a.aj.ls.length≤o∧a.aj.ls.length≤9223372036854775807) (hr:mQ a=r0):
    Calls Tryz.prog 29 #[.agg (bf a.ae a.bn a.dm a.aO a.bq a.bM a.bF a.aY a.bE a.bH a.bL a.aS a.bB a.aK a.xN a.bV a.aG.aD a.aG.aI h fG j l fH m n fI o).toArray] w (cK fun v w'=>v= .bool r0∧Own w D w' []):=by
 subst fP fT fU
 have hdl0x1:=dM fQ
 refine Calls.body (args:= [.agg (aV a h j l m n o).toArray]) Tryz.func29 rfl rfl rfl ?_
 show Wp _ _ _ [(0, .agg (aV a h j l m n o).toArray)] _ _
 refine sr ?_
 refine dD (aV a h j l m n o) 29 H ?_
 intro b ni kF
 refine An rfl (Wp.seq (sr ?_))
 refine iP [.int .u8 113, .int .u8 98, .int .u8 116, .int .u8 108, .int .u8 118, .int .u8 101, .int .u8 109, .int .u8 97, .int .u8 110] 5 1 9 kF ?_
 intro d nk fV
 replace fV:=Own.reh (y:=row d 9 9 (List.flatMap eB ([113,98,116,108,118,101,109,97,110])) 5 1) rfl fV
 refine WL.do rfl (Do.mark Tryz.underlying31 Tryz.underlying5 fV (by omega) rfl ?_)
 intro nu fF
 refine Kz (.int .i64 9) (Mn rfl (bo (Wp.unroll 200 (sr (Kz (.bool true) (nt (Wp.seq (jt (sk (Wp.seq (bo (sr ?_))))))))))))
 have iQ:([113,98,116,108,118,101,109,97,110]:List UInt8)[0]? =some 113:=rfl
 refine fw (.pointer (some ⟨ab d,ao d+0 *1,none⟩)) (Yl.indexAddr (bW) rfl rfl ((fF.rds (i:=0) rfl).addr (i:=0) (by omega)) (by omega)) (fw (.int .u8 113) (Yl.load rfl (bu.one Tryz.isAgg5 (((fF.rds (i:=0) rfl).elem av iQ (by decide)).at_ (k:=0) rfl))) (Ar rfl (Kz (.pointer (some ⟨b,0,none⟩)) (Lz (.int .i64 a.ae) fF 1 Tryz.isAgg3 (Mz rfl ?_)))))
 obtain⟨aR,ay⟩:∃ q,ak a.ae (113:UInt8)=q:=⟨_,rfl⟩
 obtain⟨ny,iR,lJ,iT,lK⟩:=Own.enter0 fF
 refine cl Tryz.call73 (gL _ _ a.ae (113:UInt8) aR iR ay) ?_
 rintro _ nz ⟨rfl,iU⟩
 have fZ:=iT _ _ iU
 refine Kz (.bool (!aR)) (Mz rfl ?_)
 refine WL.cutJ (ι:=Bool) 6 (fun i=> [(23, .bool i),(17, .bool (!aR)),(16, .bool (!aR)),(15, .bool aR),(14, .int .u8 113),(13, .int .i64 a.ae),(12, .pointer (some ⟨b,0,none⟩)),(4, .int .u8 113),(11, .int .u8 113),(10, .pointer (some ⟨ab d,ao d+0 *1,none⟩)),(9, .bool true),(8, .int .i64 0),(7, .int .i64 9),(6, .slice d 9 9),(5, .slice d 9 9),(2, .bool false),(1, .pointer (some ⟨b,0,none⟩)),(0, .agg (aV a h j l m n o).toArray)]) (fun i w'=>Own w D w' [row d 9 9 (List.flatMap eB ([113,98,116,108,118,101,109,97,110])) 5 1,blk b (aV a h j l m n o) 29]∧((if aR=true then false else decide (¬ (((a.bF:Nat):Int)=0)))=i)) ?_ ?_
 intro fJ
 rcases Bool.eq_false_or_eq_true (aR) with aK | aK
 refine Sz (cn aK) (Sz (cn aK) (Sz (cn aK) (Sz (cn aK) (Sz (cn aK) (fw (.bool false) (Yl.pickF rfl (cn aK) rfl) ?_)))))
 have kG:=fZ.pk [0,1]
 exact fJ false _ _ ⟨kG,(show (if aR=true then false else decide (¬ (((a.bF:Nat):Int)=0)))=false from ip aK)⟩ ⟨rfl,rfl,rfl,rfl,rfl,rfl,rfl,rfl,rfl,rfl,rfl,rfl,rfl,rfl,rfl,rfl,rfl,rfl,trivial⟩
 refine gw (.int .u8 113) (cn aK) (Yl.move rfl) ?_
 refine WL.doG rfl rfl (cn aK) rfl (Do.call Tryz.call47 rfl ?_ (fun _ _ k=>k))
 refine Calls.body (args:= [.pointer (some ⟨b,0,none⟩), .int .u8 113]) Tryz.func47 rfl rfl rfl ?_
 show Wp _ _ _ [(0, .pointer (some ⟨b,0,none⟩)),(1, .int .u8 113)] _ _
 refine sr (An rfl (Wp.seq (sr (Mn rfl (bo (sr (Kz (.bool true) (An rfl (jt (sr (Mz rfl (Kz (.pointer (some ⟨b,0,none⟩)) (Kz (.pointer (some ⟨b,6,none⟩)) (An rfl (rt (bR (tR (rs (Gz (.pointer (some ⟨b,6,none⟩)) (cn aK) (Gl (.int .u64 ((a.bF:Nat):Int)) (cn aK) fZ 1 Tryz.isAgg22 (gw (.bool (decide (¬ (((a.bF:Nat):Int)=0)))) (cn aK) (Yl.bool (e:= !(decide (((a.bF:Nat):Int)=0))) yk decide_not.symm) (fw (.bool (decide (¬ (((a.bF:Nat):Int)=0)))) (Yl.pickT rfl (cn aK) rfl) ?_))))))))))))))))))))))
 have kH:=fZ.pk [0,1]
 exact fJ (decide (¬ (((a.bF:Nat):Int)=0))) _ _ ⟨kH,(show (if aR=true then false else decide (¬ (((a.bF:Nat):Int)=0)))=decide (¬ (((a.bF:Nat):Int)=0)) from dn aK)⟩ ⟨rfl,rfl,rfl,rfl,rfl,rfl,rfl,rfl,rfl,rfl,rfl,rfl,rfl,rfl,rfl,rfl,rfl,rfl,trivial⟩
 rintro gm nA ⟨dC,au⟩
 show WL _ _ _ (List.drop 6 _) _ [(23, .bool gm),(17, .bool (!aR)),(16, .bool (!aR)),(15, .bool aR),(14, .int .u8 113),(13, .int .i64 a.ae),(12, .pointer (some ⟨b,0,none⟩)),(4, .int .u8 113),(11, .int .u8 113),(10, .pointer (some ⟨ab d,ao d+0 *1,none⟩)),(9, .bool true),(8, .int .i64 0),(7, .int .i64 9),(6, .slice d 9 9),(5, .slice d 9 9),(2, .bool false),(1, .pointer (some ⟨b,0,none⟩)),(0, .agg (aV a h j l m n o).toArray)] _
 replace au:(if aR=true then false else decide (¬ (((a.bF:Nat):Int)=0)))=gm:=au
 refine nt ?_
 rcases Bool.eq_false_or_eq_true (gm) with aS | aS
 refine jT aS (sr (An rfl (rt (bR (tR (tR (bR (tR (rs ?_)))))))))
 have kI:=dC.pk []
 obtain rfl:_=false:=hr.symm.trans (et (aa ay) (et (aa au) (ip aS)))
 exact⟨rfl,kI⟩
 refine jF aS (Wp.skip (bN (Fin.then (Wp.region (Kz (.int .i64 1) (Mz rfl (WL.nil (Fin.again [(8, .int .i64 1),(7, .int .i64 9),(6, .slice d 9 9),(2, .bool false),(1, .pointer (some ⟨b,0,none⟩))] ⟨rfl,rfl,rfl,rfl,rfl,trivial⟩ (sr (Kz (.bool true) (nt (Wp.seq (jt (sk (Wp.seq (bo (sr ?_)))))))))))))))))
 have iV:([113,98,116,108,118,101,109,97,110]:List UInt8)[1]? =some 98:=rfl
 refine fw (.pointer (some ⟨ab d,ao d+1 *1,none⟩)) (Yl.indexAddr (bW) rfl rfl ((dC.rds (i:=0) rfl).addr (i:=1) (by omega)) (by omega)) (fw (.int .u8 98) (Yl.load rfl (bu.one Tryz.isAgg5 (((dC.rds (i:=0) rfl).elem av iV (by decide)).at_ (k:=0) rfl))) (Ar rfl (Kz (.pointer (some ⟨b,0,none⟩)) (Lz (.int .i64 a.ae) dC 1 Tryz.isAgg3 (Mz rfl ?_)))))
 obtain⟨aT,aH⟩:∃ q,ak a.ae (98:UInt8)=q:=⟨_,rfl⟩
 obtain⟨nC,iW,lL,iX,lM⟩:=Own.enter0 dC
 refine cl Tryz.call73 (gL _ _ a.ae (98:UInt8) aT iW aH) ?_
 rintro _ nD ⟨rfl,iY⟩
 have gp:=iX _ _ iY
 refine Kz (.bool (!aT)) (Mz rfl ?_)
 refine WL.cutJ (ι:=Bool) 6 (fun i=> [(23, .bool i),(17, .bool (!aT)),(16, .bool (!aT)),(15, .bool aT),(14, .int .u8 98),(13, .int .i64 a.ae),(12, .pointer (some ⟨b,0,none⟩)),(4, .int .u8 98),(11, .int .u8 98),(10, .pointer (some ⟨ab d,ao d+1 *1,none⟩)),(9, .bool true),(8, .int .i64 1),(7, .int .i64 9),(6, .slice d 9 9),(2, .bool false),(1, .pointer (some ⟨b,0,none⟩))]) (fun i w'=>Own w D w' [row d 9 9 (List.flatMap eB ([113,98,116,108,118,101,109,97,110])) 5 1,blk b (aV a h j l m n o) 29]∧((if aT=true then false else decide (¬ (((a.aY:Nat):Int)=0)))=i)) ?_ ?_
 intro fK
 rcases Bool.eq_false_or_eq_true (aT) with aL | aL
 refine Sz (cn aL) (Sz (cn aL) (Sz (cn aL) (Sz (cn aL) (Sz (cn aL) (fw (.bool false) (Yl.pickF rfl (cn aL) rfl) ?_)))))
 have kJ:=gp.pk [0,1]
 exact fK false _ _ ⟨kJ,(show (if aT=true then false else decide (¬ (((a.aY:Nat):Int)=0)))=false from ip aL)⟩ ⟨rfl,rfl,rfl,rfl,rfl,rfl,rfl,rfl,rfl,rfl,rfl,rfl,rfl,rfl,rfl,rfl,trivial⟩
 refine gw (.int .u8 98) (cn aL) (Yl.move rfl) ?_
 refine WL.doG rfl rfl (cn aL) rfl (Do.call Tryz.call47 rfl ?_ (fun _ _ k=>k))
 refine Calls.body (args:= [.pointer (some ⟨b,0,none⟩), .int .u8 98]) Tryz.func47 rfl rfl rfl ?_
 show Wp _ _ _ [(0, .pointer (some ⟨b,0,none⟩)),(1, .int .u8 98)] _ _
 refine sr (An rfl (Wp.seq (sr (Mn rfl (bo (sr (Kz (.bool false) (An rfl (jf (sr (Kz (.bool true) (An rfl (jt (sr (Mz rfl (Kz (.pointer (some ⟨b,0,none⟩)) (Kz (.pointer (some ⟨b,7,none⟩)) (An rfl (rt (bR (tR (rs (Gz (.pointer (some ⟨b,7,none⟩)) (cn aL) (Gl (.int .u64 ((a.aY:Nat):Int)) (cn aL) gp 1 Tryz.isAgg22 ?_))))))))))))))))))))))))
 refine gw (.bool (decide (¬ (((a.aY:Nat):Int)=0)))) (cn aL) (Yl.bool (e:= !(decide (((a.aY:Nat):Int)=0))) yk decide_not.symm) (fw (.bool (decide (¬ (((a.aY:Nat):Int)=0)))) (Yl.pickT rfl (cn aL) rfl) ?_)
 have kK:=gp.pk [0,1]
 exact fK (decide (¬ (((a.aY:Nat):Int)=0))) _ _ ⟨kK,(show (if aT=true then false else decide (¬ (((a.aY:Nat):Int)=0)))=decide (¬ (((a.aY:Nat):Int)=0)) from dn aL)⟩ ⟨rfl,rfl,rfl,rfl,rfl,rfl,rfl,rfl,rfl,rfl,rfl,rfl,rfl,rfl,rfl,rfl,trivial⟩
 rintro gq nE ⟨dE,az⟩
 show WL _ _ _ (List.drop 6 _) _ [(23, .bool gq),(17, .bool (!aT)),(16, .bool (!aT)),(15, .bool aT),(14, .int .u8 98),(13, .int .i64 a.ae),(12, .pointer (some ⟨b,0,none⟩)),(4, .int .u8 98),(11, .int .u8 98),(10, .pointer (some ⟨ab d,ao d+1 *1,none⟩)),(9, .bool true),(8, .int .i64 1),(7, .int .i64 9),(6, .slice d 9 9),(2, .bool false),(1, .pointer (some ⟨b,0,none⟩))] _
 replace az:(if aT=true then false else decide (¬ (((a.aY:Nat):Int)=0)))=gq:=az
 refine nt ?_
 rcases Bool.eq_false_or_eq_true (gq) with bn | bn
 refine jT bn (sr (An rfl (rt (bR (tR (tR (bR (tR (rs ?_)))))))))
 have kL:=dE.pk []
 obtain rfl:_=false:=hr.symm.trans (et (aa ay) (et (aa au) (et (dn aS) (et (aa aH) (et (aa az) (ip bn))))))
 exact⟨rfl,kL⟩
 refine jF bn (Wp.skip (bN (Fin.then (Wp.region (Kz (.int .i64 2) (Mz rfl (WL.nil (Fin.again [(8, .int .i64 2),(7, .int .i64 9),(6, .slice d 9 9),(2, .bool false),(1, .pointer (some ⟨b,0,none⟩))] ⟨rfl,rfl,rfl,rfl,rfl,trivial⟩ (sr (Kz (.bool true) (nt (Wp.seq (jt (sk (Wp.seq (bo (sr ?_)))))))))))))))))
 have iZ:([113,98,116,108,118,101,109,97,110]:List UInt8)[2]? =some 116:=rfl
 refine fw (.pointer (some ⟨ab d,ao d+2 *1,none⟩)) (Yl.indexAddr (bW) rfl rfl ((dE.rds (i:=0) rfl).addr (i:=2) (by omega)) (by omega)) (fw (.int .u8 116) (Yl.load rfl (bu.one Tryz.isAgg5 (((dE.rds (i:=0) rfl).elem av iZ (by decide)).at_ (k:=0) rfl))) (Ar rfl (Kz (.pointer (some ⟨b,0,none⟩)) (Lz (.int .i64 a.ae) dE 1 Tryz.isAgg3 (Mz rfl ?_)))))
 obtain⟨aU,aP⟩:∃ q,ak a.ae (116:UInt8)=q:=⟨_,rfl⟩
 obtain⟨nG,ja,lN,jb,lQ⟩:=Own.enter0 dE
 refine cl Tryz.call73 (gL _ _ a.ae (116:UInt8) aU ja aP) ?_
 rintro _ nH ⟨rfl,jc⟩
 have gu:=jb _ _ jc
 refine Kz (.bool (!aU)) (Mz rfl ?_)
 refine WL.cutJ (ι:=Bool) 6 (fun i=> [(23, .bool i),(17, .bool (!aU)),(16, .bool (!aU)),(15, .bool aU),(14, .int .u8 116),(13, .int .i64 a.ae),(12, .pointer (some ⟨b,0,none⟩)),(4, .int .u8 116),(11, .int .u8 116),(10, .pointer (some ⟨ab d,ao d+2 *1,none⟩)),(9, .bool true),(8, .int .i64 2),(7, .int .i64 9),(6, .slice d 9 9),(2, .bool false),(1, .pointer (some ⟨b,0,none⟩))]) (fun i w'=>Own w D w' [row d 9 9 (List.flatMap eB ([113,98,116,108,118,101,109,97,110])) 5 1,blk b (aV a h j l m n o) 29]∧((if aU=true then false else decide (¬ (((a.bE:Nat):Int)=0)))=i)) ?_ ?_
 intro fM
 rcases Bool.eq_false_or_eq_true (aU) with aM | aM
 refine Sz (cn aM) (Sz (cn aM) (Sz (cn aM) (Sz (cn aM) (Sz (cn aM) (fw (.bool false) (Yl.pickF rfl (cn aM) rfl) ?_)))))
 have kM:=gu.pk [0,1]
 exact fM false _ _ ⟨kM,(show (if aU=true then false else decide (¬ (((a.bE:Nat):Int)=0)))=false from ip aM)⟩ ⟨rfl,rfl,rfl,rfl,rfl,rfl,rfl,rfl,rfl,rfl,rfl,rfl,rfl,rfl,rfl,rfl,trivial⟩
 refine gw (.int .u8 116) (cn aM) (Yl.move rfl) ?_
 refine WL.doG rfl rfl (cn aM) rfl (Do.call Tryz.call47 rfl ?_ (fun _ _ k=>k))
 refine Calls.body (args:= [.pointer (some ⟨b,0,none⟩), .int .u8 116]) Tryz.func47 rfl rfl rfl ?_
 show Wp _ _ _ [(0, .pointer (some ⟨b,0,none⟩)),(1, .int .u8 116)] _ _
 refine sr (An rfl (Wp.seq (sr (Mn rfl (bo (sr (Kz (.bool false) (An rfl (jf (sr (Kz (.bool false) (An rfl (jf (sr (Kz (.bool true) (An rfl (jt (sr (Mz rfl (Kz (.pointer (some ⟨b,0,none⟩)) (Kz (.pointer (some ⟨b,8,none⟩)) (Az rfl (WL.nil ?_)))))))))))))))))))))))
 refine Fin.then (rt (bR (tR (rs (Gz (.pointer (some ⟨b,8,none⟩)) (cn aM) (Gl (.int .u64 ((a.bE:Nat):Int)) (cn aM) gu 1 Tryz.isAgg22 (gw (.bool (decide (¬ (((a.bE:Nat):Int)=0)))) (cn aM) (Yl.bool (e:= !(decide (((a.bE:Nat):Int)=0))) yk decide_not.symm) (fw (.bool (decide (¬ (((a.bE:Nat):Int)=0)))) (Yl.pickT rfl (cn aM) rfl) ?_))))))))
 have kN:=gu.pk [0,1]
 exact fM (decide (¬ (((a.bE:Nat):Int)=0))) _ _ ⟨kN,(show (if aU=true then false else decide (¬ (((a.bE:Nat):Int)=0)))=decide (¬ (((a.bE:Nat):Int)=0)) from dn aM)⟩ ⟨rfl,rfl,rfl,rfl,rfl,rfl,rfl,rfl,rfl,rfl,rfl,rfl,rfl,rfl,rfl,rfl,trivial⟩
 rintro gy nI ⟨dG,aI⟩
 show WL _ _ _ (List.drop 6 _) _ [(23, .bool gy),(17, .bool (!aU)),(16, .bool (!aU)),(15, .bool aU),(14, .int .u8 116),(13, .int .i64 a.ae),(12, .pointer (some ⟨b,0,none⟩)),(4, .int .u8 116),(11, .int .u8 116),(10, .pointer (some ⟨ab d,ao d+2 *1,none⟩)),(9, .bool true),(8, .int .i64 2),(7, .int .i64 9),(6, .slice d 9 9),(2, .bool false),(1, .pointer (some ⟨b,0,none⟩))] _
 replace aI:(if aU=true then false else decide (¬ (((a.bE:Nat):Int)=0)))=gy:=aI
 refine nt ?_
 rcases Bool.eq_false_or_eq_true (gy) with bq | bq
 refine jT bq (sr (An rfl (rt (bR (tR (tR (bR (tR (rs ?_)))))))))
 have kP:=dG.pk []
 obtain rfl:_=false:=hr.symm.trans (et (aa ay) (et (aa au) (et (dn aS) (et (aa aH) (et (aa az) (et (dn bn) (et (aa aP) (et (aa aI) (ip bq)))))))))
 exact⟨rfl,kP⟩
 refine jF bq (Wp.skip (bN (Fin.then (Wp.region (Kz (.int .i64 3) (Mz rfl (WL.nil (Fin.again [(8, .int .i64 3),(7, .int .i64 9),(6, .slice d 9 9),(2, .bool false),(1, .pointer (some ⟨b,0,none⟩))] ⟨rfl,rfl,rfl,rfl,rfl,trivial⟩ (sr (Kz (.bool true) (nt (Wp.seq (jt (sk (Wp.seq (bo (sr ?_)))))))))))))))))
 have jd:([113,98,116,108,118,101,109,97,110]:List UInt8)[3]? =some 108:=rfl
 refine fw (.pointer (some ⟨ab d,ao d+3 *1,none⟩)) (Yl.indexAddr (bW) rfl rfl ((dG.rds (i:=0) rfl).addr (i:=3) (by omega)) (by omega)) (fw (.int .u8 108) (Yl.load rfl (bu.one Tryz.isAgg5 (((dG.rds (i:=0) rfl).elem av jd (by decide)).at_ (k:=0) rfl))) (Ar rfl (Kz (.pointer (some ⟨b,0,none⟩)) (Lz (.int .i64 a.ae) dG 1 Tryz.isAgg3 (Mz rfl ?_)))))
 obtain⟨aX,bg⟩:∃ q,ak a.ae (108:UInt8)=q:=⟨_,rfl⟩
 obtain⟨nJ,je,lS,jg,lT⟩:=Own.enter0 dG
 refine cl Tryz.call73 (gL _ _ a.ae (108:UInt8) aX je bg) ?_
 rintro _ lU ⟨rfl,gz⟩
 have dH:=jg _ _ gz
 refine Kz (.bool (!aX)) (Mz rfl ?_)
 refine WL.cutJ (ι:=Bool) 6 (fun i=> [(23, .bool i),(17, .bool (!aX)),(16, .bool (!aX)),(15, .bool aX),(14, .int .u8 108),(13, .int .i64 a.ae),(12, .pointer (some ⟨b,0,none⟩)),(4, .int .u8 108),(11, .int .u8 108),(10, .pointer (some ⟨ab d,ao d+3 *1,none⟩)),(9, .bool true),(8, .int .i64 3),(7, .int .i64 9),(6, .slice d 9 9),(2, .bool false),(1, .pointer (some ⟨b,0,none⟩))]) (fun i w'=>Own w D w' [row d 9 9 (List.flatMap eB ([113,98,116,108,118,101,109,97,110])) 5 1,blk b (aV a h j l m n o) 29]∧((if aX=true then false else decide (¬ (((a.bH:Nat):Int)=0)))=i)) ?_ ?_
 intro dI
 rcases Bool.eq_false_or_eq_true (aX) with I | I
 refine Sz (cn I) (Sz (cn I) (Sz (cn I) (Sz (cn I) (Sz (cn I) (fw (.bool false) (Yl.pickF rfl (cn I) rfl) ?_)))))
 have jh:=dH.pk [0,1]
 exact dI false _ _ ⟨jh,(show (if aX=true then false else decide (¬ (((a.bH:Nat):Int)=0)))=false from ip I)⟩ ⟨rfl,rfl,rfl,rfl,rfl,rfl,rfl,rfl,rfl,rfl,rfl,rfl,rfl,rfl,rfl,rfl,trivial⟩
 refine gw (.int .u8 108) (cn I) (Yl.move rfl) ?_
 refine WL.doG rfl rfl (cn I) rfl (Do.call Tryz.call47 rfl ?_ (fun _ _ k=>k))
 refine Calls.body (args:= [.pointer (some ⟨b,0,none⟩), .int .u8 108]) Tryz.func47 rfl rfl rfl ?_
 show Wp _ _ _ [(0, .pointer (some ⟨b,0,none⟩)),(1, .int .u8 108)] _ _
 refine sr (An rfl (Wp.seq (sr (Mn rfl (bo (sr (Kz (.bool false) (An rfl (jf (sr (Kz (.bool false) (An rfl (jf (sr (Kz (.bool false) (An rfl (jf (sr (Kz (.bool true) (An rfl (jt ?_)))))))))))))))))))))
 refine sr (Mz rfl (Kz (.pointer (some ⟨b,0,none⟩)) (Kz (.pointer (some ⟨b,9,none⟩)) (An rfl (rt (bR (tR (rs (Gz (.pointer (some ⟨b,9,none⟩)) (cn I) (Gl (.int .u64 ((a.bH:Nat):Int)) (cn I) dH 1 Tryz.isAgg22 (gw (.bool (decide (¬ (((a.bH:Nat):Int)=0)))) (cn I) (Yl.bool (e:= !(decide (((a.bH:Nat):Int)=0))) yk decide_not.symm) (fw (.bool (decide (¬ (((a.bH:Nat):Int)=0)))) (Yl.pickT rfl (cn I) rfl) ?_))))))))))))
 have ji:=dH.pk [0,1]
 exact dI (decide (¬ (((a.bH:Nat):Int)=0))) _ _ ⟨ji,(show (if aX=true then false else decide (¬ (((a.bH:Nat):Int)=0)))=decide (¬ (((a.bH:Nat):Int)=0)) from dn I)⟩ ⟨rfl,rfl,rfl,rfl,rfl,rfl,rfl,rfl,rfl,rfl,rfl,rfl,rfl,rfl,rfl,rfl,trivial⟩
 rintro dJ lV ⟨bH,X⟩
 show WL _ _ _ (List.drop 6 _) _ [(23, .bool dJ),(17, .bool (!aX)),(16, .bool (!aX)),(15, .bool aX),(14, .int .u8 108),(13, .int .i64 a.ae),(12, .pointer (some ⟨b,0,none⟩)),(4, .int .u8 108),(11, .int .u8 108),(10, .pointer (some ⟨ab d,ao d+3 *1,none⟩)),(9, .bool true),(8, .int .i64 3),(7, .int .i64 9),(6, .slice d 9 9),(2, .bool false),(1, .pointer (some ⟨b,0,none⟩))] _
 replace X:(if aX=true then false else decide (¬ (((a.bH:Nat):Int)=0)))=dJ:=X
 refine nt ?_
 rcases Bool.eq_false_or_eq_true (dJ) with aJ | aJ
 refine jT aJ (sr (An rfl (rt (bR (tR (tR (bR (tR (rs ?_)))))))))
 have jk:=bH.pk []
 obtain rfl:_=false:=hr.symm.trans (et (aa ay) (et (aa au) (et (dn aS) (et (aa aH) (et (aa az) (et (dn bn) (et (aa aP) (et (aa aI) (et (dn bq) (et (aa bg) (et (aa X) (ip aJ))))))))))))
 exact⟨rfl,jk⟩
 refine jF aJ (Wp.skip (bN (Fin.then (Wp.region (Kz (.int .i64 4) (Mz rfl (WL.nil (Fin.again [(8, .int .i64 4),(7, .int .i64 9),(6, .slice d 9 9),(2, .bool false),(1, .pointer (some ⟨b,0,none⟩))] ⟨rfl,rfl,rfl,rfl,rfl,trivial⟩ (sr (Kz (.bool true) (nt (Wp.seq (jt (sk (Wp.seq (bo (sr ?_)))))))))))))))))
 have gB:([113,98,116,108,118,101,109,97,110]:List UInt8)[4]? =some 118:=rfl
 refine fw (.pointer (some ⟨ab d,ao d+4 *1,none⟩)) (Yl.indexAddr (bW) rfl rfl ((bH.rds (i:=0) rfl).addr (i:=4) (by omega)) (by omega)) (fw (.int .u8 118) (Yl.load rfl (bu.one Tryz.isAgg5 (((bH.rds (i:=0) rfl).elem av gB (by decide)).at_ (k:=0) rfl))) (Ar rfl (Kz (.pointer (some ⟨b,0,none⟩)) (Lz (.int .i64 a.ae) bH 1 Tryz.isAgg3 (Mz rfl ?_)))))
 obtain⟨O,aN⟩:∃ q,ak a.ae (118:UInt8)=q:=⟨_,rfl⟩
 obtain⟨lW,gD,kQ,gF,kR⟩:=Own.enter0 bH
 refine cl Tryz.call73 (gL _ _ a.ae (118:UInt8) O gD aN) ?_
 rintro _ lX ⟨rfl,gG⟩
 have dK:=gF _ _ gG
 refine Kz (.bool (!O)) (Mz rfl ?_)
 refine WL.cutJ (ι:=Bool) 6 (fun i=> [(23, .bool i),(17, .bool (!O)),(16, .bool (!O)),(15, .bool O),(14, .int .u8 118),(13, .int .i64 a.ae),(12, .pointer (some ⟨b,0,none⟩)),(4, .int .u8 118),(11, .int .u8 118),(10, .pointer (some ⟨ab d,ao d+4 *1,none⟩)),(9, .bool true),(8, .int .i64 4),(7, .int .i64 9),(6, .slice d 9 9),(2, .bool false),(1, .pointer (some ⟨b,0,none⟩))]) (fun i w'=>Own w D w' [row d 9 9 (List.flatMap eB ([113,98,116,108,118,101,109,97,110])) 5 1,blk b (aV a h j l m n o) 29]∧((if O=true then false else decide (¬ (((a.bL:Nat):Int)=0)))=i)) ?_ ?_
 intro dL
 rcases Bool.eq_false_or_eq_true (O) with J | J
 refine Sz (cn J) (Sz (cn J) (Sz (cn J) (Sz (cn J) (Sz (cn J) (fw (.bool false) (Yl.pickF rfl (cn J) rfl) ?_)))))
 have jl:=dK.pk [0,1]
 exact dL false _ _ ⟨jl,(show (if O=true then false else decide (¬ (((a.bL:Nat):Int)=0)))=false from ip J)⟩ ⟨rfl,rfl,rfl,rfl,rfl,rfl,rfl,rfl,rfl,rfl,rfl,rfl,rfl,rfl,rfl,rfl,trivial⟩
 refine gw (.int .u8 118) (cn J) (Yl.move rfl) ?_
 refine WL.doG rfl rfl (cn J) rfl (Do.call Tryz.call47 rfl ?_ (fun _ _ k=>k))
 refine Calls.body (args:= [.pointer (some ⟨b,0,none⟩), .int .u8 118]) Tryz.func47 rfl rfl rfl ?_
 show Wp _ _ _ [(0, .pointer (some ⟨b,0,none⟩)),(1, .int .u8 118)] _ _
 refine sr (An rfl (Wp.seq (sr (Mn rfl (bo (sr (Kz (.bool false) (An rfl (jf (sr (Kz (.bool false) (An rfl (jf (sr (Kz (.bool false) (An rfl (jf (sr (Kz (.bool false) (An rfl (jf ?_)))))))))))))))))))))
 refine sr (Kz (.bool true) (An rfl (jt (sr (Mz rfl (Kz (.pointer (some ⟨b,0,none⟩)) (Kz (.pointer (some ⟨b,10,none⟩)) (An rfl (rt (bR (tR (rs (Gz (.pointer (some ⟨b,10,none⟩)) (cn J) (Gl (.int .u64 ((a.bL:Nat):Int)) (cn J) dK 1 Tryz.isAgg22 (gw (.bool (decide (¬ (((a.bL:Nat):Int)=0)))) (cn J) (Yl.bool (e:= !(decide (((a.bL:Nat):Int)=0))) yk decide_not.symm) (fw (.bool (decide (¬ (((a.bL:Nat):Int)=0)))) (Yl.pickT rfl (cn J) rfl) ?_))))))))))))))))
 have jm:=dK.pk [0,1]
 exact dL (decide (¬ (((a.bL:Nat):Int)=0))) _ _ ⟨jm,(show (if O=true then false else decide (¬ (((a.bL:Nat):Int)=0)))=decide (¬ (((a.bL:Nat):Int)=0)) from dn J)⟩ ⟨rfl,rfl,rfl,rfl,rfl,rfl,rfl,rfl,rfl,rfl,rfl,rfl,rfl,rfl,rfl,rfl,trivial⟩
 rintro dN lY ⟨bI,aC⟩
 show WL _ _ _ (List.drop 6 _) _ [(23, .bool dN),(17, .bool (!O)),(16, .bool (!O)),(15, .bool O),(14, .int .u8 118),(13, .int .i64 a.ae),(12, .pointer (some ⟨b,0,none⟩)),(4, .int .u8 118),(11, .int .u8 118),(10, .pointer (some ⟨ab d,ao d+4 *1,none⟩)),(9, .bool true),(8, .int .i64 4),(7, .int .i64 9),(6, .slice d 9 9),(2, .bool false),(1, .pointer (some ⟨b,0,none⟩))] _
 replace aC:(if O=true then false else decide (¬ (((a.bL:Nat):Int)=0)))=dN:=aC
 refine nt ?_
 rcases Bool.eq_false_or_eq_true (dN) with aQ | aQ
 refine jT aQ (sr (An rfl (rt (bR (tR (tR (bR (tR (rs ?_)))))))))
 have jo:=bI.pk []
 obtain rfl:_=false:=hr.symm.trans (et (aa ay) (et (aa au) (et (dn aS) (et (aa aH) (et (aa az) (et (dn bn) (et (aa aP) (et (aa aI) (et (dn bq) (et (aa bg) (et (aa X) (et (dn aJ) (et (aa aN) (et (aa aC) (ip aQ)))))))))))))))
 exact⟨rfl,jo⟩
 refine jF aQ (Wp.skip (bN (Fin.then (Wp.region (Kz (.int .i64 5) (Mz rfl (WL.nil (Fin.again [(8, .int .i64 5),(7, .int .i64 9),(6, .slice d 9 9),(2, .bool false),(1, .pointer (some ⟨b,0,none⟩))] ⟨rfl,rfl,rfl,rfl,rfl,trivial⟩ (sr (Kz (.bool true) (nt (Wp.seq (jt (sk (Wp.seq (bo (sr ?_)))))))))))))))))
 have gH:([113,98,116,108,118,101,109,97,110]:List UInt8)[5]? =some 101:=rfl
 refine fw (.pointer (some ⟨ab d,ao d+5 *1,none⟩)) (Yl.indexAddr (bW) rfl rfl ((bI.rds (i:=0) rfl).addr (i:=5) (by omega)) (by omega)) (fw (.int .u8 101) (Yl.load rfl (bu.one Tryz.isAgg5 (((bI.rds (i:=0) rfl).elem av gH (by decide)).at_ (k:=0) rfl))) (Ar rfl (Kz (.pointer (some ⟨b,0,none⟩)) (Lz (.int .i64 a.ae) bI 1 Tryz.isAgg3 (Mz rfl ?_)))))
 obtain⟨P,aY⟩:∃ q,ak a.ae (101:UInt8)=q:=⟨_,rfl⟩
 obtain⟨lZ,gI,kS,gJ,kT⟩:=Own.enter0 bI
 refine cl Tryz.call73 (gL _ _ a.ae (101:UInt8) P gI aY) ?_
 rintro _ l5 ⟨rfl,gK⟩
 have dO:=gJ _ _ gK
 refine Kz (.bool (!P)) (Mz rfl ?_)
 refine WL.cutJ (ι:=Bool) 6 (fun i=> [(23, .bool i),(17, .bool (!P)),(16, .bool (!P)),(15, .bool P),(14, .int .u8 101),(13, .int .i64 a.ae),(12, .pointer (some ⟨b,0,none⟩)),(4, .int .u8 101),(11, .int .u8 101),(10, .pointer (some ⟨ab d,ao d+5 *1,none⟩)),(9, .bool true),(8, .int .i64 5),(7, .int .i64 9),(6, .slice d 9 9),(2, .bool false),(1, .pointer (some ⟨b,0,none⟩))]) (fun i w'=>Own w D w' [row d 9 9 (List.flatMap eB ([113,98,116,108,118,101,109,97,110])) 5 1,blk b (aV a h j l m n o) 29]∧((if P=true then false else decide (¬ (((a.aS:Nat):Int)=0)))=i)) ?_ ?_
 intro dP
 rcases Bool.eq_false_or_eq_true (P) with K | K
 refine Sz (cn K) (Sz (cn K) (Sz (cn K) (Sz (cn K) (Sz (cn K) (fw (.bool false) (Yl.pickF rfl (cn K) rfl) ?_)))))
 have jq:=dO.pk [0,1]
 exact dP false _ _ ⟨jq,(show (if P=true then false else decide (¬ (((a.aS:Nat):Int)=0)))=false from ip K)⟩ ⟨rfl,rfl,rfl,rfl,rfl,rfl,rfl,rfl,rfl,rfl,rfl,rfl,rfl,rfl,rfl,rfl,trivial⟩
 refine gw (.int .u8 101) (cn K) (Yl.move rfl) ?_
 refine WL.doG rfl rfl (cn K) rfl (Do.call Tryz.call47 rfl ?_ (fun _ _ k=>k))
 refine Calls.body (args:= [.pointer (some ⟨b,0,none⟩), .int .u8 101]) Tryz.func47 rfl rfl rfl ?_
 show Wp _ _ _ [(0, .pointer (some ⟨b,0,none⟩)),(1, .int .u8 101)] _ _
 refine sr (An rfl (Wp.seq (sr (Mn rfl (bo (sr (Kz (.bool false) (An rfl (jf (sr (Kz (.bool false) (An rfl (jf (sr (Kz (.bool false) (An rfl (jf (sr (Kz (.bool false) (An rfl (jf ?_)))))))))))))))))))))
 refine sr (Kz (.bool false) (An rfl (jf (sr (Kz (.bool true) (An rfl (jt (sr (Mz rfl (Kz (.pointer (some ⟨b,0,none⟩)) (Kz (.pointer (some ⟨b,11,none⟩)) (An rfl (rt (bR (tR (rs (Gz (.pointer (some ⟨b,11,none⟩)) (cn K) (Gl (.int .u64 ((a.aS:Nat):Int)) (cn K) dO 1 Tryz.isAgg22 (gw (.bool (decide (¬ (((a.aS:Nat):Int)=0)))) (cn K) (Yl.bool (e:= !(decide (((a.aS:Nat):Int)=0))) yk decide_not.symm) (fw (.bool (decide (¬ (((a.aS:Nat):Int)=0)))) (Yl.pickT rfl (cn K) rfl) ?_))))))))))))))))))))
 have jr:=dO.pk [0,1]
 exact dP (decide (¬ (((a.aS:Nat):Int)=0))) _ _ ⟨jr,(show (if P=true then false else decide (¬ (((a.aS:Nat):Int)=0)))=decide (¬ (((a.aS:Nat):Int)=0)) from dn K)⟩ ⟨rfl,rfl,rfl,rfl,rfl,rfl,rfl,rfl,rfl,rfl,rfl,rfl,rfl,rfl,rfl,rfl,trivial⟩
 rintro dQ l6 ⟨bJ,aO⟩
 show WL _ _ _ (List.drop 6 _) _ [(23, .bool dQ),(17, .bool (!P)),(16, .bool (!P)),(15, .bool P),(14, .int .u8 101),(13, .int .i64 a.ae),(12, .pointer (some ⟨b,0,none⟩)),(4, .int .u8 101),(11, .int .u8 101),(10, .pointer (some ⟨ab d,ao d+5 *1,none⟩)),(9, .bool true),(8, .int .i64 5),(7, .int .i64 9),(6, .slice d 9 9),(2, .bool false),(1, .pointer (some ⟨b,0,none⟩))] _
 replace aO:(if P=true then false else decide (¬ (((a.aS:Nat):Int)=0)))=dQ:=aO
 refine nt ?_
 rcases Bool.eq_false_or_eq_true (dQ) with bi | bi
 refine jT bi (sr (An rfl (rt (bR (tR (tR (bR (tR (rs ?_)))))))))
 have jv:=bJ.pk []
 obtain rfl:_=false:=hr.symm.trans (et (aa ay) (et (aa au) (et (dn aS) (et (aa aH) (et (aa az) (et (dn bn) (et (aa aP) (et (aa aI) (et (dn bq) (et (aa bg) (et (aa X) (et (dn aJ) (et (aa aN) (et (aa aC) (et (dn aQ) (et (aa aY) (et (aa aO) (ip bi))))))))))))))))))
 exact⟨rfl,jv⟩
 refine jF bi (Wp.skip (bN (Fin.then (Wp.region (Kz (.int .i64 6) (Mz rfl (WL.nil (Fin.again [(8, .int .i64 6),(7, .int .i64 9),(6, .slice d 9 9),(2, .bool false),(1, .pointer (some ⟨b,0,none⟩))] ⟨rfl,rfl,rfl,rfl,rfl,trivial⟩ (sr (Kz (.bool true) (nt (Wp.seq (jt (sk (Wp.seq (bo (sr ?_)))))))))))))))))
 have gM:([113,98,116,108,118,101,109,97,110]:List UInt8)[6]? =some 109:=rfl
 refine fw (.pointer (some ⟨ab d,ao d+6 *1,none⟩)) (Yl.indexAddr (bW) rfl rfl ((bJ.rds (i:=0) rfl).addr (i:=6) (by omega)) (by omega)) (fw (.int .u8 109) (Yl.load rfl (bu.one Tryz.isAgg5 (((bJ.rds (i:=0) rfl).elem av gM (by decide)).at_ (k:=0) rfl))) (Ar rfl (Kz (.pointer (some ⟨b,0,none⟩)) (Lz (.int .i64 a.ae) bJ 1 Tryz.isAgg3 (Mz rfl ?_)))))
 obtain⟨Q,bv⟩:∃ q,ak a.ae (109:UInt8)=q:=⟨_,rfl⟩
 obtain⟨l7,gN,kU,gP,kV⟩:=Own.enter0 bJ
 refine cl Tryz.call73 (gL _ _ a.ae (109:UInt8) Q gN bv) ?_
 rintro _ l8 ⟨rfl,gQ⟩
 have dR:=gP _ _ gQ
 refine Kz (.bool (!Q)) (Mz rfl ?_)
 refine WL.cutJ (ι:=Bool) 6 (fun i=> [(23, .bool i),(17, .bool (!Q)),(16, .bool (!Q)),(15, .bool Q),(14, .int .u8 109),(13, .int .i64 a.ae),(12, .pointer (some ⟨b,0,none⟩)),(4, .int .u8 109),(11, .int .u8 109),(10, .pointer (some ⟨ab d,ao d+6 *1,none⟩)),(9, .bool true),(8, .int .i64 6),(7, .int .i64 9),(6, .slice d 9 9),(2, .bool false),(1, .pointer (some ⟨b,0,none⟩))]) (fun i w'=>Own w D w' [row d 9 9 (List.flatMap eB ([113,98,116,108,118,101,109,97,110])) 5 1,blk b (aV a h j l m n o) 29]∧((if Q=true then false else decide (¬ (((a.bB:Nat):Int)=0)))=i)) ?_ ?_
 intro dS
 rcases Bool.eq_false_or_eq_true (Q) with L | L
 refine Sz (cn L) (Sz (cn L) (Sz (cn L) (Sz (cn L) (Sz (cn L) (fw (.bool false) (Yl.pickF rfl (cn L) rfl) ?_)))))
 have jw:=dR.pk [0,1]
 exact dS false _ _ ⟨jw,(show (if Q=true then false else decide (¬ (((a.bB:Nat):Int)=0)))=false from ip L)⟩ ⟨rfl,rfl,rfl,rfl,rfl,rfl,rfl,rfl,rfl,rfl,rfl,rfl,rfl,rfl,rfl,rfl,trivial⟩
 refine gw (.int .u8 109) (cn L) (Yl.move rfl) ?_
 refine WL.doG rfl rfl (cn L) rfl (Do.call Tryz.call47 rfl ?_ (fun _ _ k=>k))
 refine Calls.body (args:= [.pointer (some ⟨b,0,none⟩), .int .u8 109]) Tryz.func47 rfl rfl rfl ?_
 show Wp _ _ _ [(0, .pointer (some ⟨b,0,none⟩)),(1, .int .u8 109)] _ _
 refine sr (An rfl (Wp.seq (sr (Mn rfl (bo (sr (Kz (.bool false) (An rfl (jf (sr (Kz (.bool false) (An rfl (jf (sr (Kz (.bool false) (An rfl (jf (sr (Kz (.bool false) (An rfl (jf ?_)))))))))))))))))))))
 refine sr (Kz (.bool false) (An rfl (jf (sr (Kz (.bool false) (An rfl (jf (sr (Kz (.bool true) (An rfl (jt (sr (Mz rfl (Kz (.pointer (some ⟨b,0,none⟩)) (Kz (.pointer (some ⟨b,12,none⟩)) (An rfl (rt (bR (tR (rs (Gz (.pointer (some ⟨b,12,none⟩)) (cn L) (Gl (.int .u64 ((a.bB:Nat):Int)) (cn L) dR 1 Tryz.isAgg22 (gw (.bool (decide (¬ (((a.bB:Nat):Int)=0)))) (cn L) (Yl.bool (e:= !(decide (((a.bB:Nat):Int)=0))) yk decide_not.symm) (fw (.bool (decide (¬ (((a.bB:Nat):Int)=0)))) (Yl.pickT rfl (cn L) rfl) ?_))))))))))))))))))))))))
 have jy:=dR.pk [0,1]
 exact dS (decide (¬ (((a.bB:Nat):Int)=0))) _ _ ⟨jy,(show (if Q=true then false else decide (¬ (((a.bB:Nat):Int)=0)))=decide (¬ (((a.bB:Nat):Int)=0)) from dn L)⟩ ⟨rfl,rfl,rfl,rfl,rfl,rfl,rfl,rfl,rfl,rfl,rfl,rfl,rfl,rfl,rfl,rfl,trivial⟩
 rintro dU l9 ⟨bK,aZ⟩
 show WL _ _ _ (List.drop 6 _) _ [(23, .bool dU),(17, .bool (!Q)),(16, .bool (!Q)),(15, .bool Q),(14, .int .u8 109),(13, .int .i64 a.ae),(12, .pointer (some ⟨b,0,none⟩)),(4, .int .u8 109),(11, .int .u8 109),(10, .pointer (some ⟨ab d,ao d+6 *1,none⟩)),(9, .bool true),(8, .int .i64 6),(7, .int .i64 9),(6, .slice d 9 9),(2, .bool false),(1, .pointer (some ⟨b,0,none⟩))] _
 replace aZ:(if Q=true then false else decide (¬ (((a.bB:Nat):Int)=0)))=dU:=aZ
 refine nt ?_
 rcases Bool.eq_false_or_eq_true (dU) with bz | bz
 refine jT bz (sr (An rfl (rt (bR (tR (tR (bR (tR (rs ?_)))))))))
 have jA:=bK.pk []
 obtain rfl:_=false:=hr.symm.trans (et (aa ay) (et (aa au) (et (dn aS) (et (aa aH) (et (aa az) (et (dn bn) (et (aa aP) (et (aa aI) (et (dn bq) (et (aa bg) (et (aa X) (et (dn aJ) (et (aa aN) (et (aa aC) (et (dn aQ) (et (aa aY) (et (aa aO) (et (dn bi) (et (aa bv) (et (aa aZ) (ip bz)))))))))))))))))))))
 exact⟨rfl,jA⟩
 refine jF bz (Wp.skip (bN (Fin.then (Wp.region (Kz (.int .i64 7) (Mz rfl (WL.nil (Fin.again [(8, .int .i64 7),(7, .int .i64 9),(6, .slice d 9 9),(2, .bool false),(1, .pointer (some ⟨b,0,none⟩))] ⟨rfl,rfl,rfl,rfl,rfl,trivial⟩ (sr (Kz (.bool true) (nt (Wp.seq (jt (sk (Wp.seq (bo (sr ?_)))))))))))))))))
 have gT:([113,98,116,108,118,101,109,97,110]:List UInt8)[7]? =some 97:=rfl
 refine fw (.pointer (some ⟨ab d,ao d+7 *1,none⟩)) (Yl.indexAddr (bW) rfl rfl ((bK.rds (i:=0) rfl).addr (i:=7) (by omega)) (by omega)) (fw (.int .u8 97) (Yl.load rfl (bu.one Tryz.isAgg5 (((bK.rds (i:=0) rfl).elem av gT (by decide)).at_ (k:=0) rfl))) (Ar rfl (Kz (.pointer (some ⟨b,0,none⟩)) (Lz (.int .i64 a.ae) bK 1 Tryz.isAgg3 (Mz rfl ?_)))))
 obtain⟨R,bE⟩:∃ q,ak a.ae (97:UInt8)=q:=⟨_,rfl⟩
 obtain⟨ma,gU,kW,gV,kX⟩:=Own.enter0 bK
 refine cl Tryz.call73 (gL _ _ a.ae (97:UInt8) R gU bE) ?_
 rintro _ mf ⟨rfl,gW⟩
 have dV:=gV _ _ gW
 refine Kz (.bool (!R)) (Mz rfl ?_)
 refine WL.cutJ (ι:=Bool) 6 (fun i=> [(23, .bool i),(17, .bool (!R)),(16, .bool (!R)),(15, .bool R),(14, .int .u8 97),(13, .int .i64 a.ae),(12, .pointer (some ⟨b,0,none⟩)),(4, .int .u8 97),(11, .int .u8 97),(10, .pointer (some ⟨ab d,ao d+7 *1,none⟩)),(9, .bool true),(8, .int .i64 7),(7, .int .i64 9),(6, .slice d 9 9),(2, .bool false),(1, .pointer (some ⟨b,0,none⟩))]) (fun i w'=>Own w D w' [row d 9 9 (List.flatMap eB ([113,98,116,108,118,101,109,97,110])) 5 1,blk b (aV a h j l m n o) 29]∧((if R=true then false else decide (¬ (((a.aK:Nat):Int)=0)))=i)) ?_ ?_
 intro dW
 rcases Bool.eq_false_or_eq_true (R) with M | M
 refine Sz (cn M) (Sz (cn M) (Sz (cn M) (Sz (cn M) (Sz (cn M) (fw (.bool false) (Yl.pickF rfl (cn M) rfl) ?_)))))
 have jB:=dV.pk [0,1]
 exact dW false _ _ ⟨jB,(show (if R=true then false else decide (¬ (((a.aK:Nat):Int)=0)))=false from ip M)⟩ ⟨rfl,rfl,rfl,rfl,rfl,rfl,rfl,rfl,rfl,rfl,rfl,rfl,rfl,rfl,rfl,rfl,trivial⟩
 refine gw (.int .u8 97) (cn M) (Yl.move rfl) ?_
 refine WL.doG rfl rfl (cn M) rfl (Do.call Tryz.call47 rfl ?_ (fun _ _ k=>k))
 refine Calls.body (args:= [.pointer (some ⟨b,0,none⟩), .int .u8 97]) Tryz.func47 rfl rfl rfl ?_
 show Wp _ _ _ [(0, .pointer (some ⟨b,0,none⟩)),(1, .int .u8 97)] _ _
 refine sr (An rfl (Wp.seq (sr (Mn rfl (bo (sr (Kz (.bool false) (An rfl (jf (sr (Kz (.bool false) (An rfl (jf (sr (Kz (.bool false) (An rfl (jf (sr (Kz (.bool false) (An rfl (jf ?_)))))))))))))))))))))
 refine sr (Kz (.bool false) (An rfl (jf (sr (Kz (.bool false) (An rfl (jf (sr (Kz (.bool false) (An rfl (jf (sr (Kz (.bool true) (An rfl (jt (sr (Mz rfl (Kz (.pointer (some ⟨b,0,none⟩)) (Kz (.pointer (some ⟨b,13,none⟩)) (An rfl (rt (bR (tR (rs ?_))))))))))))))))))))))))
 refine Gz (.pointer (some ⟨b,13,none⟩)) (cn M) (Gl (.int .u64 ((a.aK:Nat):Int)) (cn M) dV 1 Tryz.isAgg22 (gw (.bool (decide (¬ (((a.aK:Nat):Int)=0)))) (cn M) (Yl.bool (e:= !(decide (((a.aK:Nat):Int)=0))) yk decide_not.symm) (fw (.bool (decide (¬ (((a.aK:Nat):Int)=0)))) (Yl.pickT rfl (cn M) rfl) ?_)))
 have jD:=dV.pk [0,1]
 exact dW (decide (¬ (((a.aK:Nat):Int)=0))) _ _ ⟨jD,(show (if R=true then false else decide (¬ (((a.aK:Nat):Int)=0)))=decide (¬ (((a.aK:Nat):Int)=0)) from dn M)⟩ ⟨rfl,rfl,rfl,rfl,rfl,rfl,rfl,rfl,rfl,rfl,rfl,rfl,rfl,rfl,rfl,rfl,trivial⟩
 rintro dX mg ⟨bL,bA⟩
 show WL _ _ _ (List.drop 6 _) _ [(23, .bool dX),(17, .bool (!R)),(16, .bool (!R)),(15, .bool R),(14, .int .u8 97),(13, .int .i64 a.ae),(12, .pointer (some ⟨b,0,none⟩)),(4, .int .u8 97),(11, .int .u8 97),(10, .pointer (some ⟨ab d,ao d+7 *1,none⟩)),(9, .bool true),(8, .int .i64 7),(7, .int .i64 9),(6, .slice d 9 9),(2, .bool false),(1, .pointer (some ⟨b,0,none⟩))] _
 replace bA:(if R=true then false else decide (¬ (((a.aK:Nat):Int)=0)))=dX:=bA
 refine nt ?_
 rcases Bool.eq_false_or_eq_true (dX) with bB | bB
 refine jT bB (sr (An rfl (rt (bR (tR (tR (bR (tR (rs ?_)))))))))
 have jE:=bL.pk []
 obtain rfl:_=false:=hr.symm.trans (et (aa ay) (et (aa au) (et (dn aS) (et (aa aH) (et (aa az) (et (dn bn) (et (aa aP) (et (aa aI) (et (dn bq) (et (aa bg) (et (aa X) (et (dn aJ) (et (aa aN) (et (aa aC) (et (dn aQ) (et (aa aY) (et (aa aO) (et (dn bi) (et (aa bv) (et (aa aZ) (et (dn bz) (et (aa bE) (et (aa bA) (ip bB))))))))))))))))))))))))
 exact⟨rfl,jE⟩
 refine jF bB (Wp.skip (bN (Fin.then (Wp.region (Kz (.int .i64 8) (Mz rfl (WL.nil (Fin.again [(8, .int .i64 8),(7, .int .i64 9),(6, .slice d 9 9),(2, .bool false),(1, .pointer (some ⟨b,0,none⟩))] ⟨rfl,rfl,rfl,rfl,rfl,trivial⟩ (sr (Kz (.bool true) (nt (Wp.seq (jt (sk (Wp.seq (bo (sr ?_)))))))))))))))))
 have gX:([113,98,116,108,118,101,109,97,110]:List UInt8)[8]? =some 110:=rfl
 refine fw (.pointer (some ⟨ab d,ao d+8 *1,none⟩)) (Yl.indexAddr (bW) rfl rfl ((bL.rds (i:=0) rfl).addr (i:=8) (by omega)) (by omega)) (fw (.int .u8 110) (Yl.load rfl (bu.one Tryz.isAgg5 (((bL.rds (i:=0) rfl).elem av gX (by decide)).at_ (k:=0) rfl))) (Ar rfl (Kz (.pointer (some ⟨b,0,none⟩)) (Lz (.int .i64 a.ae) bL 1 Tryz.isAgg3 (Mz rfl ?_)))))
 obtain⟨S,bO⟩:∃ q,ak a.ae (110:UInt8)=q:=⟨_,rfl⟩
 obtain⟨mh,gY,kY,gZ,kZ⟩:=Own.enter0 bL
 refine cl Tryz.call73 (gL _ _ a.ae (110:UInt8) S gY bO) ?_
 rintro _ mi ⟨rfl,ib⟩
 have dY:=gZ _ _ ib
 refine Kz (.bool (!S)) (Mz rfl ?_)
 refine WL.cutJ (ι:=Bool) 6 (fun i=> [(23, .bool i),(17, .bool (!S)),(16, .bool (!S)),(15, .bool S),(14, .int .u8 110),(13, .int .i64 a.ae),(12, .pointer (some ⟨b,0,none⟩)),(4, .int .u8 110),(11, .int .u8 110),(10, .pointer (some ⟨ab d,ao d+8 *1,none⟩)),(9, .bool true),(8, .int .i64 8),(7, .int .i64 9),(6, .slice d 9 9),(2, .bool false),(1, .pointer (some ⟨b,0,none⟩))]) (fun i w'=>Own w D w' [row d 9 9 (List.flatMap eB ([113,98,116,108,118,101,109,97,110])) 5 1,blk b (aV a h j l m n o) 29]∧((if S=true then false else decide (¬ (((a.xN:Nat):Int)=0)))=i)) ?_ ?_
 intro dZ
 rcases Bool.eq_false_or_eq_true (S) with N | N
 refine Sz (cn N) (Sz (cn N) (Sz (cn N) (Sz (cn N) (Sz (cn N) (fw (.bool false) (Yl.pickF rfl (cn N) rfl) ?_)))))
 have jG:=dY.pk [0,1]
 exact dZ false _ _ ⟨jG,(show (if S=true then false else decide (¬ (((a.xN:Nat):Int)=0)))=false from ip N)⟩ ⟨rfl,rfl,rfl,rfl,rfl,rfl,rfl,rfl,rfl,rfl,rfl,rfl,rfl,rfl,rfl,rfl,trivial⟩
 refine gw (.int .u8 110) (cn N) (Yl.move rfl) ?_
 refine WL.doG rfl rfl (cn N) rfl (Do.call Tryz.call47 rfl ?_ (fun _ _ k=>k))
 refine Calls.body (args:= [.pointer (some ⟨b,0,none⟩), .int .u8 110]) Tryz.func47 rfl rfl rfl ?_
 show Wp _ _ _ [(0, .pointer (some ⟨b,0,none⟩)),(1, .int .u8 110)] _ _
 refine sr (An rfl (Wp.seq (sr (Mn rfl (bo (sr (Kz (.bool false) (An rfl (jf (sr (Kz (.bool false) (An rfl (jf (sr (Kz (.bool false) (An rfl (jf (sr (Kz (.bool false) (An rfl (jf ?_)))))))))))))))))))))
 refine sr (Kz (.bool false) (An rfl (jf (sr (Kz (.bool false) (An rfl (jf (sr (Kz (.bool false) (An rfl (jf (sr (Kz (.bool false) (An rfl (jf (sr (Kz (.bool true) (An rfl (jt (sr (Mz rfl (Kz (.pointer (some ⟨b,0,none⟩)) (Kz (.pointer (some ⟨b,14,none⟩)) ?_)))))))))))))))))))))))
 refine An rfl (rt (bR (tR (rs (Gz (.pointer (some ⟨b,14,none⟩)) (cn N) (Gl (.int .u64 ((a.xN:Nat):Int)) (cn N) dY 1 Tryz.isAgg22 (gw (.bool (decide (¬ (((a.xN:Nat):Int)=0)))) (cn N) (Yl.bool (e:= !(decide (((a.xN:Nat):Int)=0))) yk decide_not.symm) (fw (.bool (decide (¬ (((a.xN:Nat):Int)=0)))) (Yl.pickT rfl (cn N) rfl) ?_))))))))
 have jH:=dY.pk [0,1]
 exact dZ (decide (¬ (((a.xN:Nat):Int)=0))) _ _ ⟨jH,(show (if S=true then false else decide (¬ (((a.xN:Nat):Int)=0)))=decide (¬ (((a.xN:Nat):Int)=0)) from dn N)⟩ ⟨rfl,rfl,rfl,rfl,rfl,rfl,rfl,rfl,rfl,rfl,rfl,rfl,rfl,rfl,rfl,rfl,trivial⟩
 rintro d9 mo ⟨fO,bF⟩
 show WL _ _ _ (List.drop 6 _) _ [(23, .bool d9),(17, .bool (!S)),(16, .bool (!S)),(15, .bool S),(14, .int .u8 110),(13, .int .i64 a.ae),(12, .pointer (some ⟨b,0,none⟩)),(4, .int .u8 110),(11, .int .u8 110),(10, .pointer (some ⟨ab d,ao d+8 *1,none⟩)),(9, .bool true),(8, .int .i64 8),(7, .int .i64 9),(6, .slice d 9 9),(2, .bool false),(1, .pointer (some ⟨b,0,none⟩))] _
 replace bF:(if S=true then false else decide (¬ (((a.xN:Nat):Int)=0)))=d9:=bF
 refine nt ?_
 rcases Bool.eq_false_or_eq_true (d9) with bM | bM
 refine jT bM (sr (An rfl (rt (bR (tR (tR (bR (tR (rs ?_)))))))))
 have jJ:=fO.pk []
 obtain rfl:_=false:=hr.symm.trans (et (aa ay) (et (aa au) (et (dn aS) (et (aa aH) (et (aa az) (et (dn bn) (et (aa aP) (et (aa aI) (et (dn bq) (et (aa bg) (et (aa X) (et (dn aJ) (et (aa aN) (et (aa aC) (et (dn aQ) (et (aa aY) (et (aa aO) (et (dn bi) (et (aa bv) (et (aa aZ) (et (dn bz) (et (aa bE) (et (aa bA) (et (dn bB) (et (aa bO) (et (aa bF) (ip bM)))))))))))))))))))))))))))
 exact⟨rfl,jJ⟩
 refine jF bM (Wp.skip (bN (Fin.then (Wp.region (Kz (.int .i64 9) (Mz rfl (WL.nil (Fin.again [(8, .int .i64 9),(7, .int .i64 9),(6, .slice d 9 9),(2, .bool false),(1, .pointer (some ⟨b,0,none⟩))] ⟨rfl,rfl,rfl,rfl,rfl,trivial⟩ (sr (Kz (.bool false) (nt (Wp.seq (jf (Wp.exit (Fin.thenX (Fin.thenX (Fin.blockX (Fin.then (Wp.seq ?_)))))))))))))))))))
 have dA:=fO.pk [1]
 refine Wp.region (Kz (.pointer (some ⟨b,3,none⟩)) (Lz (.int .i64 a.aO) dA 0 Tryz.isAgg3 (Kz (.bool (decide (a.aO=0))) (Mz rfl ?_))))
 refine WL.cutJ (ι:=Bool) 9 (fun i=> [(37, .bool i),(28, .bool (decide (a.aO=0))),(27, .bool (decide (a.aO=0))),(26, .int .i64 a.aO),(25, .pointer (some ⟨b,3,none⟩)),(9, .bool false),(8, .int .i64 9),(7, .int .i64 9),(6, .slice d 9 9),(2, .bool false),(1, .pointer (some ⟨b,0,none⟩))]) (fun i w'=>Own w D w' [blk b (aV a h j l m n o) 29]∧((if a.aO=0 then bnd (ak a.ae (99:UInt8)) fun Y=>if Y=true then true else decide (a.bq=0) else false)=i)) ?_ ?_
 intro bP
 by_cases F:a.aO=0
 refine Gz (.pointer (some ⟨b,0,none⟩)) (dT F) (Gl (.int .i64 a.ae) (dT F) dA 0 Tryz.isAgg3 ?_)
 obtain⟨ed,bQ⟩:∃ q,ak a.ae (99:UInt8)=q:=⟨_,rfl⟩
 obtain⟨mq,ic,lc,ig,lg⟩:=Own.enter0 dA
 refine jI (dT F) Tryz.call73 (gL _ _ a.ae (99:UInt8) ed ic bQ) ?_
 rintro _ mr ⟨rfl,ik⟩
 have eu:=ig _ _ ik
 refine gw (.bool ed) (dT F) (Yl.move rfl) ?_
 rcases Bool.eq_false_or_eq_true (ed) with aD | aD
 refine Sz aD (Sz aD (Sz aD (gw (.bool true) (dT F) (Yl.pickT rfl aD rfl) (fw (.bool true) (Yl.pickT rfl (dT F) rfl) ?_))))
 have jK:=eu.pk [0]
 exact bP true _ _ ⟨jK,(show (if a.aO=0 then bnd (ak a.ae (99:UInt8)) fun Y=>if Y=true then true else decide (a.bq=0) else false)=true from et (ip F) (et (aa bQ) (ip aD)))⟩ ⟨rfl,rfl,rfl,rfl,rfl,rfl,rfl,rfl,rfl,rfl,rfl,trivial⟩
 refine Gz (.pointer (some ⟨b,4,none⟩)) aD (Gl (.int .i64 a.bq) aD eu 0 Tryz.isAgg3 (Gz (.bool (decide (a.bq=0))) aD (gw (.bool (decide (a.bq=0))) (dT F) (Yl.pickF rfl aD rfl) (fw (.bool (decide (a.bq=0))) (Yl.pickT rfl (dT F) rfl) ?_))))
 have jL:=eu.pk [0]
 exact bP (decide (a.bq=0)) _ _ ⟨jL,(show (if a.aO=0 then bnd (ak a.ae (99:UInt8)) fun Y=>if Y=true then true else decide (a.bq=0) else false)=decide (a.bq=0) from et (ip F) (et (aa bQ) (dn aD)))⟩ ⟨rfl,rfl,rfl,rfl,rfl,rfl,rfl,rfl,rfl,rfl,rfl,trivial⟩
 refine Sz (dF F) (Sz (dF F) (Sz (dF F) (Sz (dF F) (WL.skipU rfl rfl rfl (WL.skipU rfl rfl rfl (WL.skipU rfl rfl rfl (Sz (dF F) (fw (.bool false) (Yl.pickF rfl (dF F) rfl) ?_))))))))
 have jM:=dA.pk [0]
 exact bP false _ _ ⟨jM,(show (if a.aO=0 then bnd (ak a.ae (99:UInt8)) fun Y=>if Y=true then true else decide (a.bq=0) else false)=false from iN F)⟩ ⟨rfl,rfl,rfl,rfl,rfl,rfl,rfl,rfl,rfl,rfl,rfl,trivial⟩
 rintro f mD ⟨eF,bS⟩
 show WL _ _ _ (List.drop 9 _) _ [(37, .bool f),(28, .bool (decide (a.aO=0))),(27, .bool (decide (a.aO=0))),(26, .int .i64 a.aO),(25, .pointer (some ⟨b,3,none⟩)),(9, .bool false),(8, .int .i64 9),(7, .int .i64 9),(6, .slice d 9 9),(2, .bool false),(1, .pointer (some ⟨b,0,none⟩))] _
 replace bS:(if a.aO=0 then bnd (ak a.ae (99:UInt8)) fun Y=>if Y=true then true else decide (a.bq=0) else false)=f:=bS
 refine Mz rfl ?_
 refine WL.cutJ (ι:=Bool) 9 (fun i=> [(47, .bool i),(38, .bool f),(37, .bool f),(28, .bool (decide (a.aO=0))),(27, .bool (decide (a.aO=0))),(26, .int .i64 a.aO),(25, .pointer (some ⟨b,3,none⟩)),(9, .bool false),(8, .int .i64 9),(7, .int .i64 9),(6, .slice d 9 9),(2, .bool false),(1, .pointer (some ⟨b,0,none⟩))]) (fun i w'=>Own w D w' [blk b (aV a h j l m n o) 29]∧((if f=true then bnd (ak a.ae (112:UInt8)) fun Z=>if Z=true then true else decide (a.bM=0) else false)=i)) ?_ ?_
 intro bT
 rcases Bool.eq_false_or_eq_true (f) with s | s
 refine Gz (.pointer (some ⟨b,0,none⟩)) s (Gl (.int .i64 a.ae) s eF 0 Tryz.isAgg3 ?_)
 obtain⟨eG,bU⟩:∃ q,ak a.ae (112:UInt8)=q:=⟨_,rfl⟩
 obtain⟨mE,il,lh,iq,ll⟩:=Own.enter0 eF
 refine WL.doG rfl rfl s rfl (Do.call Tryz.call73 rfl (gL _ _ a.ae (112:UInt8) eG il bU) ?_)
 rintro _ mF ⟨rfl,iw⟩
 have eH:=iq _ _ iw
 refine WL.valG (v:= .bool eG) rfl rfl s rfl (Yl.move rfl) ?_
 rcases Bool.eq_false_or_eq_true (eG) with aF | aF
 refine Sz aF (Sz aF (Sz aF (WL.valG (v:= .bool true) rfl rfl s rfl (Yl.pickT rfl aF rfl) (fw (.bool true) (Yl.pickT rfl s rfl) ?_))))
 have jN:=eH.pk [0]
 exact bT true _ _ ⟨jN,(show (if f=true then bnd (ak a.ae (112:UInt8)) fun Z=>if Z=true then true else decide (a.bM=0) else false)=true from et (ip s) (et (aa bU) (ip aF)))⟩ ⟨rfl,rfl,rfl,rfl,rfl,rfl,rfl,rfl,rfl,rfl,rfl,rfl,rfl,trivial⟩
 refine Gz (.pointer (some ⟨b,5,none⟩)) aF (Gl (.int .i64 a.bM) aF eH 0 Tryz.isAgg3 (Gz (.bool (decide (a.bM=0))) aF (WL.valG (v:= .bool (decide (a.bM=0))) rfl rfl s rfl (Yl.pickF rfl aF rfl) (fw (.bool (decide (a.bM=0))) (Yl.pickT rfl s rfl) ?_))))
 have jO:=eH.pk [0]
 exact bT (decide (a.bM=0)) _ _ ⟨jO,(show (if f=true then bnd (ak a.ae (112:UInt8)) fun Z=>if Z=true then true else decide (a.bM=0) else false)=decide (a.bM=0) from et (ip s) (et (aa bU) (dn aF)))⟩ ⟨rfl,rfl,rfl,rfl,rfl,rfl,rfl,rfl,rfl,rfl,rfl,rfl,rfl,trivial⟩
 refine Sz s (Sz s (Sz s (Sz s (WL.skipU rfl rfl rfl (WL.skipU rfl rfl rfl (WL.skipU rfl rfl rfl (Sz s (fw (.bool false) (Yl.pickF rfl s rfl) ?_))))))))
 have jP:=eF.pk [0]
 exact bT false _ _ ⟨jP,(show (if f=true then bnd (ak a.ae (112:UInt8)) fun Z=>if Z=true then true else decide (a.bM=0) else false)=false from dn s)⟩ ⟨rfl,rfl,rfl,rfl,rfl,rfl,rfl,rfl,rfl,rfl,rfl,rfl,rfl,trivial⟩
 rintro g mG ⟨eO,bV⟩
 show WL _ _ _ (List.drop 9 _) _ [(47, .bool g),(38, .bool f),(37, .bool f),(28, .bool (decide (a.aO=0))),(27, .bool (decide (a.aO=0))),(26, .int .i64 a.aO),(25, .pointer (some ⟨b,3,none⟩)),(9, .bool false),(8, .int .i64 9),(7, .int .i64 9),(6, .slice d 9 9),(2, .bool false),(1, .pointer (some ⟨b,0,none⟩))] _
 replace bV:(if f=true then bnd (ak a.ae (112:UInt8)) fun Z=>if Z=true then true else decide (a.bM=0) else false)=g:=bV
 refine Mz rfl ?_
 refine WL.cutJ (ι:=Bool) 9 (fun i=> [(57, .bool i),(48, .bool g),(47, .bool g),(38, .bool f),(37, .bool f),(28, .bool (decide (a.aO=0))),(27, .bool (decide (a.aO=0))),(26, .int .i64 a.aO),(25, .pointer (some ⟨b,3,none⟩)),(9, .bool false),(8, .int .i64 9),(7, .int .i64 9),(6, .slice d 9 9),(2, .bool false),(1, .pointer (some ⟨b,0,none⟩))]) (fun i w'=>Own w D w' [blk b (aV a h j l m n o) 29]∧((if g=true then bnd (ak a.ae (102:UInt8)) fun ae=>if ae=true then true else !a.bV else false)=i)) ?_ ?_
 intro bX
 rcases Bool.eq_false_or_eq_true (g) with t | t
 refine Gz (.pointer (some ⟨b,0,none⟩)) t (Gl (.int .i64 a.ae) t eO 0 Tryz.isAgg3 ?_)
 obtain⟨eP,bY⟩:∃ q,ak a.ae (102:UInt8)=q:=⟨_,rfl⟩
 obtain⟨mH,iy,lm,iA,lq⟩:=Own.enter0 eO
 refine WL.doG rfl rfl t rfl (Do.call Tryz.call73 rfl (gL _ _ a.ae (102:UInt8) eP iy bY) ?_)
 rintro _ mI ⟨rfl,iB⟩
 have eQ:=iA _ _ iB
 refine WL.valG (v:= .bool eP) rfl rfl t rfl (Yl.move rfl) ?_
 rcases Bool.eq_false_or_eq_true (eP) with aG | aG
 refine Sz aG (Sz aG (Sz aG (WL.valG (v:= .bool true) rfl rfl t rfl (Yl.pickT rfl aG rfl) (fw (.bool true) (Yl.pickT rfl t rfl) ?_))))
 have jQ:=eQ.pk [0]
 exact bX true _ _ ⟨jQ,(show (if g=true then bnd (ak a.ae (102:UInt8)) fun ae=>if ae=true then true else !a.bV else false)=true from et (ip t) (et (aa bY) (ip aG)))⟩ ⟨rfl,rfl,rfl,rfl,rfl,rfl,rfl,rfl,rfl,rfl,rfl,rfl,rfl,rfl,rfl,trivial⟩
 refine Gz (.pointer (some ⟨b,15,none⟩)) aG (Gl (.bool a.bV) aG eQ 0 Tryz.isAgg4 (Gz (.bool (!a.bV)) aG (WL.valG (v:= .bool (!a.bV)) rfl rfl t rfl (Yl.pickF rfl aG rfl) (fw (.bool (!a.bV)) (Yl.pickT rfl t rfl) ?_))))
 have jR:=eQ.pk [0]
 exact bX (!a.bV) _ _ ⟨jR,(show (if g=true then bnd (ak a.ae (102:UInt8)) fun ae=>if ae=true then true else !a.bV else false)= !a.bV from et (ip t) (et (aa bY) (dn aG)))⟩ ⟨rfl,rfl,rfl,rfl,rfl,rfl,rfl,rfl,rfl,rfl,rfl,rfl,rfl,rfl,rfl,trivial⟩
 refine Sz t (Sz t (Sz t (Sz t (WL.skipU rfl rfl rfl (WL.skipU rfl rfl rfl (WL.skipU rfl rfl rfl (Sz t (fw (.bool false) (Yl.pickF rfl t rfl) ?_))))))))
 have jS:=eO.pk [0]
 exact bX false _ _ ⟨jS,(show (if g=true then bnd (ak a.ae (102:UInt8)) fun ae=>if ae=true then true else !a.bV else false)=false from dn t)⟩ ⟨rfl,rfl,rfl,rfl,rfl,rfl,rfl,rfl,rfl,rfl,rfl,rfl,rfl,rfl,rfl,trivial⟩
 rintro p mJ ⟨eT,bZ⟩
 show WL _ _ _ (List.drop 9 _) _ [(57, .bool p),(48, .bool g),(47, .bool g),(38, .bool f),(37, .bool f),(28, .bool (decide (a.aO=0))),(27, .bool (decide (a.aO=0))),(26, .int .i64 a.aO),(25, .pointer (some ⟨b,3,none⟩)),(9, .bool false),(8, .int .i64 9),(7, .int .i64 9),(6, .slice d 9 9),(2, .bool false),(1, .pointer (some ⟨b,0,none⟩))] _
 replace bZ:(if g=true then bnd (ak a.ae (102:UInt8)) fun ae=>if ae=true then true else !a.bV else false)=p:=bZ
 refine Mz rfl ?_
 refine WL.cutJ (ι:=Bool) 10 (fun i=> [(68, .bool i),(58, .bool p),(57, .bool p),(48, .bool g),(47, .bool g),(38, .bool f),(37, .bool f),(28, .bool (decide (a.aO=0))),(27, .bool (decide (a.aO=0))),(26, .int .i64 a.aO),(25, .pointer (some ⟨b,3,none⟩)),(9, .bool false),(8, .int .i64 9),(7, .int .i64 9),(6, .slice d 9 9),(2, .bool false),(1, .pointer (some ⟨b,0,none⟩))]) (fun i w'=>Own w D w' [blk b (aV a h j l m n o) 29]∧((if p=true then bnd (ak a.ae (114:UInt8)) fun af=>if af=true then true else decide ((a.aG.aD=([]))∧(a.aG.aI=([]))) else false)=i)) ?_ ?_
 intro cu
 rcases Bool.eq_false_or_eq_true (p) with z | z
 refine Gz (.pointer (some ⟨b,0,none⟩)) z (Gl (.int .i64 a.ae) z eT 0 Tryz.isAgg3 ?_)
 obtain⟨eU,cz⟩:∃ q,ak a.ae (114:UInt8)=q:=⟨_,rfl⟩
 obtain⟨mK,iC,lu,iD,lv⟩:=Own.enter0 eT
 refine WL.doG rfl rfl z rfl (Do.call Tryz.call73 rfl (gL _ _ a.ae (114:UInt8) eU iC cz) ?_)
 rintro _ mM ⟨rfl,iE⟩
 have eX:=iD _ _ iE
 refine WL.valG (v:= .bool eU) rfl rfl z rfl (Yl.move rfl) ?_
 rcases Bool.eq_false_or_eq_true (eU) with T | T
 refine Sz T (Sz T (Sz T (Sz T (WL.valG (v:= .bool true) rfl rfl z rfl (Yl.pickT rfl T rfl) (fw (.bool true) (Yl.pickT rfl z rfl) ?_)))))
 have jU:=eX.pk [0]
 exact cu true _ _ ⟨jU,(show (if p=true then bnd (ak a.ae (114:UInt8)) fun af=>if af=true then true else decide ((a.aG.aD=([]))∧(a.aG.aI=([]))) else false)=true from et (ip z) (et (aa cz) (ip T)))⟩ ⟨rfl,rfl,rfl,rfl,rfl,rfl,rfl,rfl,rfl,rfl,rfl,rfl,rfl,rfl,rfl,rfl,rfl,trivial⟩
 refine Gz (.pointer (some ⟨b,16,none⟩)) T (Ga (bC.cells a.aG) T eX 0 Tryz.isAgg24 Tryz.sizeOf24 (Gz (.agg #[.string ⟨List.toArray ([])⟩, .string ⟨List.toArray ([])⟩]) T (WL.valG (v:= .bool (decide ((a.aG.aD=([]))∧(a.aG.aI=([]))))) rfl rfl T rfl (Yl.eqAgg rfl rfl (by kernel_rfl) rfl (fB.struct Tryz.underlying24 (by kernel_rfl) (eD.dec (eD.cons (u:= .string ⟨List.toArray a.aG.aD⟩) (v:= .string ⟨List.toArray ([])⟩) (by decide) (fun _=>by kernel_rfl) (fun _=>by kernel_rfl) (fB.string Tryz.underlying9) (eD.cons (u:= .string ⟨List.toArray a.aG.aI⟩) (v:= .string ⟨List.toArray ([])⟩) (by decide) (fun _=>by kernel_rfl) (fun _=>by kernel_rfl) (fB.string Tryz.underlying9) (eD.nil.up (Nat.zero_le _)))) ((congrArg (decide (a.aG.aD=([])) && ·) jC).trans ek)))) (WL.valG (v:= .bool (decide ((a.aG.aD=([]))∧(a.aG.aI=([]))))) rfl rfl z rfl (Yl.pickF rfl T rfl) (fw (.bool (decide ((a.aG.aD=([]))∧(a.aG.aI=([]))))) (Yl.pickT rfl z rfl) ?_)))))
 have jV:=eX.pk [0]
 exact cu (decide ((a.aG.aD=([]))∧(a.aG.aI=([])))) _ _ ⟨jV,(show (if p=true then bnd (ak a.ae (114:UInt8)) fun af=>if af=true then true else decide ((a.aG.aD=([]))∧(a.aG.aI=([]))) else false)=decide ((a.aG.aD=([]))∧(a.aG.aI=([]))) from et (ip z) (et (aa cz) (dn T)))⟩ ⟨rfl,rfl,rfl,rfl,rfl,rfl,rfl,rfl,rfl,rfl,rfl,rfl,rfl,rfl,rfl,rfl,rfl,trivial⟩
 refine Sz z (Sz z (Sz z (Sz z (WL.skipU rfl rfl rfl (WL.skipU rfl rfl rfl (WL.skipU rfl rfl rfl (WL.skipU rfl rfl rfl (Sz z (fw (.bool false) (Yl.pickF rfl z rfl) ?_)))))))))
 have jW:=eT.pk [0]
 exact cu false _ _ ⟨jW,(show (if p=true then bnd (ak a.ae (114:UInt8)) fun af=>if af=true then true else decide ((a.aG.aD=([]))∧(a.aG.aI=([]))) else false)=false from dn z)⟩ ⟨rfl,rfl,rfl,rfl,rfl,rfl,rfl,rfl,rfl,rfl,rfl,rfl,rfl,rfl,rfl,rfl,rfl,trivial⟩
 rintro r mO ⟨eY,cB⟩
 show WL _ _ _ (List.drop 10 _) _ [(68, .bool r),(58, .bool p),(57, .bool p),(48, .bool g),(47, .bool g),(38, .bool f),(37, .bool f),(28, .bool (decide (a.aO=0))),(27, .bool (decide (a.aO=0))),(26, .int .i64 a.aO),(25, .pointer (some ⟨b,3,none⟩)),(9, .bool false),(8, .int .i64 9),(7, .int .i64 9),(6, .slice d 9 9),(2, .bool false),(1, .pointer (some ⟨b,0,none⟩))] _
 replace cB:(if p=true then bnd (ak a.ae (114:UInt8)) fun af=>if af=true then true else decide ((a.aG.aD=([]))∧(a.aG.aI=([]))) else false)=r:=cB
 refine Mz rfl ?_
 refine WL.cutJ (ι:=Bool) 10 (fun i=> [(79, .bool i),(69, .bool r),(68, .bool r),(58, .bool p),(57, .bool p),(48, .bool g),(47, .bool g),(38, .bool f),(37, .bool f),(28, .bool (decide (a.aO=0))),(27, .bool (decide (a.aO=0))),(26, .int .i64 a.aO),(25, .pointer (some ⟨b,3,none⟩)),(9, .bool false),(8, .int .i64 9),(7, .int .i64 9),(6, .slice d 9 9),(2, .bool false),(1, .pointer (some ⟨b,0,none⟩))]) (fun i w'=>Own w D w' [blk b (aV a h j l m n o) 29]∧((if r=true then bnd (ak a.ae (111:UInt8)) fun ah=>if ah=true then true else decide (((a.az.ls.length:Nat):Int)=0) else false)=i)) ?_ ?_
 intro cO
 rcases Bool.eq_false_or_eq_true (r) with B | B
 refine Gz (.pointer (some ⟨b,0,none⟩)) B (Gl (.int .i64 a.ae) B eY 0 Tryz.isAgg3 ?_)
 obtain⟨eZ,cZ⟩:∃ q,ak a.ae (111:UInt8)=q:=⟨_,rfl⟩
 obtain⟨mP,iF,lw,iG,lC⟩:=Own.enter0 eY
 refine WL.doG rfl rfl B rfl (Do.call Tryz.call73 rfl (gL _ _ a.ae (111:UInt8) eZ iF cZ) ?_)
 rintro _ mR ⟨rfl,iH⟩
 have fe:=iG _ _ iH
 refine WL.valG (v:= .bool eZ) rfl rfl B rfl (Yl.move rfl) ?_
 rcases Bool.eq_false_or_eq_true (eZ) with U | U
 refine Sz U (Sz U (Sz U (Sz U (WL.valG (v:= .bool true) rfl rfl B rfl (Yl.pickT rfl U rfl) (fw (.bool true) (Yl.pickT rfl B rfl) ?_)))))
 have jX:=fe.pk [0]
 exact cO true _ _ ⟨jX,(show (if r=true then bnd (ak a.ae (111:UInt8)) fun ah=>if ah=true then true else decide (((a.az.ls.length:Nat):Int)=0) else false)=true from et (ip B) (et (aa cZ) (ip U)))⟩ ⟨rfl,rfl,rfl,rfl,rfl,rfl,rfl,rfl,rfl,rfl,rfl,rfl,rfl,rfl,rfl,rfl,rfl,rfl,rfl,trivial⟩
 refine Gz (.pointer (some ⟨b,18,none⟩)) U (Gl (.slice h a.az.ls.length j) U fe 0 Tryz.isAgg25 (Gz (.int .i64 ((a.az.ls.length:Nat):Int)) U (Gz (.bool (decide (((a.az.ls.length:Nat):Int)=0))) U (WL.valG (v:= .bool (decide (((a.az.ls.length:Nat):Int)=0))) rfl rfl B rfl (Yl.pickF rfl U rfl) (fw (.bool (decide (((a.az.ls.length:Nat):Int)=0))) (Yl.pickT rfl B rfl) ?_)))))
 have jY:=fe.pk [0]
 exact cO (decide (((a.az.ls.length:Nat):Int)=0)) _ _ ⟨jY,(show (if r=true then bnd (ak a.ae (111:UInt8)) fun ah=>if ah=true then true else decide (((a.az.ls.length:Nat):Int)=0) else false)=decide (((a.az.ls.length:Nat):Int)=0) from et (ip B) (et (aa cZ) (dn U)))⟩ ⟨rfl,rfl,rfl,rfl,rfl,rfl,rfl,rfl,rfl,rfl,rfl,rfl,rfl,rfl,rfl,rfl,rfl,rfl,rfl,trivial⟩
 refine Sz B (Sz B (Sz B (Sz B (WL.skipU rfl rfl rfl (WL.skipU rfl rfl rfl (WL.skipU rfl rfl rfl (WL.skipU rfl rfl rfl (Sz B (fw (.bool false) (Yl.pickF rfl B rfl) ?_)))))))))
 have jZ:=eY.pk [0]
 exact cO false _ _ ⟨jZ,(show (if r=true then bnd (ak a.ae (111:UInt8)) fun ah=>if ah=true then true else decide (((a.az.ls.length:Nat):Int)=0) else false)=false from dn B)⟩ ⟨rfl,rfl,rfl,rfl,rfl,rfl,rfl,rfl,rfl,rfl,rfl,rfl,rfl,rfl,rfl,rfl,rfl,rfl,rfl,trivial⟩
 rintro G mU ⟨fo,df⟩
 show WL _ _ _ (List.drop 10 _) _ [(79, .bool G),(69, .bool r),(68, .bool r),(58, .bool p),(57, .bool p),(48, .bool g),(47, .bool g),(38, .bool f),(37, .bool f),(28, .bool (decide (a.aO=0))),(27, .bool (decide (a.aO=0))),(26, .int .i64 a.aO),(25, .pointer (some ⟨b,3,none⟩)),(9, .bool false),(8, .int .i64 9),(7, .int .i64 9),(6, .slice d 9 9),(2, .bool false),(1, .pointer (some ⟨b,0,none⟩))] _
 replace df:(if r=true then bnd (ak a.ae (111:UInt8)) fun ah=>if ah=true then true else decide (((a.az.ls.length:Nat):Int)=0) else false)=G:=df
 refine Mz rfl ?_
 refine WL.cutJ (ι:=Bool) 10 (fun i=> [(90, .bool i),(80, .bool G),(79, .bool G),(69, .bool r),(68, .bool r),(58, .bool p),(57, .bool p),(48, .bool g),(47, .bool g),(38, .bool f),(37, .bool f),(28, .bool (decide (a.aO=0))),(27, .bool (decide (a.aO=0))),(26, .int .i64 a.aO),(25, .pointer (some ⟨b,3,none⟩)),(9, .bool false),(8, .int .i64 9),(7, .int .i64 9),(6, .slice d 9 9),(2, .bool false),(1, .pointer (some ⟨b,0,none⟩))]) (fun i w'=>Own w D w' [blk b (aV a h j l m n o) 29]∧((if G=true then bnd (ak a.ae (115:UInt8)) fun ai=>if ai=true then true else decide (((a.ai.ls.length:Nat):Int)=0) else false)=i)) ?_ ?_
 intro dh
 rcases Bool.eq_false_or_eq_true (G) with C | C
 refine Gz (.pointer (some ⟨b,0,none⟩)) C (Gl (.int .i64 a.ae) C fo 0 Tryz.isAgg3 ?_)
 obtain⟨fq,di⟩:∃ q,ak a.ae (115:UInt8)=q:=⟨_,rfl⟩
 obtain⟨mV,iI,lD,iJ,lF⟩:=Own.enter0 fo
 refine WL.doG rfl rfl C rfl (Do.call Tryz.call73 rfl (gL _ _ a.ae (115:UInt8) fq iI di) ?_)
 rintro _ mW ⟨rfl,iK⟩
 have fu:=iJ _ _ iK
 refine WL.valG (v:= .bool fq) rfl rfl C rfl (Yl.move rfl) ?_
 rcases Bool.eq_false_or_eq_true (fq) with V | V
 refine Sz V (Sz V (Sz V (Sz V (WL.valG (v:= .bool true) rfl rfl C rfl (Yl.pickT rfl V rfl) (fw (.bool true) (Yl.pickT rfl C rfl) ?_)))))
 have j3:=fu.pk [0]
 exact dh true _ _ ⟨j3,(show (if G=true then bnd (ak a.ae (115:UInt8)) fun ai=>if ai=true then true else decide (((a.ai.ls.length:Nat):Int)=0) else false)=true from et (ip C) (et (aa di) (ip V)))⟩ ⟨rfl,rfl,rfl,rfl,rfl,rfl,rfl,rfl,rfl,rfl,rfl,rfl,rfl,rfl,rfl,rfl,rfl,rfl,rfl,rfl,rfl,trivial⟩
 refine Gz (.pointer (some ⟨b,19,none⟩)) V (Gl (.slice l a.ai.ls.length m) V fu 0 Tryz.isAgg26 (Gz (.int .i64 ((a.ai.ls.length:Nat):Int)) V (Gz (.bool (decide (((a.ai.ls.length:Nat):Int)=0))) V (WL.valG (v:= .bool (decide (((a.ai.ls.length:Nat):Int)=0))) rfl rfl C rfl (Yl.pickF rfl V rfl) (fw (.bool (decide (((a.ai.ls.length:Nat):Int)=0))) (Yl.pickT rfl C rfl) ?_)))))
 have j4:=fu.pk [0]
 exact dh (decide (((a.ai.ls.length:Nat):Int)=0)) _ _ ⟨j4,(show (if G=true then bnd (ak a.ae (115:UInt8)) fun ai=>if ai=true then true else decide (((a.ai.ls.length:Nat):Int)=0) else false)=decide (((a.ai.ls.length:Nat):Int)=0) from et (ip C) (et (aa di) (dn V)))⟩ ⟨rfl,rfl,rfl,rfl,rfl,rfl,rfl,rfl,rfl,rfl,rfl,rfl,rfl,rfl,rfl,rfl,rfl,rfl,rfl,rfl,rfl,trivial⟩
 refine Sz C (Sz C (Sz C (Sz C (WL.skipU rfl rfl rfl (WL.skipU rfl rfl rfl (WL.skipU rfl rfl rfl (WL.skipU rfl rfl rfl (Sz C (fw (.bool false) (Yl.pickF rfl C rfl) ?_)))))))))
 have j5:=fo.pk [0]
 exact dh false _ _ ⟨j5,(show (if G=true then bnd (ak a.ae (115:UInt8)) fun ai=>if ai=true then true else decide (((a.ai.ls.length:Nat):Int)=0) else false)=false from dn C)⟩ ⟨rfl,rfl,rfl,rfl,rfl,rfl,rfl,rfl,rfl,rfl,rfl,rfl,rfl,rfl,rfl,rfl,rfl,rfl,rfl,rfl,rfl,trivial⟩
 rintro ax mX ⟨fA,dm⟩
 show WL _ _ _ (List.drop 10 _) _ [(90, .bool ax),(80, .bool G),(79, .bool G),(69, .bool r),(68, .bool r),(58, .bool p),(57, .bool p),(48, .bool g),(47, .bool g),(38, .bool f),(37, .bool f),(28, .bool (decide (a.aO=0))),(27, .bool (decide (a.aO=0))),(26, .int .i64 a.aO),(25, .pointer (some ⟨b,3,none⟩)),(9, .bool false),(8, .int .i64 9),(7, .int .i64 9),(6, .slice d 9 9),(2, .bool false),(1, .pointer (some ⟨b,0,none⟩))] _
 replace dm:(if G=true then bnd (ak a.ae (115:UInt8)) fun ai=>if ai=true then true else decide (((a.ai.ls.length:Nat):Int)=0) else false)=ax:=dm
 refine Mz rfl ?_
 refine WL.cutJ (ι:=Bool) 10 (fun i=> [(101, .bool i),(91, .bool ax),(90, .bool ax),(80, .bool G),(79, .bool G),(69, .bool r),(68, .bool r),(58, .bool p),(57, .bool p),(48, .bool g),(47, .bool g),(38, .bool f),(37, .bool f),(28, .bool (decide (a.aO=0))),(27, .bool (decide (a.aO=0))),(26, .int .i64 a.aO),(25, .pointer (some ⟨b,3,none⟩)),(9, .bool false),(8, .int .i64 9),(7, .int .i64 9),(6, .slice d 9 9),(2, .bool false),(1, .pointer (some ⟨b,0,none⟩))]) (fun i w'=>Own w D w' [blk b (aV a h j l m n o) 29]∧((if ax=true then bnd (ak a.ae (119:UInt8)) fun aj=>if aj=true then true else decide (((a.aj.ls.length:Nat):Int)=0) else false)=i)) ?_ ?_
 intro dw
 rcases Bool.eq_false_or_eq_true (ax) with E | E
 refine Gz (.pointer (some ⟨b,0,none⟩)) E (Gl (.int .i64 a.ae) E fA 0 Tryz.isAgg3 ?_)
 obtain⟨fC,dx⟩:∃ q,ak a.ae (119:UInt8)=q:=⟨_,rfl⟩
 obtain⟨mY,iL,lG,iM,lH⟩:=Own.enter0 fA
 refine WL.doG rfl rfl E rfl (Do.call Tryz.call73 rfl (gL _ _ a.ae (119:UInt8) fC iL dx) ?_)
 rintro _ mZ ⟨rfl,iO⟩
 have fD:=iM _ _ iO
 refine WL.valG (v:= .bool fC) rfl rfl E rfl (Yl.move rfl) ?_
 rcases Bool.eq_false_or_eq_true (fC) with W | W
 refine Sz W (Sz W (Sz W (Sz W (WL.valG (v:= .bool true) rfl rfl E rfl (Yl.pickT rfl W rfl) (fw (.bool true) (Yl.pickT rfl E rfl) ?_)))))
 have j6:=fD.pk [0]
 exact dw true _ _ ⟨j6,(show (if ax=true then bnd (ak a.ae (119:UInt8)) fun aj=>if aj=true then true else decide (((a.aj.ls.length:Nat):Int)=0) else false)=true from et (ip E) (et (aa dx) (ip W)))⟩ ⟨rfl,rfl,rfl,rfl,rfl,rfl,rfl,rfl,rfl,rfl,rfl,rfl,rfl,rfl,rfl,rfl,rfl,rfl,rfl,rfl,rfl,rfl,rfl,trivial⟩
 refine Gz (.pointer (some ⟨b,20,none⟩)) W (Gl (.slice n a.aj.ls.length o) W fD 0 Tryz.isAgg27 (Gz (.int .i64 ((a.aj.ls.length:Nat):Int)) W (Gz (.bool (decide (((a.aj.ls.length:Nat):Int)=0))) W (WL.valG (v:= .bool (decide (((a.aj.ls.length:Nat):Int)=0))) rfl rfl E rfl (Yl.pickF rfl W rfl) (fw (.bool (decide (((a.aj.ls.length:Nat):Int)=0))) (Yl.pickT rfl E rfl) ?_)))))
 have kg:=fD.pk [0]
 exact dw (decide (((a.aj.ls.length:Nat):Int)=0)) _ _ ⟨kg,(show (if ax=true then bnd (ak a.ae (119:UInt8)) fun aj=>if aj=true then true else decide (((a.aj.ls.length:Nat):Int)=0) else false)=decide (((a.aj.ls.length:Nat):Int)=0) from et (ip E) (et (aa dx) (dn W)))⟩ ⟨rfl,rfl,rfl,rfl,rfl,rfl,rfl,rfl,rfl,rfl,rfl,rfl,rfl,rfl,rfl,rfl,rfl,rfl,rfl,rfl,rfl,rfl,rfl,trivial⟩
 refine Sz E (Sz E (Sz E (Sz E (WL.skipU rfl rfl rfl (WL.skipU rfl rfl rfl (WL.skipU rfl rfl rfl (WL.skipU rfl rfl rfl (Sz E (fw (.bool false) (Yl.pickF rfl E rfl) ?_)))))))))
 have ko:=fA.pk [0]
 exact dw false _ _ ⟨ko,(show (if ax=true then bnd (ak a.ae (119:UInt8)) fun aj=>if aj=true then true else decide (((a.aj.ls.length:Nat):Int)=0) else false)=false from dn E)⟩ ⟨rfl,rfl,rfl,rfl,rfl,rfl,rfl,rfl,rfl,rfl,rfl,rfl,rfl,rfl,rfl,rfl,rfl,rfl,rfl,rfl,rfl,rfl,rfl,trivial⟩
 rintro fE ng ⟨kr,dz⟩
 show WL _ _ _ (List.drop 10 _) _ [(101, .bool fE),(91, .bool ax),(90, .bool ax),(80, .bool G),(79, .bool G),(69, .bool r),(68, .bool r),(58, .bool p),(57, .bool p),(48, .bool g),(47, .bool g),(38, .bool f),(37, .bool f),(28, .bool (decide (a.aO=0))),(27, .bool (decide (a.aO=0))),(26, .int .i64 a.aO),(25, .pointer (some ⟨b,3,none⟩)),(9, .bool false),(8, .int .i64 9),(7, .int .i64 9),(6, .slice d 9 9),(2, .bool false),(1, .pointer (some ⟨b,0,none⟩))] _
 replace dz:(if ax=true then bnd (ak a.ae (119:UInt8)) fun aj=>if aj=true then true else decide (((a.aj.ls.length:Nat):Int)=0) else false)=fE:=dz
 refine An rfl (rt (rs ?_))
 have ku:=kr.pk []
 obtain rfl:_=fE:=hr.symm.trans (et (aa ay) (et (aa au) (et (dn aS) (et (aa aH) (et (aa az) (et (dn bn) (et (aa aP) (et (aa aI) (et (dn bq) (et (aa bg) (et (aa X) (et (dn aJ) (et (aa aN) (et (aa aC) (et (dn aQ) (et (aa aY) (et (aa aO) (et (dn bi) (et (aa bv) (et (aa aZ) (et (dn bz) (et (aa bE) (et (aa bA) (et (dn bB) (et (aa bO) (et (aa bF) (et (dn bM) (et (aa bS) (et (aa bV) (et (aa bZ) (et (aa cB) (et (aa df) (et (aa dm) (aa dz))))))))))))))))))))))))))))))))))
 exact⟨rfl,ku⟩
def fU:List aW→Unit ⊕ Bool
  | []=>Sum.inl ()
  | a::c=>bnd (gW a.aL) fun b=>if b=0 then if((a.au.length:Nat):Int) > 16 then Sum.inr (false) else fU c else Sum.inr (false)
def fq:List aX→Unit ⊕ Bool
  | []=>Sum.inl ()
  | a::b=>if((a.au.length:Nat):Int) > 16 then Sum.inr (false) else if((a.ay.ls.length:Nat):Int) > 4 then Sum.inr (false) else rO (fU a.ay.ls) fun _=>fq b
def gZ (a:List aX) (b:Int):Bool:=
 if((a.length:Nat):Int) > b then false else lp (fq a) fun _=>true
theorem j3 (w:World) (D:Nat→Prop) (p:Option Addr) (n0 M:Nat) (d0:List ag) (d:List aX) (O:Int) (r0:Bool) (H:Own w D w []) (P:List.map ag.abs d0=d) (N:Ro w D fun w'=>bD w' 3 p n0 (List.flatMap ag.cells d0)) (G:∀ x ∈ d0,Ro w D (fun w'=>bD w' 2 x.ay.A x.ay.ls.length (List.flatMap aW.cells x.ay.ls))∧(x.ay.ls.length≤x.ay.c∧x.ay.ls.length≤9223372036854775807)) (av:n0=d.length) (aQ:d.length≤9223372036854775807) (hr:gZ d O=r0):
    Calls Tryz.prog 31 #[.slice p n0 M, .int .i64 O] w (cK fun v w'=>v= .bool r0∧Own w D w' []):=by
 subst av
 have hdl0:=dM P
 refine Calls.body (args:= [.slice p d.length M, .int .i64 O]) Tryz.func31 rfl rfl rfl ?_
 show Wp _ _ _ [(0, .slice p d.length M),(1, .int .i64 O)] _ _
 refine sr (An rfl (Wp.seq (sr (Mz rfl (Kz (.int .i64 ((d.length:Nat):Int)) (Mz rfl (Kz (.bool (decide (((d.length:Nat):Int) > O))) (nt ?_))))))))
 by_cases n:((d.length:Nat):Int) > O
 refine jT (dT n) (sr (An rfl (rt (tR (rs ?_)))))
 have ax:Own w D w []:=H.pk []
 obtain rfl:_=false:=hr.symm.trans (ip n)
 exact⟨rfl,ax⟩
 refine jF (dF n) (sk (Wp.seq (sr (Mz rfl (Kz (.int .i64 ((d.length:Nat):Int)) (Mn rfl (bo ?_)))))))
 have ay:Own w D w []:=H.pk []
 obtain⟨Q,R⟩:∃ q:Nat→World→Prop,q=fun(i:Nat) w'=>Own w D w' []∧(i≤d.length∧fq d=fq (List.drop i d)):=⟨_,rfl⟩
 have y:∀ {b:Nat} {w':World},Q b w'↔Own w D w' []∧b≤d.length∧fq d=fq (List.drop b d):=by intros; subst R; exact Iff.rfl
 refine Wp.loop (fun i:Nat=> [(4, .bool false),(15, .int .i64 ((i:Nat):Int)),(14, .int .i64 ((d.length:Nat):Int)),(13, .slice p d.length M)]) Q (fun i=>d.length - i) 0 ⟨rfl,rfl,rfl,rfl,trivial⟩ (y.2 ⟨ay,by omega,rfl⟩) ?_
 rintro b aR S
 show Wp _ _ _ [(4, .bool false),(15, .int .i64 ((b:Nat):Int)),(14, .int .i64 ((d.length:Nat):Int)),(13, .slice p d.length M)] _ _
 obtain⟨z,aL,l⟩:=y.1 S
 refine sr (Kz (.bool (decide (((b:Nat):Int) < ((d.length:Nat):Int)))) (nt (Wp.seq ?_)))
 by_cases T:((b:Nat):Int) < ((d.length:Nat):Int)
 obtain⟨a,m⟩:=eG (ls:=d0) (i:=b) ag.len (by decide) (z.ro N) (by first | omega | (simp; done) | (simp; omega))
 have U:=oI P m
 have aM:=(G _ (List.mem_of_getElem? m)).2
 have o:=drop_at U
 refine jT (dT T) (sk (Wp.seq (bo (sr (fw (.pointer (some ⟨ab p,ao p+b *3,none⟩)) (Yl.indexAddr (mJ) rfl rfl ((z.ro N).addr (i:=b) (by omega)) (by omega)) (fw (.agg (ag.cells a).toArray) (Yl.load rfl (bu.agg (cs:=(ag.cells a)) Tryz.isAgg84 Tryz.sizeOf84 ((z.ro N).elem ag.len m (by decide)))) ?_))))))
 refine dD [.bool false, .string ⟨List.toArray ([])⟩, .slice none 0 0] 84 z ?_
 intro h aS az
 refine bz (ag.cells a) 0 az Tryz.sizeOf84 ?_
 intro aT t
 refine nt (Wp.seq (sr (Kz (.pointer (some ⟨h,1,none⟩)) (Lz (.string ⟨List.toArray a.au⟩) t 0 Tryz.isAgg9 (Kz (.int .i64 ((a.au.length:Nat):Int)) (Kz (.bool (decide (((a.au.length:Nat):Int) > 16))) (Mz rfl ?_)))))))
 by_cases g:((a.au.length:Nat):Int) > 16
 refine Sz (dT g) (Sz (dT g) (Sz (dT g) (Sz (dT g) (fw (.bool true) (Yl.pickT rfl (dT g) rfl) (nt (jt (sr (An rfl (rt (tR (bR (tR (tR (bR (tR (rs ?_))))))))))))))))
 have aA:=t.pk []
 obtain rfl:_=false:=hr.symm.trans (et (iN n) (iH (et (l) (et (congrArg (fun q=>fq q) o) (ip g)))))
 exact⟨rfl,aA⟩
 refine Gz (.pointer (some ⟨h,2,none⟩)) (dF g) (Gl (.slice a.ay.A a.ay.ls.length a.ay.c) (dF g) t 0 Tryz.isAgg82 (Gz (.int .i64 ((a.ay.ls.length:Nat):Int)) (dF g) (Gz (.bool (decide (((a.ay.ls.length:Nat):Int) > 4))) (dF g) (fw (.bool (decide (((a.ay.ls.length:Nat):Int) > 4))) (Yl.pickF rfl (dF g) rfl) (nt ?_)))))
 by_cases u:((a.ay.ls.length:Nat):Int) > 4
 refine jT (dT u) (sr (An rfl (rt (tR (bR (tR (tR (bR (tR (rs ?_))))))))))
 have aB:=t.pk []
 obtain rfl:_=false:=hr.symm.trans (et (iN n) (iH (et (l) (et (congrArg (fun q=>fq q) o) (et (iN g) (ip u))))))
 exact⟨rfl,aB⟩
 refine jF (dF u) (sk (sr (Kz (.pointer (some ⟨h,2,none⟩)) (Lz (.slice a.ay.A a.ay.ls.length a.ay.c) t 0 Tryz.isAgg82 (Kz (.int .i64 ((a.ay.ls.length:Nat):Int)) (Mn rfl (bo ?_)))))))
 have aC:=t.pk [0]
 obtain⟨V,W⟩:∃ q:Nat→World→Prop,q=fun(i:Nat) w'=>Own w D w' [blk h (ag.cells a) 84]∧(i≤a.ay.ls.length∧fU a.ay.ls=fU (List.drop i a.ay.ls)):=⟨_,rfl⟩
 have B:∀ {f:Nat} {w':World},V f w'↔Own w D w' [blk h (ag.cells a) 84]∧f≤a.ay.ls.length∧fU a.ay.ls=fU (List.drop f a.ay.ls):=by intros; subst W; exact Iff.rfl
 refine Wp.loop (fun i:Nat=> [(4, .bool false),(32, .int .i64 ((i:Nat):Int)),(31, .int .i64 ((a.ay.ls.length:Nat):Int)),(30, .slice a.ay.A a.ay.ls.length a.ay.c),(29, .pointer (some ⟨h,2,none⟩)),(28, .bool (decide (((a.ay.ls.length:Nat):Int) > 4))),(27, .bool (decide (((a.ay.ls.length:Nat):Int) > 4))),(26, .int .i64 ((a.ay.ls.length:Nat):Int)),(25, .slice a.ay.A a.ay.ls.length a.ay.c),(24, .pointer (some ⟨h,2,none⟩)),(23, .bool (decide (((a.au.length:Nat):Int) > 16))),(22, .bool (decide (((a.au.length:Nat):Int) > 16))),(21, .int .i64 ((a.au.length:Nat):Int)),(20, .string ⟨List.toArray a.au⟩),(19, .pointer (some ⟨h,1,none⟩)),(6, .pointer (some ⟨h,0,none⟩)),(18, .agg (ag.cells a).toArray),(17, .pointer (some ⟨ab p,ao p+b *3,none⟩)),(16, .bool (decide (((b:Nat):Int) < ((d.length:Nat):Int)))),(15, .int .i64 ((b:Nat):Int)),(14, .int .i64 ((d.length:Nat):Int)),(13, .slice p d.length M)]) V (fun i=>a.ay.ls.length - i) 0 ⟨rfl,rfl,rfl,rfl,rfl,rfl,rfl,rfl,rfl,rfl,rfl,rfl,rfl,rfl,rfl,rfl,rfl,rfl,rfl,rfl,rfl,rfl,trivial⟩ (B.2 ⟨aC,by omega,rfl⟩) ?_
 rintro f aU X
 show Wp _ _ _ [(4, .bool false),(32, .int .i64 ((f:Nat):Int)),(31, .int .i64 ((a.ay.ls.length:Nat):Int)),(30, .slice a.ay.A a.ay.ls.length a.ay.c),(29, .pointer (some ⟨h,2,none⟩)),(28, .bool (decide (((a.ay.ls.length:Nat):Int) > 4))),(27, .bool (decide (((a.ay.ls.length:Nat):Int) > 4))),(26, .int .i64 ((a.ay.ls.length:Nat):Int)),(25, .slice a.ay.A a.ay.ls.length a.ay.c),(24, .pointer (some ⟨h,2,none⟩)),(23, .bool (decide (((a.au.length:Nat):Int) > 16))),(22, .bool (decide (((a.au.length:Nat):Int) > 16))),(21, .int .i64 ((a.au.length:Nat):Int)),(20, .string ⟨List.toArray a.au⟩),(19, .pointer (some ⟨h,1,none⟩)),(6, .pointer (some ⟨h,0,none⟩)),(18, .agg (ag.cells a).toArray),(17, .pointer (some ⟨ab p,ao p+b *3,none⟩)),(16, .bool (decide (((b:Nat):Int) < ((d.length:Nat):Int)))),(15, .int .i64 ((b:Nat):Int)),(14, .int .i64 ((d.length:Nat):Int)),(13, .slice p d.length M)] _ _
 obtain⟨C,aN,r⟩:=B.1 X
 refine sr (Kz (.bool (decide (((f:Nat):Int) < ((a.ay.ls.length:Nat):Int)))) (nt (Wp.seq ?_)))
 by_cases Y:((f:Nat):Int) < ((a.ay.ls.length:Nat):Int)
 obtain⟨j,K⟩:=eG (ls:=a.ay.ls) (i:=f) aW.len (by decide) (C.ro (G _ (List.mem_of_getElem? m)).1) (by first | omega | (simp; done) | (simp; omega))
 have E:=drop_at K
 refine jT (dT Y) (sk (Wp.seq (bo (sr (fw (.pointer (some ⟨ab a.ay.A,ao a.ay.A+f *2,none⟩)) (Yl.indexAddr (pX) rfl rfl ((C.ro (G _ (List.mem_of_getElem? m)).1).addr (i:=f) (by omega)) (by omega)) (fw (.agg (aW.cells j).toArray) (Yl.load rfl (bu.agg (cs:=(aW.cells j)) Tryz.isAgg86 Tryz.sizeOf86 ((C.ro (G _ (List.mem_of_getElem? m)).1).elem aW.len K (by decide)))) ?_))))))
 refine dD [.string ⟨List.toArray ([])⟩, .string ⟨List.toArray ([])⟩] 86 C ?_
 intro Z aV aD
 refine bz (aW.cells j) 0 aD Tryz.sizeOf86 ?_
 intro aY ae
 refine ns (Kz (.pointer (some ⟨Z,0,none⟩)) (Lz (.string ⟨List.toArray j.aL⟩) ae 0 Tryz.isAgg9 ?_))
 obtain⟨F,s⟩:∃ q,gW j.aL=q:=⟨_,rfl⟩
 obtain⟨aZ,af,aO,ah,aP⟩:=Own.enter0 ae
 refine cl Tryz.call74 (jL _ _ j.aL F af s) ?_
 rintro _ bf ⟨rfl,ai,L⟩
 have I:=ah _ _ ai
 replace L: ¬ (F=0)∨(1≤j.aL.length∧j.aL.length≤12):=L
 refine fw (.bool (decide (¬ (F=0)))) (Yl.bool (e:= !(decide (F=0))) yk decide_not.symm) (Mz rfl ?_)
 by_cases k:F=0
 refine gw (.pointer (some ⟨Z,1,none⟩)) (dF (not_not_intro k)) yk (gw (.string ⟨List.toArray j.au⟩) (dF (not_not_intro k)) (Yl.load rfl (bu.one Tryz.isAgg9 (fG.of (I.cls (i:=0) rfl) rfl))) (gw (.int .i64 ((j.au.length:Nat):Int)) (dF (not_not_intro k)) yk (gw (.bool (decide (((j.au.length:Nat):Int) > 16))) (dF (not_not_intro k)) yk (fw (.bool (decide (((j.au.length:Nat):Int) > 16))) (Yl.pickF rfl (dF (not_not_intro k)) rfl) (nt ?_)))))
 by_cases J:((j.au.length:Nat):Int) > 16
 refine jT (dT J) (sr (An rfl (rt (bR (tR (tR (bR (bR (tR (tR (bR (tR (rs ?_)))))))))))))
 have aF:=I.pk []
 obtain rfl:_=false:=hr.symm.trans (et (iN n) (iH (et (l) (et (congrArg (fun q=>fq q) o) (et (iN g) (et (iN u) (pq (et (r) (et (congrArg (fun q=>fU q) E) (et (aa s) (et (ip k) (ip J))))))))))))
 exact⟨rfl,aF⟩
 refine jF (dF J) (Wp.skip (bN (Fin.then (Wp.region (fw (.int .i64 ((f+1:Nat):Int)) (Yl.int (e:=IntKind.i64.wrap (((f:Nat):Int)+1)) yk (by rw [IntWalk.i64_in _ (by omega)]; omega)) (Mz rfl (WL.nil ?_)))))))
 have aG:=I.pk [1]
 exact Fin.round (f+1) ⟨rfl,rfl,rfl,rfl,rfl,rfl,rfl,rfl,rfl,rfl,rfl,rfl,rfl,rfl,rfl,rfl,rfl,rfl,rfl,rfl,rfl,rfl,trivial⟩ (B.2 ⟨aG,by omega,et (r) (et (congrArg (fun q=>fU q) E) (et (aa s) (et (ip k) (iN J))))⟩) (by show a.ay.ls.length - (f+1) < a.ay.ls.length - f; omega)
 refine Sz (dT k) (Sz (dT k) (Sz (dT k) (Sz (dT k) (fw (.bool true) (Yl.pickT rfl (dT k) rfl) (nt (jt (sr (An rfl (rt (bR (tR (tR (bR (bR (tR (tR (bR (tR (rs ?_)))))))))))))))))))
 have aH:=I.pk []
 obtain rfl:_=false:=hr.symm.trans (et (iN n) (iH (et (l) (et (congrArg (fun q=>fq q) o) (et (iN g) (et (iN u) (pq (et (r) (et (congrArg (fun q=>fU q) E) (et (aa s) (iN k)))))))))))
 exact⟨rfl,aH⟩
 refine jF (dF Y) (Wp.exit (Fin.thenX ?_))
 have aj:fU a.ay.ls=Sum.inl ():=et (r) (et (congrArg (fun q=>fU q) (dY (ls:=a.ay.ls) (i:=f) (by omega))) rfl)
 refine Fin.thenX (Fin.blockX (bN (Fin.then (Wp.region (fw (.int .i64 ((b+1:Nat):Int)) (Yl.int (e:=IntKind.i64.wrap (((b:Nat):Int)+1)) yk (by rw [IntWalk.i64_in _ (by omega)]; omega)) (Mz rfl (WL.nil ?_)))))))
 have aI:=C.pk []
 exact Fin.round (b+1) ⟨rfl,rfl,rfl,rfl,trivial⟩ (y.2 ⟨aI,by omega,et (l) (et (congrArg (fun q=>fq q) o) (et (iN g) (et (iN u) (ry aj))))⟩) (by show d.length - (b+1) < d.length - b; omega)
 refine jF (dF T) (Wp.exit (Fin.thenX ?_))
 have ak:fq d=Sum.inl ():=et (l) (et (congrArg (fun q=>fq q) (dY (ls:=d) (i:=b) (by omega))) rfl)
 refine Fin.thenX (Fin.blockX (Fin.then (sr (An rfl (rt (rs ?_))))))
 have aJ:=z.pk []
 obtain rfl:_=true:=hr.symm.trans (et (iN n) (kF ak))
 exact⟨rfl,aJ⟩
def jM (a:aB):Bool:=
 if a.ae=2 then true else if a.ae=3 then true else decide (a.ae=5)
theorem rf (w:World) (D:Nat→Prop) (c:aB) (i:Bool) (H:Own w D w []) (hr:jM c=i):
    Calls Tryz.prog 36 #[.agg (aB.cells c).toArray] w (cK fun v w'=>v= .bool i∧Own w D w' []):=by
 refine Calls.body (args:= [.agg (aB.cells c).toArray]) Tryz.func36 rfl rfl rfl ?_
 show Wp _ _ _ [(0, .agg (aB.cells c).toArray)] _ _
 refine sr ?_
 refine dD (aB.cells c) 64 H ?_
 intro e j d
 refine Ar rfl (Kz (.pointer (some ⟨e,0,none⟩)) (Lz (.int .i64 c.ae) d 0 Tryz.isAgg3 (Kz (.bool (decide (c.ae=2))) (Mz rfl ?_))))
 by_cases a:c.ae=2
 refine Sz (dT a) (Sz (dT a) (Sz (dT a) (fw (.bool true) (Yl.pickT rfl (dT a) rfl) (Mz rfl (Sz rfl (Sz rfl (Sz rfl (fw (.bool true) (Yl.pickT rfl rfl rfl) (An rfl (rt (rs ?_)))))))))))
 have f:=d.pk []
 obtain rfl:_=true:=hr.symm.trans (ip a)
 exact⟨rfl,f⟩
 refine Gz (.pointer (some ⟨e,0,none⟩)) (dF a) (Gl (.int .i64 c.ae) (dF a) d 0 Tryz.isAgg3 (Gz (.bool (decide (c.ae=3))) (dF a) (fw (.bool (decide (c.ae=3))) (Yl.pickF rfl (dF a) rfl) (Mz rfl ?_))))
 by_cases b:c.ae=3
 refine Sz (dT b) (Sz (dT b) (Sz (dT b) (fw (.bool true) (Yl.pickT rfl (dT b) rfl) (An rfl (rt (rs ?_))))))
 have g:=d.pk []
 obtain rfl:_=true:=hr.symm.trans (et (iN a) (ip b))
 exact⟨rfl,g⟩
 refine Gz (.pointer (some ⟨e,0,none⟩)) (dF b) (Gl (.int .i64 c.ae) (dF b) d 0 Tryz.isAgg3 (Gz (.bool (decide (c.ae=5))) (dF b) (fw (.bool (decide (c.ae=5))) (Yl.pickF rfl (dF b) rfl) (An rfl (rt (rs ?_))))))
 have h:=d.pk []
 obtain rfl:_=decide (c.ae=5):=hr.symm.trans (et (iN a) (iN b))
 exact⟨rfl,h⟩
def fE:List aB→Bool→Bool
  | [],a=>a
  | d::b,a=>if a=true then bnd (jM d) fun c=>fE b c else fE b false
def iU:List aB→Unit
  | []=>()
  | b::a=>iU a
def iV:List aB→Unit
  | []=>()
  | b::a=>iV a
def dz (a:bG):Int:=
 bnd (dw a.ae) fun k=>if k=([]) then 180 else bnd (gQ a) fun l=>if l=true then bnd (mQ a) fun m=>if m=true then if a.ae=1 then bnd (l7 a.az.ls) fun n=>if n=0 then 0 else 180 else if a.ae=2 then if a.bq=1 then bnd (gZ a.ai.ls 4) fun o=>if o=true then 0 else 180 else if a.bq=2 then bnd (gZ a.ai.ls 4) fun p=>if p=true then 0 else 180 else 180 else if a.ae=3 then if((a.az.ls.length:Nat):Int) ≥ 1 then if((a.az.ls.length:Nat):Int)≤24 then bnd (je a.az.ls) fun b=>if b=0 then 0 else 180 else 180 else 180 else if a.ae=4 then if a.bq=3 then bnd (gZ a.ai.ls 24) fun c=>if c=true then 0 else 180 else if a.bq=4 then bnd (gZ a.ai.ls 24) fun d=>if d=true then 0 else 180 else if a.bq=5 then bnd (gZ a.ai.ls 24) fun e=>if e=true then 0 else 180 else 180 else if a.ae=8 then bnd (l8 a.aj.ls) fun f=>if f=0 then 0 else 180 else if a.ae=10 then bnd (iM a.bM) fun g=>if g=true then bnd (iw a.aG) fun h=>if h=0 then 0 else 180 else 180 else if a.ae=11 then if((a.az.ls.length:Nat):Int)≤6 then bnd (je a.az.ls) fun i=>if i=0 then bnd (iw a.aG) fun j=>bnd (fE a.az.ls (decide (j=0))) fun sLrbfbtbtffffffttbtbL=>if sLrbfbtbtffffffttbtbL=true then 0 else 180 else bnd (iU a.az.ls) fun _=>180 else bnd (iV a.az.ls) fun _=>180 else 0 else 180 else 180
set_option maxHeartbeats 2000000 in
theorem oU (w:World) (D:Nat→Prop) (a:bG) (b:Option Addr) (di h:Nat) (s:Option Addr) (dm o:Nat) (T:List ag) (P:Option Addr) (dx K:Nat) (r0:Int) (H:Own w D w []) (dV:di=a.az.ls.length) (t:Ro w D fun w'=>bD w' 6 b a.az.ls.length (List.flatMap aB.cells a.az.ls)) (jA:a.az.ls.length≤h∧a.az.ls.length≤9223372036854775807) (Q:List.map ag.abs T=a.ai.ls) (dW:dm=a.ai.ls.length) (V:Ro w D fun w'=>bD w' 3 s a.ai.ls.length (List.flatMap ag.cells T)) (jB:a.ai.ls.length≤o∧a.ai.ls.length≤9223372036854775807) (u:∀ x ∈ T,Ro w D (fun w'=>bD w' 2 x.ay.A x.ay.ls.length (List.flatMap aW.cells x.ay.ls))∧(x.ay.ls.length≤x.ay.c∧x.ay.ls.length≤9223372036854775807)) (dX:dx=a.aj.ls.length) (aJ:Ro w D fun w'=>bD w' 2 P a.aj.ls.length (List.flatMap aA.cells a.aj.ls)) (jC:a.aj.ls.length≤K∧a.aj.ls.length≤9223372036854775807) (hr:dz a=r0):
    Calls Tryz.prog 12 #[.agg (bf a.ae a.bn a.dm a.aO a.bq a.bM a.bF a.aY a.bE a.bH a.bL a.aS a.bB a.aK a.xN a.bV a.aG.aD a.aG.aI b di h s dm o P dx K).toArray] w (cK fun v w'=>v= .int .i64 r0∧Own w D w' []):=by
 subst dV dW dX
 have hdl0x1:=dM Q
 refine Calls.body (args:= [.agg (aV a b h s o P K).toArray]) Tryz.func12 rfl rfl rfl ?_
 show Wp _ _ _ [(0, .agg (aV a b h s o P K).toArray)] _ _
 refine sr ?_
 refine dD (aV a b h s o P K) 29 H ?_
 intro B lF gB
 refine An rfl (Wp.seq (sr (Kz (.pointer (some ⟨B,0,none⟩)) (Lz (.int .i64 a.ae) gB 0 Tryz.isAgg3 ?_))))
 obtain⟨cz,d⟩:∃ q,dw a.ae=q:=⟨_,rfl⟩
 obtain⟨lG,gD,ko,gF,kr⟩:=Own.enter0 gB
 refine cl Tryz.call27 (kv _ _ a.ae cz gD d) ?_
 rintro _ lH ⟨rfl,gG,dA⟩
 have dZ:=gF _ _ gG
 replace dA:cz.length≤5:=dA
 refine fw (.bool (decide (cz=([])))) (Yl.strEq rfl rfl) (Mz rfl ?_)
 by_cases j:cz=([])
 refine Sz (dT j) (Sz (dT j) (Sz (dT j) (fw (.bool true) (Yl.pickT rfl (dT j) rfl) (Mz rfl (Sz rfl (Sz rfl (Sz rfl (fw (.bool true) (Yl.pickT rfl rfl rfl) (nt (jt (sr (An rfl (rt (tR (rs ?_)))))))))))))))
 have jD:=dZ.pk []
 obtain rfl:_=180:=hr.symm.trans (et (aa d) (ip j))
 exact⟨rfl,jD⟩
 refine Ga (aV a b h s o P K) (dF j) dZ 0 Tryz.isAgg29 Tryz.sizeOf29 ?_
 obtain⟨cB,f⟩:∃ q,gQ a=q:=⟨_,rfl⟩
 obtain⟨lI,gH,aU,gI,ku⟩:=Own.enter0 dZ
 refine jI (dF j) Tryz.call28 (rT _ _ a b a.az.ls.length h s a.ai.ls.length o T P a.aj.ls.length K cB gH rfl (aU _ t) (show a.az.ls.length≤h∧a.az.ls.length≤9223372036854775807 from by omega) Q rfl (aU _ V) (show a.ai.ls.length≤o∧a.ai.ls.length≤9223372036854775807 from by omega) (fun x9 h9=>⟨aU _ (u x9 h9).1,(u x9 h9).2⟩) rfl (aU _ aJ) (show a.aj.ls.length≤K∧a.aj.ls.length≤9223372036854775807 from by omega) f) ?_
 rintro _ lJ ⟨rfl,gJ⟩
 have d9:=gI _ _ gJ
 refine Gz (.bool (!cB)) (dF j) (fw (.bool (!cB)) (Yl.pickF rfl (dF j) rfl) (Mz rfl ?_))
 rcases Bool.eq_false_or_eq_true (cB) with k | k
 refine Ga (aV a b h s o P K) (cn k) d9 0 Tryz.isAgg29 Tryz.sizeOf29 ?_
 obtain⟨cO,g⟩:∃ q,mQ a=q:=⟨_,rfl⟩
 obtain⟨lK,gK,aX,gL,kw⟩:=Own.enter0 d9
 refine jI (cn k) Tryz.call29 (sF _ _ a b a.az.ls.length h s a.ai.ls.length o T P a.aj.ls.length K cO gK rfl (aX _ t) (show a.az.ls.length≤h∧a.az.ls.length≤9223372036854775807 from by omega) Q rfl (aX _ V) (show a.ai.ls.length≤o∧a.ai.ls.length≤9223372036854775807 from by omega) (fun x9 h9=>⟨aX _ (u x9 h9).1,(u x9 h9).2⟩) rfl (aX _ aJ) (show a.aj.ls.length≤K∧a.aj.ls.length≤9223372036854775807 from by omega) g) ?_
 rintro _ lM ⟨rfl,gM⟩
 have l:=gL _ _ gM
 refine Gz (.bool (!cO)) (cn k) (fw (.bool (!cO)) (Yl.pickF rfl (cn k) rfl) (nt ?_))
 rcases Bool.eq_false_or_eq_true (cO) with p | p
 refine jF (cn p) (sk (sr (An rfl (Wp.seq (sr (Kz (.pointer (some ⟨B,0,none⟩)) (Lz (.int .i64 a.ae) l 0 Tryz.isAgg3 (nt (bo (sr (Kz (.bool (decide (a.ae=1))) (An rfl ?_))))))))))))
 by_cases r:a.ae=1
 refine jT (dT r) (Wp.region (Kz (.pointer (some ⟨B,18,none⟩)) (Lz (.slice b a.az.ls.length h) l 0 Tryz.isAgg25 ?_)))
 obtain⟨bB,bE⟩:∃ q,l7 a.az.ls=q:=⟨_,rfl⟩
 obtain⟨lN,gN,gP,gT,ky⟩:=Own.enter0 l
 refine cl Tryz.call30 (rQ _ _ b a.az.ls.length h a.az.ls bB gN (gP _ t) rfl (by omega) bE) ?_
 rintro _ lQ ⟨rfl,gU⟩
 have gV:=gT _ _ gU
 refine Kz (.bool (decide (bB=0))) (Az rfl (WL.nil (bN (Fin.then (Wp.seq (sr (Mz rfl (fw (.bool (decide (¬ (bB=0)))) (Yl.bool (e:= !(decide (bB=0))) yk decide_not.symm) (nt ?_)))))))))
 by_cases cZ:bB=0
 refine jF (dF (not_not_intro cZ)) (sk (sr (An rfl (rt (rs ?_)))))
 have jE:=gV.pk []
 obtain rfl:_=0:=hr.symm.trans (et (aa d) (et (iN j) (et (aa f) (et (ip k) (et (aa g) (et (ip p) (et (ip r) (et (aa bE) (ip cZ)))))))))
 exact⟨rfl,jE⟩
 refine jT (dT cZ) (sr (An rfl (rt (tR (rs ?_)))))
 have jG:=gV.pk []
 obtain rfl:_=180:=hr.symm.trans (et (aa d) (et (iN j) (et (aa f) (et (ip k) (et (aa g) (et (ip p) (et (ip r) (et (aa bE) (iN cZ)))))))))
 exact⟨rfl,jG⟩
 refine jF (dF r) (sr (Kz (.bool (decide (a.ae=2))) (An rfl ?_)))
 by_cases z:a.ae=2
 refine jT (dT z) (Wp.region (Kz (.pointer (some ⟨B,4,none⟩)) (Lz (.int .i64 a.bq) l 0 Tryz.isAgg3 (Kz (.bool (decide (a.bq=1))) (Mz rfl ?_)))))
 by_cases X:a.bq=1
 refine Sz (dT X) (Sz (dT X) (Sz (dT X) (fw (.bool true) (Yl.pickT rfl (dT X) rfl) (Mz rfl (Gz (.pointer (some ⟨B,19,none⟩)) rfl (Gl (.slice s a.ai.ls.length o) rfl l 0 Tryz.isAgg26 ?_))))))
 obtain⟨df,bF⟩:∃ q,gZ a.ai.ls 4=q:=⟨_,rfl⟩
 obtain⟨lS,gW,dB,gX,kz⟩:=Own.enter0 l
 refine jI rfl Tryz.call31 (j3 _ _ s a.ai.ls.length o T a.ai.ls 4 df gW Q (dB _ V) (fun x9 h9=>⟨dB _ (u x9 h9).1,(u x9 h9).2⟩) rfl (by omega) bF) ?_
 rintro _ lT ⟨rfl,gY⟩
 have ib:=gX _ _ gY
 refine fw (.bool df) (Yl.pickT rfl rfl rfl) (Az rfl (WL.nil (bN (Fin.then (Wp.seq (sr (Mz rfl (Kz (.bool (!df)) (nt ?_)))))))))
 rcases Bool.eq_false_or_eq_true (df) with bH | bH
 refine jF (cn bH) (sk (sr (An rfl (rt (rs ?_)))))
 have jH:=ib.pk []
 obtain rfl:_=0:=hr.symm.trans (et (aa d) (et (iN j) (et (aa f) (et (ip k) (et (aa g) (et (ip p) (et (iN r) (et (ip z) (et (ip X) (et (aa bF) (ip bH)))))))))))
 exact⟨rfl,jH⟩
 refine jT (cn bH) (sr (An rfl (rt (tR (rs ?_)))))
 have jJ:=ib.pk []
 obtain rfl:_=180:=hr.symm.trans (et (aa d) (et (iN j) (et (aa f) (et (ip k) (et (aa g) (et (ip p) (et (iN r) (et (ip z) (et (ip X) (et (aa bF) (dn bH)))))))))))
 exact⟨rfl,jJ⟩
 refine Gz (.pointer (some ⟨B,4,none⟩)) (dF X) (Gl (.int .i64 a.bq) (dF X) l 0 Tryz.isAgg3 (Gz (.bool (decide (a.bq=2))) (dF X) (fw (.bool (decide (a.bq=2))) (Yl.pickF rfl (dF X) rfl) (Mz rfl ?_))))
 by_cases Z:a.bq=2
 refine Gz (.pointer (some ⟨B,19,none⟩)) (dT Z) (Gl (.slice s a.ai.ls.length o) (dT Z) l 0 Tryz.isAgg26 ?_)
 obtain⟨dh,bI⟩:∃ q,gZ a.ai.ls 4=q:=⟨_,rfl⟩
 obtain⟨lU,ic,dC,ig,kC⟩:=Own.enter0 l
 refine jI (dT Z) Tryz.call31 (j3 _ _ s a.ai.ls.length o T a.ai.ls 4 dh ic Q (dC _ V) (fun x9 h9=>⟨dC _ (u x9 h9).1,(u x9 h9).2⟩) rfl (by omega) bI) ?_
 rintro _ lV ⟨rfl,ik⟩
 have il:=ig _ _ ik
 refine fw (.bool dh) (Yl.pickT rfl (dT Z) rfl) (Az rfl (WL.nil (bN (Fin.then (Wp.seq (sr (Mz rfl (Kz (.bool (!dh)) (nt ?_)))))))))
 rcases Bool.eq_false_or_eq_true (dh) with bJ | bJ
 refine jF (cn bJ) (sk (sr (An rfl (rt (rs ?_)))))
 have iq:=il.pk []
 obtain rfl:_=0:=hr.symm.trans (et (aa d) (et (iN j) (et (aa f) (et (ip k) (et (aa g) (et (ip p) (et (iN r) (et (ip z) (et (iN X) (et (ip Z) (et (aa bI) (ip bJ))))))))))))
 exact⟨rfl,iq⟩
 refine jT (cn bJ) (sr (An rfl (rt (tR (rs ?_)))))
 have iy:=il.pk []
 obtain rfl:_=180:=hr.symm.trans (et (aa d) (et (iN j) (et (aa f) (et (ip k) (et (aa g) (et (ip p) (et (iN r) (et (ip z) (et (iN X) (et (ip Z) (et (aa bI) (dn bJ))))))))))))
 exact⟨rfl,iy⟩
 refine Sz (dF Z) (Sz (dF Z) (Sz (dF Z) (fw (.bool false) (Yl.pickF rfl (dF Z) rfl) (Az rfl (WL.nil (bN (Fin.then (Wp.seq (sr (Mz rfl (Kz (.bool true) (nt (jt (sr (An rfl (rt (tR (rs ?_))))))))))))))))))
 have iA:=l.pk []
 obtain rfl:_=180:=hr.symm.trans (et (aa d) (et (iN j) (et (aa f) (et (ip k) (et (aa g) (et (ip p) (et (iN r) (et (ip z) (et (iN X) (iN Z))))))))))
 exact⟨rfl,iA⟩
 refine jF (dF z) (sr (Kz (.bool (decide (a.ae=3))) (An rfl ?_)))
 by_cases m:a.ae=3
 refine jT (dT m) (Wp.region (Kz (.pointer (some ⟨B,18,none⟩)) (Lz (.slice b a.az.ls.length h) l 0 Tryz.isAgg25 (Kz (.int .i64 ((a.az.ls.length:Nat):Int)) (Kz (.bool (decide (((a.az.ls.length:Nat):Int) ≥ 1))) (Mz rfl ?_))))))
 by_cases G:((a.az.ls.length:Nat):Int) ≥ 1
 refine Gz (.pointer (some ⟨B,18,none⟩)) (dT G) (Gl (.slice b a.az.ls.length h) (dT G) l 0 Tryz.isAgg25 (Gz (.int .i64 ((a.az.ls.length:Nat):Int)) (dT G) (Gz (.bool (decide (((a.az.ls.length:Nat):Int)≤24))) (dT G) (fw (.bool (decide (((a.az.ls.length:Nat):Int)≤24))) (Yl.pickT rfl (dT G) rfl) (Mz rfl ?_)))))
 by_cases L:((a.az.ls.length:Nat):Int)≤24
 refine Gz (.pointer (some ⟨B,18,none⟩)) (dT L) (Gl (.slice b a.az.ls.length h) (dT L) l 0 Tryz.isAgg25 ?_)
 obtain⟨ai,aK⟩:∃ q,je a.az.ls=q:=⟨_,rfl⟩
 obtain⟨kD,ed,ek,eu,jK⟩:=Own.enter0 l
 refine jI (dT L) Tryz.call32 (og _ _ b a.az.ls.length h a.az.ls ai ed (ek _ t) rfl (by omega) aK) ?_
 rintro _ kE ⟨rfl,eB⟩
 have dE:=eu _ _ eB
 refine Gz (.bool (decide (ai=0))) (dT L) (fw (.bool (decide (ai=0))) (Yl.pickT rfl (dT L) rfl) (Az rfl (WL.nil (bN (Fin.then (Wp.seq (sr (Mz rfl (fw (.bool (decide (¬ (ai=0)))) (Yl.bool (e:= !(decide (ai=0))) yk decide_not.symm) (nt ?_))))))))))
 by_cases aY:ai=0
 refine jF (dF (not_not_intro aY)) (sk (sr (An rfl (rt (rs ?_)))))
 have iB:=dE.pk []
 obtain rfl:_=0:=hr.symm.trans (et (aa d) (et (iN j) (et (aa f) (et (ip k) (et (aa g) (et (ip p) (et (iN r) (et (iN z) (et (ip m) (et (ip G) (et (ip L) (et (aa aK) (ip aY)))))))))))))
 exact⟨rfl,iB⟩
 refine jT (dT aY) (sr (An rfl (rt (tR (rs ?_)))))
 have iC:=dE.pk []
 obtain rfl:_=180:=hr.symm.trans (et (aa d) (et (iN j) (et (aa f) (et (ip k) (et (aa g) (et (ip p) (et (iN r) (et (iN z) (et (ip m) (et (ip G) (et (ip L) (et (aa aK) (iN aY)))))))))))))
 exact⟨rfl,iC⟩
 refine Sz (dF L) (Sz (dF L) (Sz (dF L) (Sz (dF L) (fw (.bool false) (Yl.pickF rfl (dF L) rfl) (Az rfl (WL.nil (bN (Fin.then (Wp.seq (sr (Mz rfl (Kz (.bool true) (nt (jt (sr (An rfl (rt (tR (rs ?_)))))))))))))))))))
 have iD:=l.pk []
 obtain rfl:_=180:=hr.symm.trans (et (aa d) (et (iN j) (et (aa f) (et (ip k) (et (aa g) (et (ip p) (et (iN r) (et (iN z) (et (ip m) (et (ip G) (iN L)))))))))))
 exact⟨rfl,iD⟩
 refine Sz (dF G) (Sz (dF G) (Sz (dF G) (Sz (dF G) (fw (.bool false) (Yl.pickF rfl (dF G) rfl) (Mz rfl (Sz rfl (Sz rfl (Sz rfl (Sz rfl (fw (.bool false) (Yl.pickF rfl rfl rfl) (Az rfl (WL.nil (bN (Fin.then (Wp.seq (sr (Mz rfl (Kz (.bool true) (nt (jt (sr (An rfl (rt (tR (rs ?_)))))))))))))))))))))))))
 have iE:=l.pk []
 obtain rfl:_=180:=hr.symm.trans (et (aa d) (et (iN j) (et (aa f) (et (ip k) (et (aa g) (et (ip p) (et (iN r) (et (iN z) (et (ip m) (iN G))))))))))
 exact⟨rfl,iE⟩
 refine jF (dF m) (sr (Kz (.bool (decide (a.ae=4))) (An rfl ?_)))
 by_cases y:a.ae=4
 refine jT (dT y) (Wp.region (Kz (.pointer (some ⟨B,4,none⟩)) (Lz (.int .i64 a.bq) l 0 Tryz.isAgg3 (Kz (.bool (decide (a.bq=3))) (Mz rfl ?_)))))
 by_cases F:a.bq=3
 refine Sz (dT F) (Sz (dT F) (Sz (dT F) (fw (.bool true) (Yl.pickT rfl (dT F) rfl) (Mz rfl (Sz rfl (Sz rfl (Sz rfl (fw (.bool true) (Yl.pickT rfl rfl rfl) (Mz rfl (Gz (.pointer (some ⟨B,19,none⟩)) rfl (Gl (.slice s a.ai.ls.length o) rfl l 0 Tryz.isAgg26 ?_)))))))))))
 obtain⟨aZ,aL⟩:∃ q,gZ a.ai.ls 24=q:=⟨_,rfl⟩
 obtain⟨kF,eD,bK,eF,jL⟩:=Own.enter0 l
 refine jI rfl Tryz.call31 (j3 _ _ s a.ai.ls.length o T a.ai.ls 24 aZ eD Q (bK _ V) (fun x9 h9=>⟨bK _ (u x9 h9).1,(u x9 h9).2⟩) rfl (by omega) aL) ?_
 rintro _ kG ⟨rfl,eH⟩
 have dG:=eF _ _ eH
 refine fw (.bool aZ) (Yl.pickT rfl rfl rfl) (Az rfl (WL.nil (bN (Fin.then (Wp.seq (sr (Mz rfl (Kz (.bool (!aZ)) (nt ?_)))))))))
 rcases Bool.eq_false_or_eq_true (aZ) with az | az
 refine jF (cn az) (sk (sr (An rfl (rt (rs ?_)))))
 have iF:=dG.pk []
 obtain rfl:_=0:=hr.symm.trans (et (aa d) (et (iN j) (et (aa f) (et (ip k) (et (aa g) (et (ip p) (et (iN r) (et (iN z) (et (iN m) (et (ip y) (et (ip F) (et (aa aL) (ip az)))))))))))))
 exact⟨rfl,iF⟩
 refine jT (cn az) (sr (An rfl (rt (tR (rs ?_)))))
 have iG:=dG.pk []
 obtain rfl:_=180:=hr.symm.trans (et (aa d) (et (iN j) (et (aa f) (et (ip k) (et (aa g) (et (ip p) (et (iN r) (et (iN z) (et (iN m) (et (ip y) (et (ip F) (et (aa aL) (dn az)))))))))))))
 exact⟨rfl,iG⟩
 refine Gz (.pointer (some ⟨B,4,none⟩)) (dF F) (Gl (.int .i64 a.bq) (dF F) l 0 Tryz.isAgg3 (Gz (.bool (decide (a.bq=4))) (dF F) (fw (.bool (decide (a.bq=4))) (Yl.pickF rfl (dF F) rfl) (Mz rfl ?_))))
 by_cases M:a.bq=4
 refine Sz (dT M) (Sz (dT M) (Sz (dT M) (fw (.bool true) (Yl.pickT rfl (dT M) rfl) (Mz rfl (Gz (.pointer (some ⟨B,19,none⟩)) rfl (Gl (.slice s a.ai.ls.length o) rfl l 0 Tryz.isAgg26 ?_))))))
 obtain⟨bg,aM⟩:∃ q,gZ a.ai.ls 24=q:=⟨_,rfl⟩
 obtain⟨kH,eO,bL,eP,jN⟩:=Own.enter0 l
 refine jI rfl Tryz.call31 (j3 _ _ s a.ai.ls.length o T a.ai.ls 24 bg eO Q (bL _ V) (fun x9 h9=>⟨bL _ (u x9 h9).1,(u x9 h9).2⟩) rfl (by omega) aM) ?_
 rintro _ kI ⟨rfl,eQ⟩
 have dH:=eP _ _ eQ
 refine fw (.bool bg) (Yl.pickT rfl rfl rfl) (Az rfl (WL.nil (bN (Fin.then (Wp.seq (sr (Mz rfl (Kz (.bool (!bg)) (nt ?_)))))))))
 rcases Bool.eq_false_or_eq_true (bg) with aC | aC
 refine jF (cn aC) (sk (sr (An rfl (rt (rs ?_)))))
 have iH:=dH.pk []
 obtain rfl:_=0:=hr.symm.trans (et (aa d) (et (iN j) (et (aa f) (et (ip k) (et (aa g) (et (ip p) (et (iN r) (et (iN z) (et (iN m) (et (ip y) (et (iN F) (et (ip M) (et (aa aM) (ip aC))))))))))))))
 exact⟨rfl,iH⟩
 refine jT (cn aC) (sr (An rfl (rt (tR (rs ?_)))))
 have iI:=dH.pk []
 obtain rfl:_=180:=hr.symm.trans (et (aa d) (et (iN j) (et (aa f) (et (ip k) (et (aa g) (et (ip p) (et (iN r) (et (iN z) (et (iN m) (et (ip y) (et (iN F) (et (ip M) (et (aa aM) (dn aC))))))))))))))
 exact⟨rfl,iI⟩
 refine Gz (.pointer (some ⟨B,4,none⟩)) (dF M) (Gl (.int .i64 a.bq) (dF M) l 0 Tryz.isAgg3 (Gz (.bool (decide (a.bq=5))) (dF M) (fw (.bool (decide (a.bq=5))) (Yl.pickF rfl (dF M) rfl) (Mz rfl ?_))))
 by_cases R:a.bq=5
 refine Gz (.pointer (some ⟨B,19,none⟩)) (dT R) (Gl (.slice s a.ai.ls.length o) (dT R) l 0 Tryz.isAgg26 ?_)
 obtain⟨bi,aN⟩:∃ q,gZ a.ai.ls 24=q:=⟨_,rfl⟩
 obtain⟨kJ,eT,bM,eU,jO⟩:=Own.enter0 l
 refine jI (dT R) Tryz.call31 (j3 _ _ s a.ai.ls.length o T a.ai.ls 24 bi eT Q (bM _ V) (fun x9 h9=>⟨bM _ (u x9 h9).1,(u x9 h9).2⟩) rfl (by omega) aN) ?_
 rintro _ kK ⟨rfl,eX⟩
 have dI:=eU _ _ eX
 refine fw (.bool bi) (Yl.pickT rfl (dT R) rfl) (Az rfl (WL.nil (bN (Fin.then (Wp.seq (sr (Mz rfl (Kz (.bool (!bi)) (nt ?_)))))))))
 rcases Bool.eq_false_or_eq_true (bi) with aD | aD
 refine jF (cn aD) (sk (sr (An rfl (rt (rs ?_)))))
 have iJ:=dI.pk []
 obtain rfl:_=0:=hr.symm.trans (et (aa d) (et (iN j) (et (aa f) (et (ip k) (et (aa g) (et (ip p) (et (iN r) (et (iN z) (et (iN m) (et (ip y) (et (iN F) (et (iN M) (et (ip R) (et (aa aN) (ip aD)))))))))))))))
 exact⟨rfl,iJ⟩
 refine jT (cn aD) (sr (An rfl (rt (tR (rs ?_)))))
 have iK:=dI.pk []
 obtain rfl:_=180:=hr.symm.trans (et (aa d) (et (iN j) (et (aa f) (et (ip k) (et (aa g) (et (ip p) (et (iN r) (et (iN z) (et (iN m) (et (ip y) (et (iN F) (et (iN M) (et (ip R) (et (aa aN) (dn aD)))))))))))))))
 exact⟨rfl,iK⟩
 refine Sz (dF R) (Sz (dF R) (Sz (dF R) (fw (.bool false) (Yl.pickF rfl (dF R) rfl) (Az rfl (WL.nil (bN (Fin.then (Wp.seq (sr (Mz rfl (Kz (.bool true) (nt (jt (sr (An rfl (rt (tR (rs ?_))))))))))))))))))
 have iL:=l.pk []
 obtain rfl:_=180:=hr.symm.trans (et (aa d) (et (iN j) (et (aa f) (et (ip k) (et (aa g) (et (ip p) (et (iN r) (et (iN z) (et (iN m) (et (ip y) (et (iN F) (et (iN M) (iN R)))))))))))))
 exact⟨rfl,iL⟩
 refine jF (dF y) (sr (Kz (.bool (decide (a.ae=8))) (An rfl ?_)))
 by_cases O:a.ae=8
 refine jT (dT O) (Wp.region (Kz (.pointer (some ⟨B,20,none⟩)) (Lz (.slice P a.aj.ls.length K) l 0 Tryz.isAgg27 ?_)))
 obtain⟨aF,aO⟩:∃ q,l8 a.aj.ls=q:=⟨_,rfl⟩
 obtain⟨kM,eY,eZ,fe,jP⟩:=Own.enter0 l
 refine cl Tryz.call33 (rR _ _ P a.aj.ls.length K a.aj.ls aF eY (eZ _ aJ) rfl (by omega) aO) ?_
 rintro _ kN ⟨rfl,fo⟩
 have dJ:=fe _ _ fo
 refine Kz (.bool (decide (aF=0))) (Az rfl (WL.nil (bN (Fin.then (Wp.seq (sr (Mz rfl (fw (.bool (decide (¬ (aF=0)))) (Yl.bool (e:= !(decide (aF=0))) yk decide_not.symm) (nt ?_)))))))))
 by_cases bn:aF=0
 refine jF (dF (not_not_intro bn)) (sk (sr (An rfl (rt (rs ?_)))))
 have iO:=dJ.pk []
 obtain rfl:_=0:=hr.symm.trans (et (aa d) (et (iN j) (et (aa f) (et (ip k) (et (aa g) (et (ip p) (et (iN r) (et (iN z) (et (iN m) (et (iN y) (et (ip O) (et (aa aO) (ip bn)))))))))))))
 exact⟨rfl,iO⟩
 refine jT (dT bn) (sr (An rfl (rt (tR (rs ?_)))))
 have iP:=dJ.pk []
 obtain rfl:_=180:=hr.symm.trans (et (aa d) (et (iN j) (et (aa f) (et (ip k) (et (aa g) (et (ip p) (et (iN r) (et (iN z) (et (iN m) (et (iN y) (et (ip O) (et (aa aO) (iN bn)))))))))))))
 exact⟨rfl,iP⟩
 refine jF (dF O) (sr (Kz (.bool (decide (a.ae=10))) (An rfl ?_)))
 by_cases U:a.ae=10
 refine jT (dT U) (Wp.region (Kz (.pointer (some ⟨B,5,none⟩)) (Lz (.int .i64 a.bM) l 0 Tryz.isAgg3 ?_)))
 obtain⟨dK,av⟩:∃ q,iM a.bM=q:=⟨_,rfl⟩
 obtain⟨kP,fq,jQ,fu,jR⟩:=Own.enter0 l
 refine cl Tryz.call34 (kL _ _ a.bM dK fq av) ?_
 rintro _ kQ ⟨rfl,fA⟩
 have bO:=fu _ _ fA
 refine Mz rfl ?_
 rcases Bool.eq_false_or_eq_true (dK) with I | I
 refine Gz (.pointer (some ⟨B,16,none⟩)) I (Ga (bC.cells a.aG) I bO 0 Tryz.isAgg24 Tryz.sizeOf24 ?_)
 obtain⟨aj,aP⟩:∃ q,iw a.aG=q:=⟨_,rfl⟩
 obtain⟨kR,fB,jS,fC,jU⟩:=Own.enter0 bO
 refine WL.doG rfl rfl I rfl (Do.call Tryz.call35 rfl (lL _ _ a.aG aj fB aP) ?_)
 rintro _ kS ⟨rfl,fD⟩
 have dL:=fC _ _ fD
 refine Gz (.bool (decide (aj=0))) I (fw (.bool (decide (aj=0))) (Yl.pickT rfl I rfl) (Az rfl (WL.nil (bN (Fin.then (Wp.seq (sr (Mz rfl (fw (.bool (decide (¬ (aj=0)))) (Yl.bool (e:= !(decide (aj=0))) yk decide_not.symm) (nt ?_))))))))))
 by_cases bq:aj=0
 refine jF (dF (not_not_intro bq)) (sk (sr (An rfl (rt (rs ?_)))))
 have iQ:=dL.pk []
 obtain rfl:_=0:=hr.symm.trans (et (aa d) (et (iN j) (et (aa f) (et (ip k) (et (aa g) (et (ip p) (et (iN r) (et (iN z) (et (iN m) (et (iN y) (et (iN O) (et (ip U) (et (aa av) (et (ip I) (et (aa aP) (ip bq))))))))))))))))
 exact⟨rfl,iQ⟩
 refine jT (dT bq) (sr (An rfl (rt (tR (rs ?_)))))
 have iR:=dL.pk []
 obtain rfl:_=180:=hr.symm.trans (et (aa d) (et (iN j) (et (aa f) (et (ip k) (et (aa g) (et (ip p) (et (iN r) (et (iN z) (et (iN m) (et (iN y) (et (iN O) (et (ip U) (et (aa av) (et (ip I) (et (aa aP) (iN bq))))))))))))))))
 exact⟨rfl,iR⟩
 refine Sz I (Sz I (Sz I (Sz I (fw (.bool false) (Yl.pickF rfl I rfl) (Az rfl (WL.nil (bN (Fin.then (Wp.seq (sr (Mz rfl (Kz (.bool true) (nt (jt (sr (An rfl (rt (tR (rs ?_)))))))))))))))))))
 have iT:=bO.pk []
 obtain rfl:_=180:=hr.symm.trans (et (aa d) (et (iN j) (et (aa f) (et (ip k) (et (aa g) (et (ip p) (et (iN r) (et (iN z) (et (iN m) (et (iN y) (et (iN O) (et (ip U) (et (aa av) (dn I))))))))))))))
 exact⟨rfl,iT⟩
 refine jF (dF U) (sr (Kz (.bool (decide (a.ae=11))) (An rfl ?_)))
 by_cases ae:a.ae=11
 refine jT (dT ae) (sr (Kz (.pointer (some ⟨B,18,none⟩)) (Lz (.slice b a.az.ls.length h) l 0 Tryz.isAgg25 (Kz (.int .i64 ((a.az.ls.length:Nat):Int)) (Kz (.bool (decide (((a.az.ls.length:Nat):Int)≤6))) (Mz rfl ?_))))))
 by_cases J:((a.az.ls.length:Nat):Int)≤6
 refine Gz (.pointer (some ⟨B,18,none⟩)) (dT J) (Gl (.slice b a.az.ls.length h) (dT J) l 0 Tryz.isAgg25 ?_)
 obtain⟨bv,ax⟩:∃ q,je a.az.ls=q:=⟨_,rfl⟩
 obtain⟨kT,fF,fG,fH,jV⟩:=Own.enter0 l
 refine jI (dT J) Tryz.call32 (og _ _ b a.az.ls.length h a.az.ls bv fF (fG _ t) rfl (by omega) ax) ?_
 rintro _ kU ⟨rfl,fI⟩
 have bA:=fH _ _ fI
 refine Gz (.bool (decide (bv=0))) (dT J) (fw (.bool (decide (bv=0))) (Yl.pickT rfl (dT J) rfl) (Mz rfl ?_))
 by_cases N:bv=0
 refine Gz (.pointer (some ⟨B,16,none⟩)) (dT N) (Ga (bC.cells a.aG) (dT N) bA 0 Tryz.isAgg24 Tryz.sizeOf24 ?_)
 obtain⟨Y,aQ⟩:∃ q,iw a.aG=q:=⟨_,rfl⟩
 obtain⟨kV,fJ,jW,fK,jX⟩:=Own.enter0 bA
 refine jI (dT N) Tryz.call35 (lL _ _ a.aG Y fJ aQ) ?_
 rintro _ kW ⟨rfl,fM⟩
 have dN:=fK _ _ fM
 refine Gz (.bool (decide (Y=0))) (dT N) (fw (.bool (decide (Y=0))) (Yl.pickT rfl (dT N) rfl) (Ar rfl (Kz (.pointer (some ⟨B,18,none⟩)) (Lz (.slice b a.az.ls.length h) dN 0 Tryz.isAgg25 (Kz (.int .i64 ((a.az.ls.length:Nat):Int)) (Mn rfl (bo ?_)))))))
 have iW:=dN.pk []
 obtain⟨dO,fO⟩:∃ q:(Bool × Nat)→World→Prop,q=fun(i:Bool × Nat) w'=>Own w D w' []∧(i.2≤a.az.ls.length∧fE a.az.ls (decide (Y=0))=fE (List.drop i.2 a.az.ls) i.1):=⟨_,rfl⟩
 have ay:∀ {S:Bool} {n:Nat} {w':World},dO (S,n) w'↔Own w D w' []∧n≤a.az.ls.length∧fE a.az.ls (decide (Y=0))=fE (List.drop n a.az.ls) S:=by intros; subst fO; exact Iff.rfl
 refine Wp.loop (fun i:Bool × Nat=> [(3, .bool i.1),(119, .int .i64 ((i.2:Nat):Int)),(118, .int .i64 ((a.az.ls.length:Nat):Int)),(117, .slice b a.az.ls.length h),(2, .int .i64 0)]) dO (fun i=>a.az.ls.length - i.2) (decide (Y=0),0) ⟨rfl,rfl,rfl,rfl,rfl,trivial⟩ (ay.2 ⟨iW,by omega,rfl⟩) ?_
 rintro ⟨S,n⟩ kX fP
 show Wp _ _ _ [(3, .bool S),(119, .int .i64 ((n:Nat):Int)),(118, .int .i64 ((a.az.ls.length:Nat):Int)),(117, .slice b a.az.ls.length h),(2, .int .i64 0)] _ _
 obtain⟨ak,jY,aR⟩:=ay.1 fP
 refine sr (Kz (.bool (decide (((n:Nat):Int) < ((a.az.ls.length:Nat):Int)))) (nt (Wp.seq ?_)))
 by_cases dP:((n:Nat):Int) < ((a.az.ls.length:Nat):Int)
 obtain⟨au,bP⟩:=eG (ls:=a.az.ls) (i:=n) aB.len (by decide) (ak.ro t) (by first | omega | (simp; done) | (simp; omega))
 have bQ:=drop_at bP
 refine jT (dT dP) (sk (Wp.seq (bo (sr (fw (.pointer (some ⟨ab b,ao b+n *6,none⟩)) (Yl.indexAddr (ma) rfl rfl ((ak.ro t).addr (i:=n) (by omega)) (by omega)) (fw (.agg (aB.cells au).toArray) (Yl.load rfl (bu.agg (cs:=(aB.cells au)) Tryz.isAgg64 Tryz.sizeOf64 ((ak.ro t).elem aB.len bP (by decide)))) ?_))))))
 refine dD [.int .i64 0, .string ⟨List.toArray ([])⟩, .string ⟨List.toArray ([])⟩, .string ⟨List.toArray ([])⟩, .string ⟨List.toArray ([])⟩, .int .i64 0] 64 ak ?_
 intro kY kZ iX
 refine bz (aB.cells au) 0 iX Tryz.sizeOf64 ?_
 intro lc bR
 refine nt (Wp.region (Mz rfl (Mz rfl ?_)))
 rcases Bool.eq_false_or_eq_true (S) with W | W
 refine Ga (aB.cells au) W bR 0 Tryz.isAgg64 Tryz.sizeOf64 ?_
 obtain⟨bS,bT⟩:∃ q,jM au=q:=⟨_,rfl⟩
 obtain⟨lg,fQ,jZ,fT,j4⟩:=Own.enter0 bR
 refine WL.doG rfl rfl W rfl (Do.call Tryz.call36 rfl (rf _ _ au bS fQ bT) ?_)
 rintro _ lh ⟨rfl,fU⟩
 have iY:=fT _ _ fU
 refine fw (.bool bS) (Yl.pickT rfl W rfl) (Az rfl (WL.nil (bN (Fin.then (Wp.region (fw (.int .i64 ((n+1:Nat):Int)) (Yl.int (e:=IntKind.i64.wrap (((n:Nat):Int)+1)) yk (by rw [IntWalk.i64_in _ (by omega)]; omega)) (Mz rfl (WL.nil ?_))))))))
 have iZ:=iY.pk []
 exact Fin.round (bS,n+1) ⟨rfl,rfl,rfl,rfl,rfl,trivial⟩ (ay.2 ⟨iZ,by omega,et (aR) (et (congrArg (fun q=>fE q S) bQ) (et (ip W) (aa bT)))⟩) (by show a.az.ls.length - (n+1) < a.az.ls.length - n; omega)
 refine Sz W (Sz W (fw (.bool false) (Yl.pickF rfl W rfl) (Az rfl (WL.nil (bN (Fin.then (Wp.region (fw (.int .i64 ((n+1:Nat):Int)) (Yl.int (e:=IntKind.i64.wrap (((n:Nat):Int)+1)) yk (by rw [IntWalk.i64_in _ (by omega)]; omega)) (Mz rfl (WL.nil ?_))))))))))
 have ja:=bR.pk []
 exact Fin.round (false,n+1) ⟨rfl,rfl,rfl,rfl,rfl,trivial⟩ (ay.2 ⟨ja,(show (n+1)≤a.az.ls.length∧fE a.az.ls (decide (Y=0))=fE (List.drop (n+1) a.az.ls) false from ⟨by omega,et (aR) (et (congrArg (fun q=>fE q S) bQ) (dn W))⟩)⟩) (by show a.az.ls.length - (n+1) < a.az.ls.length - n; omega)
 refine jF (dF dP) (Wp.exit (Fin.thenX ?_))
 have bU:fE a.az.ls (decide (Y=0))=S:=et (aR) (et (congrArg (fun q=>fE q S) (dY (ls:=a.az.ls) (i:=n) (by omega))) rfl)
 refine Fin.thenX (Fin.blockX (bN (Fin.then (Wp.seq (sr (Mz rfl (Kz (.bool (!S)) (nt ?_))))))))
 rcases Bool.eq_false_or_eq_true (S) with aG | aG
 refine jF (cn aG) (sk (sr (An rfl (rt (rs ?_)))))
 have jb:=ak.pk []
 obtain rfl:_=0:=hr.symm.trans (et (aa d) (et (iN j) (et (aa f) (et (ip k) (et (aa g) (et (ip p) (et (iN r) (et (iN z) (et (iN m) (et (iN y) (et (iN O) (et (iN U) (et (ip ae) (et (ip J) (et (aa ax) (et (ip N) (et (aa aQ) (et (aa bU) (ip aG)))))))))))))))))))
 exact⟨rfl,jb⟩
 refine jT (cn aG) (sr (An rfl (rt (tR (rs ?_)))))
 have jc:=ak.pk []
 obtain rfl:_=180:=hr.symm.trans (et (aa d) (et (iN j) (et (aa f) (et (ip k) (et (aa g) (et (ip p) (et (iN r) (et (iN z) (et (iN m) (et (iN y) (et (iN O) (et (iN U) (et (ip ae) (et (ip J) (et (aa ax) (et (ip N) (et (aa aQ) (et (aa bU) (dn aG)))))))))))))))))))
 exact⟨rfl,jc⟩
 refine Sz (dF N) (Sz (dF N) (Sz (dF N) (Sz (dF N) (fw (.bool false) (Yl.pickF rfl (dF N) rfl) (Ar rfl (Kz (.pointer (some ⟨B,18,none⟩)) (Lz (.slice b a.az.ls.length h) bA 0 Tryz.isAgg25 (Kz (.int .i64 ((a.az.ls.length:Nat):Int)) (Mn rfl (bo ?_))))))))))
 have jd:=bA.pk []
 obtain⟨dQ,fV⟩:∃ q:Nat→World→Prop,q=fun(i:Nat) w'=>Own w D w' []∧(i≤a.az.ls.length∧iU a.az.ls=iU (List.drop i a.az.ls)):=⟨_,rfl⟩
 have aS:∀ {C:Nat} {w':World},dQ C w'↔Own w D w' []∧C≤a.az.ls.length∧iU a.az.ls=iU (List.drop C a.az.ls):=by intros; subst fV; exact Iff.rfl
 refine Wp.loop (fun i:Nat=> [(3, .bool false),(119, .int .i64 ((i:Nat):Int)),(118, .int .i64 ((a.az.ls.length:Nat):Int)),(117, .slice b a.az.ls.length h),(2, .int .i64 0)]) dQ (fun i=>a.az.ls.length - i) 0 ⟨rfl,rfl,rfl,rfl,rfl,trivial⟩ (aS.2 ⟨jd,by omega,rfl⟩) ?_
 rintro C ll fZ
 show Wp _ _ _ [(3, .bool false),(119, .int .i64 ((C:Nat):Int)),(118, .int .i64 ((a.az.ls.length:Nat):Int)),(117, .slice b a.az.ls.length h),(2, .int .i64 0)] _ _
 obtain⟨aH,j5,bV⟩:=aS.1 fZ
 refine sr (Kz (.bool (decide (((C:Nat):Int) < ((a.az.ls.length:Nat):Int)))) (nt (Wp.seq ?_)))
 by_cases dR:((C:Nat):Int) < ((a.az.ls.length:Nat):Int)
 obtain⟨bW,bX⟩:=eG (ls:=a.az.ls) (i:=C) aB.len (by decide) (aH.ro t) (by first | omega | (simp; done) | (simp; omega))
 have gm:=drop_at bX
 refine jT (dT dR) (sk (Wp.seq (bo (sr (fw (.pointer (some ⟨ab b,ao b+C *6,none⟩)) (Yl.indexAddr (ma) rfl rfl ((aH.ro t).addr (i:=C) (by omega)) (by omega)) (fw (.agg (aB.cells bW).toArray) (Yl.load rfl (bu.agg (cs:=(aB.cells bW)) Tryz.isAgg64 Tryz.sizeOf64 ((aH.ro t).elem aB.len bX (by decide)))) ?_))))))
 refine dD [.int .i64 0, .string ⟨List.toArray ([])⟩, .string ⟨List.toArray ([])⟩, .string ⟨List.toArray ([])⟩, .string ⟨List.toArray ([])⟩, .int .i64 0] 64 aH ?_
 intro lm lq jg
 refine bz (aB.cells bW) 0 jg Tryz.sizeOf64 ?_
 intro lu jh
 refine nt (Wp.region (Mz rfl (Mz rfl (Sz rfl (Sz rfl (fw (.bool false) (Yl.pickF rfl rfl rfl) (Az rfl (WL.nil (bN (Fin.then (Wp.region (fw (.int .i64 ((C+1:Nat):Int)) (Yl.int (e:=IntKind.i64.wrap (((C:Nat):Int)+1)) yk (by rw [IntWalk.i64_in _ (by omega)]; omega)) (Mz rfl (WL.nil ?_))))))))))))))
 have ji:=jh.pk []
 exact Fin.round (C+1) ⟨rfl,rfl,rfl,rfl,rfl,trivial⟩ (aS.2 ⟨ji,by omega,et (bV) (et (congrArg (fun q=>iU q) gm) rfl)⟩) (by show a.az.ls.length - (C+1) < a.az.ls.length - C; omega)
 refine jF (dF dR) (Wp.exit (Fin.thenX ?_))
 have gp:iU a.az.ls=():=et (bV) (et (congrArg (fun q=>iU q) (dY (ls:=a.az.ls) (i:=C) (by omega))) rfl)
 refine Fin.thenX (Fin.blockX (bN (Fin.then (Wp.seq (sr (Mz rfl (Kz (.bool true) (nt (jt (sr (An rfl (rt (tR (rs ?_))))))))))))))
 have jk:=aH.pk []
 obtain rfl:_=180:=hr.symm.trans (et (aa d) (et (iN j) (et (aa f) (et (ip k) (et (aa g) (et (ip p) (et (iN r) (et (iN z) (et (iN m) (et (iN y) (et (iN O) (et (iN U) (et (ip ae) (et (ip J) (et (aa ax) (et (iN N) (aa gp)))))))))))))))))
 exact⟨rfl,jk⟩
 refine Sz (dF J) (Sz (dF J) (Sz (dF J) (Sz (dF J) (fw (.bool false) (Yl.pickF rfl (dF J) rfl) (Mz rfl (Sz rfl (Sz rfl (Sz rfl (Sz rfl (fw (.bool false) (Yl.pickF rfl rfl rfl) (Ar rfl (Kz (.pointer (some ⟨B,18,none⟩)) (Lz (.slice b a.az.ls.length h) l 0 Tryz.isAgg25 (Kz (.int .i64 ((a.az.ls.length:Nat):Int)) (Mn rfl (bo ?_))))))))))))))))
 have jl:=l.pk []
 obtain⟨dS,gq⟩:∃ q:Nat→World→Prop,q=fun(i:Nat) w'=>Own w D w' []∧(i≤a.az.ls.length∧iV a.az.ls=iV (List.drop i a.az.ls)):=⟨_,rfl⟩
 have aT:∀ {E:Nat} {w':World},dS E w'↔Own w D w' []∧E≤a.az.ls.length∧iV a.az.ls=iV (List.drop E a.az.ls):=by intros; subst gq; exact Iff.rfl
 refine Wp.loop (fun i:Nat=> [(3, .bool false),(119, .int .i64 ((i:Nat):Int)),(118, .int .i64 ((a.az.ls.length:Nat):Int)),(117, .slice b a.az.ls.length h),(2, .int .i64 0)]) dS (fun i=>a.az.ls.length - i) 0 ⟨rfl,rfl,rfl,rfl,rfl,trivial⟩ (aT.2 ⟨jl,by omega,rfl⟩) ?_
 rintro E lv gu
 show Wp _ _ _ [(3, .bool false),(119, .int .i64 ((E:Nat):Int)),(118, .int .i64 ((a.az.ls.length:Nat):Int)),(117, .slice b a.az.ls.length h),(2, .int .i64 0)] _ _
 obtain⟨aI,j6,bY⟩:=aT.1 gu
 refine sr (Kz (.bool (decide (((E:Nat):Int) < ((a.az.ls.length:Nat):Int)))) (nt (Wp.seq ?_)))
 by_cases dU:((E:Nat):Int) < ((a.az.ls.length:Nat):Int)
 obtain⟨bZ,cu⟩:=eG (ls:=a.az.ls) (i:=E) aB.len (by decide) (aI.ro t) (by first | omega | (simp; done) | (simp; omega))
 have gy:=drop_at cu
 refine jT (dT dU) (sk (Wp.seq (bo (sr (fw (.pointer (some ⟨ab b,ao b+E *6,none⟩)) (Yl.indexAddr (ma) rfl rfl ((aI.ro t).addr (i:=E) (by omega)) (by omega)) (fw (.agg (aB.cells bZ).toArray) (Yl.load rfl (bu.agg (cs:=(aB.cells bZ)) Tryz.isAgg64 Tryz.sizeOf64 ((aI.ro t).elem aB.len cu (by decide)))) ?_))))))
 refine dD [.int .i64 0, .string ⟨List.toArray ([])⟩, .string ⟨List.toArray ([])⟩, .string ⟨List.toArray ([])⟩, .string ⟨List.toArray ([])⟩, .int .i64 0] 64 aI ?_
 intro lw lC jm
 refine bz (aB.cells bZ) 0 jm Tryz.sizeOf64 ?_
 intro lD jo
 refine nt (Wp.region (Mz rfl (Mz rfl (Sz rfl (Sz rfl (fw (.bool false) (Yl.pickF rfl rfl rfl) (Az rfl (WL.nil (bN (Fin.then (Wp.region (fw (.int .i64 ((E+1:Nat):Int)) (Yl.int (e:=IntKind.i64.wrap (((E:Nat):Int)+1)) yk (by rw [IntWalk.i64_in _ (by omega)]; omega)) (Mz rfl (WL.nil ?_))))))))))))))
 have jq:=jo.pk []
 exact Fin.round (E+1) ⟨rfl,rfl,rfl,rfl,rfl,trivial⟩ (aT.2 ⟨jq,by omega,et (bY) (et (congrArg (fun q=>iV q) gy) rfl)⟩) (by show a.az.ls.length - (E+1) < a.az.ls.length - E; omega)
 refine jF (dF dU) (Wp.exit (Fin.thenX ?_))
 have gz:iV a.az.ls=():=et (bY) (et (congrArg (fun q=>iV q) (dY (ls:=a.az.ls) (i:=E) (by omega))) rfl)
 refine Fin.thenX (Fin.blockX (bN (Fin.then (Wp.seq (sr (Mz rfl (Kz (.bool true) (nt (jt (sr (An rfl (rt (tR (rs ?_))))))))))))))
 have jr:=aI.pk []
 obtain rfl:_=180:=hr.symm.trans (et (aa d) (et (iN j) (et (aa f) (et (ip k) (et (aa g) (et (ip p) (et (iN r) (et (iN z) (et (iN m) (et (iN y) (et (iN O) (et (iN U) (et (ip ae) (et (iN J) (aa gz)))))))))))))))
 exact⟨rfl,jr⟩
 refine jF (dF ae) (Wp.skip (bN (Fin.then (Wp.seq (sr (Mz rfl (Kz (.bool false) (nt (jf (sk (sr (An rfl (rt (rs ?_))))))))))))))
 have jv:=l.pk []
 obtain rfl:_=0:=hr.symm.trans (et (aa d) (et (iN j) (et (aa f) (et (ip k) (et (aa g) (et (ip p) (et (iN r) (et (iN z) (et (iN m) (et (iN y) (et (iN O) (et (iN U) (iN ae)))))))))))))
 exact⟨rfl,jv⟩
 refine jT (cn p) (sr (An rfl (rt (tR (rs ?_)))))
 have jw:=l.pk []
 obtain rfl:_=180:=hr.symm.trans (et (aa d) (et (iN j) (et (aa f) (et (ip k) (et (aa g) (dn p))))))
 exact⟨rfl,jw⟩
 refine Sz (cn k) (Sz (cn k) (Sz (cn k) (fw (.bool true) (Yl.pickT rfl (cn k) rfl) (nt (jt (sr (An rfl (rt (tR (rs ?_))))))))))
 have jy:=d9.pk []
 obtain rfl:_=180:=hr.symm.trans (et (aa d) (et (iN j) (et (aa f) (dn k))))
 exact⟨rfl,jy⟩
end Go.Proofs.YtccjclalngabhaaGreat
