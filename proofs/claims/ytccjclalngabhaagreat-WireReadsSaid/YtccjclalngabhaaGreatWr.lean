/-
 wire: the document's answer, which messages may be.
-/
import Derived.Test.YtccjclalngabhaaGreatWiC
namespace Go.Proofs.YtccjclalngabhaaGreat
set_option maxRecDepth 100000
open Go.RowKit
set_option linter.unusedVariables false
set_option linter.unusedSectionVars false
set_option linter.unusedSimpArgs false
def iD (a:bC):Int:=
 if((a.aD.length:Nat):Int) > 12 then 21 else if((a.aH.length:Nat):Int) > 12 then 21 else if a.aH≠([]) then if a.aH≤a.aD then 21 else 0 else 0
theorem lY (w:World) (D:Nat→Prop) (d:bC) (n:Int) (H:Own w D w []) (hr:iD d=n):
    Calls Tryz.prog 35 #[.agg (bC.cells d).toArray] w (cO fun v w'=>v= .int .i64 n∧Own w D w' []):=by
 refine yR (args:= [.agg (bC.cells d).toArray]) Tryz.func35 rfl rfl rfl ?_
 show Wp _ _ _ [(0, .agg (bC.cells d).toArray)] _ _
 refine sr ?_
 refine dE (bC.cells d) 24 H ?_
 intro g o f
 refine An rfl (yJ (sr (Kz (.pointer (some ⟨g,0,none⟩)) (Lz (.string ⟨List.toArray d.aD⟩) f 0 Tryz.isAgg9 (Kz (.int .i64 ((d.aD.length:Nat):Int)) (Kz (.bool (decide (((d.aD.length:Nat):Int) > 12))) (Mz rfl ?_)))))))
 by_cases b:((d.aD.length:Nat):Int) > 12
 refine Sz (dT b) (Sz (dT b) (Sz (dT b) (Sz (dT b) (fw (.bool true) (yN rfl (dT b) rfl) (Mz rfl (Sz rfl (Sz rfl (Sz rfl (Sz rfl (yX rfl rfl rfl (yX rfl rfl rfl (yX rfl rfl rfl (yX rfl rfl rfl (yX rfl rfl rfl (Sz rfl (fw (.bool true) (yN rfl rfl rfl) (nt (jt (sr (An rfl (rt (tR (rs ?_)))))))))))))))))))))))
 have i:=f.pk []
 obtain rfl:_=21:=hr.symm.trans (ip b)
 exact⟨rfl,i⟩
 refine Gz (.pointer (some ⟨g,1,none⟩)) (dF b) (Gl (.string ⟨List.toArray d.aH⟩) (dF b) f 0 Tryz.isAgg9 (Gz (.int .i64 ((d.aH.length:Nat):Int)) (dF b) (Gz (.bool (decide (((d.aH.length:Nat):Int) > 12))) (dF b) (fw (.bool (decide (((d.aH.length:Nat):Int) > 12))) (yM rfl (dF b) rfl) (Mz rfl ?_)))))
 by_cases a:((d.aH.length:Nat):Int) > 12
 refine Sz (dT a) (Sz (dT a) (Sz (dT a) (Sz (dT a) (yX rfl rfl rfl (yX rfl rfl rfl (yX rfl rfl rfl (yX rfl rfl rfl (yX rfl rfl rfl (Sz (dT a) (fw (.bool true) (yN rfl (dT a) rfl) (nt (jt (sr (An rfl (rt (tR (rs ?_)))))))))))))))))
 have j:=f.pk []
 obtain rfl:_=21:=hr.symm.trans (et (iN b) (ip a))
 exact⟨rfl,j⟩
 refine Gz (.pointer (some ⟨g,1,none⟩)) (dF a) (Gl (.string ⟨List.toArray d.aH⟩) (dF a) f 0 Tryz.isAgg9 (gw (.bool (decide (d.aH≠([])))) (dF a) (zA rfl rfl) (gw (.bool (decide (d.aH≠([])))) (dF a) (yO rfl) ?_)))
 by_cases c:d.aH≠([])
 refine Gz (.pointer (some ⟨g,0,none⟩)) (dT c) (Gl (.string ⟨List.toArray d.aD⟩) (dT c) f 0 Tryz.isAgg9 (Gz (.pointer (some ⟨g,1,none⟩)) (dT c) (Gl (.string ⟨List.toArray d.aH⟩) (dT c) f 0 Tryz.isAgg9 (gw (.bool (decide (d.aH≤d.aD))) (dT c) (za (e:= !(Op.bytesLess d.aD d.aH)) (Aj rfl rfl) (vL _ _)) (gw (.bool (decide (d.aH≤d.aD))) (dF a) (yN rfl (dT c) rfl) (fw (.bool (decide (d.aH≤d.aD))) (yM rfl (dF a) rfl) (nt ?_)))))))
 by_cases h:d.aH≤d.aD
 refine jT (dT h) (sr (An rfl (rt (tR (rs ?_)))))
 have k:=f.pk []
 obtain rfl:_=21:=hr.symm.trans (et (iN b) (et (iN a) (et (ip c) (ip h))))
 exact⟨rfl,k⟩
 refine jF (dF h) (sk (sr (An rfl (rt (rs ?_)))))
 have l:=f.pk []
 obtain rfl:_=0:=hr.symm.trans (et (iN b) (et (iN a) (et (ip c) (iN h))))
 exact⟨rfl,l⟩
 refine Sz (dF c) (Sz (dF c) (Sz (dF c) (Sz (dF c) (Sz (dF c) (gw (.bool false) (dF a) (yM rfl (dF c) rfl) (fw (.bool false) (yM rfl (dF a) rfl) (nt (jf (sk (sr (An rfl (rt (rs ?_)))))))))))))
 have m:=f.pk []
 obtain rfl:_=0:=hr.symm.trans (et (iN b) (et (iN a) (iN c)))
 exact⟨rfl,m⟩
def ic (a:List UInt8):Int:=
 if((a.length:Nat):Int) < 1 then 20 else if((a.length:Nat):Int) > 12 then 20 else 0
theorem jP (w:World) (D:Nat→Prop) (b:List UInt8) (d:Int) (H:Own w D w []) (hr:ic b=d):
    Calls Tryz.prog 74 #[.string ⟨List.toArray b⟩] w (cO fun v w'=>v= .int .i64 d∧Own w D w' []∧(¬ (d=0)∨(1≤b.length∧b.length≤12))):=by
 refine yR (args:= [.string ⟨List.toArray b⟩]) Tryz.func74 rfl rfl rfl ?_
 show Wp _ _ _ [(0, .string ⟨List.toArray b⟩)] _ _
 refine sr (An rfl (yJ (sr (Mz rfl (Kz (.int .i64 ((b.length:Nat):Int)) (Kz (.bool (decide (((b.length:Nat):Int) < 1))) (Mz rfl ?_)))))))
 by_cases a:((b.length:Nat):Int) < 1
 refine Sz (dT a) (Sz (dT a) (Sz (dT a) (fw (.bool true) (yN rfl (dT a) rfl) (nt (jt (sr (An rfl (rt (tR (rs ?_))))))))))
 have e:Own w D w []:=H.pk []
 obtain rfl:_=20:=hr.symm.trans (ip a)
 exact⟨rfl,e,(by omega)⟩
 refine gw (.string ⟨List.toArray b⟩) (dF a) (yO rfl) (Gz (.int .i64 ((b.length:Nat):Int)) (dF a) (Gz (.bool (decide (((b.length:Nat):Int) > 12))) (dF a) (fw (.bool (decide (((b.length:Nat):Int) > 12))) (yM rfl (dF a) rfl) (nt ?_))))
 by_cases c:((b.length:Nat):Int) > 12
 refine jT (dT c) (sr (An rfl (rt (tR (rs ?_)))))
 have f:Own w D w []:=H.pk []
 obtain rfl:_=20:=hr.symm.trans (et (iN a) (ip c))
 exact⟨rfl,f,(by omega)⟩
 refine jF (dF c) (sk (sr (An rfl (rt (rs ?_)))))
 have g:Own w D w []:=H.pk []
 obtain rfl:_=0:=hr.symm.trans (et (iN a) (iN c))
 exact⟨rfl,g,(by omega)⟩
def jq (a:aB):Int:=
 if a.ae=1 then if a.aD≠([]) then 40 else if a.aH≠([]) then 40 else if a.au≠([]) then 40 else if a.aF=0 then bnd (ic a.aL) fun d=>if d=0 then if((a.au.length:Nat):Int) > 16 then 2 else 0 else 20 else 40 else if a.ae=2 then if a.aD≠([]) then 40 else if a.aH≠([]) then 40 else if a.aF=0 then bnd (ic a.aL) fun e=>if e=0 then if((a.au.length:Nat):Int) > 16 then 2 else 0 else 20 else 40 else if a.ae=4 then if a.aL≠([]) then 40 else if a.au≠([]) then 40 else if((a.au.length:Nat):Int) > 16 then 2 else bnd (iD (bC.mk a.aD a.aH)) fun f=>if f=0 then if a.aF < 1 then 1 else if a.aF > 4 then 1 else 0 else 21 else if a.ae=3 then if a.aD≠([]) then 40 else if a.aH≠([]) then 40 else if a.au≠([]) then 40 else if a.aF=0 then bnd (ic a.aL) fun b=>if b=0 then if((a.au.length:Nat):Int) > 16 then 2 else 0 else 20 else 40 else if a.ae=5 then if a.aL≠([]) then 40 else if a.au≠([]) then 40 else if a.aF=0 then if((a.au.length:Nat):Int) > 16 then 2 else bnd (iD (bC.mk a.aD a.aH)) fun c=>if c=0 then 0 else 21 else 40 else 40
theorem qW (w:World) (D:Nat→Prop) (a:aB) (r0:Int) (H:Own w D w []) (hr:jq a=r0):
    Calls Tryz.prog 75 #[.agg (aB.cells a).toArray] w (cO fun v w'=>v= .int .i64 r0∧Own w D w' []∧(¬ (r0=0)∨(1≤a.ae∧a.ae≤5))):=by
 refine yR (args:= [.agg (aB.cells a).toArray]) Tryz.func75 rfl rfl rfl ?_
 show Wp _ _ _ [(0, .agg (aB.cells a).toArray)] _ _
 refine sr ?_
 refine dE (aB.cells a) 64 H ?_
 intro d dJ b
 refine Ar rfl (Kz (.pointer (some ⟨d,0,none⟩)) (Lz (.int .i64 a.ae) b 0 Tryz.isAgg3 (Kz (.bool (decide (a.ae=1))) (Mz rfl ?_))))
 by_cases g:a.ae=1
 refine Sz (dT g) (Sz (dT g) (Sz (dT g) (fw (.bool true) (yN rfl (dT g) rfl) (Mz rfl (Sz rfl (Sz rfl (Sz rfl (fw (.bool true) (yN rfl rfl rfl) (Ar rfl (Kz (.pointer (some ⟨d,0,none⟩)) (Lz (.int .i64 a.ae) b 0 Tryz.isAgg3 (Kz (.bool (decide (a.ae=4))) (Mz rfl ?_)))))))))))))
 have z:(decide (a.ae=4))=false:=(dF (by omega))
 refine Gz (.pointer (some ⟨d,0,none⟩)) z (Gl (.int .i64 a.ae) z b 0 Tryz.isAgg3 (Gz (.bool (decide (a.ae=5))) z (fw (.bool (decide (a.ae=5))) (yM rfl z rfl) (An rfl (yJ (sr (Mz rfl (Kz (.bool false) (Mz rfl (Sz rfl (Sz rfl (fw (.bool false) (yM rfl rfl rfl) (Mz rfl (gw (.bool true) rfl (yO rfl) (gw (.bool true) rfl (yO rfl) (Gz (.pointer (some ⟨d,3,none⟩)) rfl (Gl (.string ⟨List.toArray a.aD⟩) rfl b 0 Tryz.isAgg9 (gw (.bool (decide (a.aD≠([])))) rfl (zA rfl rfl) (gw (.bool (decide (a.aD≠([])))) rfl (yO rfl) ?_)))))))))))))))))))
 by_cases B:a.aD≠([])
 refine Sz (dT B) (Sz (dT B) (Sz (dT B) (gw (.bool true) rfl (yN rfl (dT B) rfl) (gw (.bool true) rfl (yN rfl rfl rfl) (fw (.bool true) (yM rfl rfl rfl) (Mz rfl (Sz rfl (Sz rfl (yX rfl rfl rfl (yX rfl rfl rfl (yX rfl rfl rfl (Sz rfl (fw (.bool true) (yN rfl rfl rfl) (Mz rfl (Sz rfl (Sz rfl (Sz rfl (Sz rfl (yX rfl rfl rfl (yX rfl rfl rfl (yX rfl rfl rfl (Sz rfl (fw (.bool true) (yN rfl rfl rfl) (Mz rfl (Sz rfl (Sz rfl (Sz rfl (Sz rfl (yX rfl rfl rfl (yX rfl rfl rfl (yX rfl rfl rfl (Sz rfl (fw (.bool true) (yN rfl rfl rfl) (nt (jt (sr (Az rfl ?_)))))))))))))))))))))))))))))))))))))
 refine nt (rt (tR (rs ?_)))
 have bQ:=b.pk []
 obtain rfl:_=40:=hr.symm.trans (et (ip g) (ip B))
 exact⟨rfl,bQ,(by omega)⟩
 refine Gz (.pointer (some ⟨d,4,none⟩)) (dF B) (Gl (.string ⟨List.toArray a.aH⟩) (dF B) b 0 Tryz.isAgg9 (gw (.bool (decide (a.aH≠([])))) (dF B) (zA rfl rfl) (gw (.bool (decide (a.aH≠([])))) rfl (yM rfl (dF B) rfl) (gw (.bool (decide (a.aH≠([])))) rfl (yN rfl rfl rfl) (fw (.bool (decide (a.aH≠([])))) (yM rfl rfl rfl) (Mz rfl ?_))))))
 by_cases C:a.aH≠([])
 refine Sz (dT C) (Sz (dT C) (yX rfl rfl rfl (yX rfl rfl rfl (yX rfl rfl rfl (Sz (dT C) (fw (.bool true) (yN rfl (dT C) rfl) (Mz rfl (Sz rfl (Sz rfl (Sz rfl (Sz rfl (yX rfl rfl rfl (yX rfl rfl rfl (yX rfl rfl rfl (Sz rfl (fw (.bool true) (yN rfl rfl rfl) (Mz rfl (Sz rfl (Sz rfl (Sz rfl (Sz rfl (yX rfl rfl rfl (yX rfl rfl rfl (yX rfl rfl rfl (Sz rfl (fw (.bool true) (yN rfl rfl rfl) (nt (jt (sr (An rfl (rt (tR (rs ?_)))))))))))))))))))))))))))))))))
 have bR:=b.pk []
 obtain rfl:_=40:=hr.symm.trans (et (ip g) (et (iN B) (ip C)))
 exact⟨rfl,bR,(by omega)⟩
 refine gw (.bool (decide (a.ae=5))) (dF C) (yO rfl) (gw (.bool (decide (a.ae=5))) (dF C) (yO rfl) ?_)
 have r:(decide (a.ae=5))=false:=(dF (by omega))
 refine Sz r (Sz r (Sz r (gw (.bool false) (dF C) (yM rfl r rfl) (fw (.bool false) (yM rfl (dF C) rfl) (Mz rfl (Gz (.pointer (some ⟨d,0,none⟩)) rfl (Gl (.int .i64 a.ae) rfl b 0 Tryz.isAgg3 (gw (.bool (decide (¬ (a.ae=2)))) rfl (za (e:= !(decide (a.ae=2))) yk decide_not.symm) (gw (.bool (decide (¬ (a.ae=2)))) rfl (yO rfl) ?_)))))))))
 have Y:(decide (¬ (a.ae=2)))=true:=(dT (by omega))
 refine Gz (.pointer (some ⟨d,2,none⟩)) Y (Gl (.string ⟨List.toArray a.au⟩) Y b 0 Tryz.isAgg9 (zy (v:= .bool (decide (a.au≠([])))) rfl rfl Y rfl (zA rfl rfl) (gw (.bool (decide (a.au≠([])))) rfl (yN rfl Y rfl) (fw (.bool (decide (a.au≠([])))) (yM rfl rfl rfl) (Mz rfl ?_)))))
 by_cases u:a.au≠([])
 refine Sz (dT u) (Sz (dT u) (Sz (dT u) (Sz (dT u) (yX rfl rfl rfl (yX rfl rfl rfl (yX rfl rfl rfl (Sz (dT u) (fw (.bool true) (yN rfl (dT u) rfl) (nt (jt (sr (An rfl (rt (tR (rs ?_)))))))))))))))
 have bS:=b.pk []
 obtain rfl:_=40:=hr.symm.trans (et (ip g) (et (iN B) (et (iN C) (ip u))))
 exact⟨rfl,bS,(by omega)⟩
 refine Gz (.pointer (some ⟨d,0,none⟩)) (dF u) (Gl (.int .i64 a.ae) (dF u) b 0 Tryz.isAgg3 (gw (.bool (decide (¬ (a.ae=4)))) (dF u) (za (e:= !(decide (a.ae=4))) yk decide_not.symm) (gw (.bool (decide (¬ (a.ae=4)))) (dF u) (yO rfl) ?_)))
 have Z:(decide (¬ (a.ae=4)))=true:=(dT (by omega))
 refine Gz (.pointer (some ⟨d,5,none⟩)) Z (Gl (.int .i64 a.aF) Z b 0 Tryz.isAgg3 (zy (v:= .bool (decide (¬ (a.aF=0)))) rfl rfl Z rfl (za (e:= !(decide (a.aF=0))) yk decide_not.symm) (gw (.bool (decide (¬ (a.aF=0)))) (dF u) (yN rfl Z rfl) (fw (.bool (decide (¬ (a.aF=0)))) (yM rfl (dF u) rfl) (nt ?_)))))
 by_cases ax:a.aF=0
 refine jF (dF (BK ax)) (sk (yJ (sr (Mz rfl (Mz rfl (Gz (.pointer (some ⟨d,1,none⟩)) rfl (Gl (.string ⟨List.toArray a.aL⟩) rfl b 0 Tryz.isAgg9 ?_)))))))
 obtain⟨ay,ae⟩:∃ q,ic a.aL=q:=⟨_,rfl⟩
 obtain⟨dK,aV,dw,aW,dx⟩:=yP b
 refine jM rfl Tryz.call74 (jP _ _ a.aL ay aV ae) ?_
 rintro _ dL ⟨rfl,aX,aN⟩
 have aC:=aW _ _ aX
 replace aN: ¬ (ay=0)∨(1≤a.aL.length∧a.aL.length≤12):=aN
 refine gw (.bool (decide (¬ (ay=0)))) rfl (za (e:= !(decide (ay=0))) yk decide_not.symm) (fw (.bool (decide (¬ (ay=0)))) (yN rfl rfl rfl) (nt ?_))
 by_cases aD:ay=0
 refine jF (dF (BK aD)) (sk (yJ (sr (Kz (.pointer (some ⟨d,2,none⟩)) (Lz (.string ⟨List.toArray a.au⟩) aC 0 Tryz.isAgg9 (Kz (.int .i64 ((a.au.length:Nat):Int)) (Kz (.bool (decide (((a.au.length:Nat):Int) > 16))) (nt ?_))))))))
 by_cases aL:((a.au.length:Nat):Int) > 16
 refine jT (dT aL) (sr (An rfl (rt (tR (rs ?_)))))
 have bT:=aC.pk []
 obtain rfl:_=2:=hr.symm.trans (et (ip g) (et (iN B) (et (iN C) (et (iN u) (et (ip ax) (et (aa ae) (et (ip aD) (ip aL))))))))
 exact⟨rfl,bT,(by omega)⟩
 refine jF (dF aL) (sk (yJ (sr (Mz rfl (Mz rfl (Sz r (Sz r (Sz r (Sz r (Sz r (Sz r (Sz r (fw (.bool false) (yM rfl r rfl) (nt (jf (sk (yJ (sr (Kz (.pointer (some ⟨d,0,none⟩)) (Lz (.int .i64 a.ae) aC 0 Tryz.isAgg3 (Kz (.bool (decide (a.ae=4))) (Mz rfl (Sz z (Sz z (Sz z (Sz z (yX rfl rfl rfl (yX rfl rfl rfl (yX rfl rfl rfl (Sz z (fw (.bool false) (yM rfl z rfl) (nt (jf ?_)))))))))))))))))))))))))))))))))
 refine sk (sr (An rfl (rt (rs ?_))))
 have bU:=aC.pk []
 obtain rfl:_=0:=hr.symm.trans (et (ip g) (et (iN B) (et (iN C) (et (iN u) (et (ip ax) (et (aa ae) (et (ip aD) (iN aL))))))))
 exact⟨rfl,bU,(by omega)⟩
 refine jT (dT aD) (sr (An rfl (rt (tR (rs ?_)))))
 have bV:=aC.pk []
 obtain rfl:_=20:=hr.symm.trans (et (ip g) (et (iN B) (et (iN C) (et (iN u) (et (ip ax) (et (aa ae) (iN aD)))))))
 exact⟨rfl,bV,(by omega)⟩
 refine jT (dT ax) (sr (An rfl (rt (tR (rs ?_)))))
 have bW:=b.pk []
 obtain rfl:_=40:=hr.symm.trans (et (ip g) (et (iN B) (et (iN C) (et (iN u) (iN ax)))))
 exact⟨rfl,bW,(by omega)⟩
 refine Gz (.pointer (some ⟨d,0,none⟩)) (dF g) (Gl (.int .i64 a.ae) (dF g) b 0 Tryz.isAgg3 (Gz (.bool (decide (a.ae=2))) (dF g) (fw (.bool (decide (a.ae=2))) (yM rfl (dF g) rfl) (Mz rfl ?_))))
 by_cases i:a.ae=2
 refine Sz (dT i) (Sz (dT i) (Sz (dT i) (fw (.bool true) (yN rfl (dT i) rfl) (Ar rfl (Kz (.pointer (some ⟨d,0,none⟩)) (Lz (.int .i64 a.ae) b 0 Tryz.isAgg3 (Kz (.bool (decide (a.ae=4))) (Mz rfl ?_))))))))
 have A:(decide (a.ae=4))=false:=(dF (by omega))
 refine Gz (.pointer (some ⟨d,0,none⟩)) A (Gl (.int .i64 a.ae) A b 0 Tryz.isAgg3 (Gz (.bool (decide (a.ae=5))) A (fw (.bool (decide (a.ae=5))) (yM rfl A rfl) (An rfl (yJ (sr (Mz rfl (Kz (.bool false) (Mz rfl (Sz rfl (Sz rfl (fw (.bool false) (yM rfl rfl rfl) (Mz rfl (gw (.bool true) rfl (yO rfl) (gw (.bool true) rfl (yO rfl) (Gz (.pointer (some ⟨d,3,none⟩)) rfl (Gl (.string ⟨List.toArray a.aD⟩) rfl b 0 Tryz.isAgg9 (gw (.bool (decide (a.aD≠([])))) rfl (zA rfl rfl) (gw (.bool (decide (a.aD≠([])))) rfl (yO rfl) ?_)))))))))))))))))))
 by_cases E:a.aD≠([])
 refine Sz (dT E) (Sz (dT E) (Sz (dT E) (gw (.bool true) rfl (yN rfl (dT E) rfl) (gw (.bool true) rfl (yN rfl rfl rfl) (fw (.bool true) (yM rfl rfl rfl) (Mz rfl (Sz rfl (Sz rfl (yX rfl rfl rfl (yX rfl rfl rfl (yX rfl rfl rfl (Sz rfl (fw (.bool true) (yN rfl rfl rfl) (Mz rfl (Sz rfl (Sz rfl (Sz rfl (Sz rfl (yX rfl rfl rfl (yX rfl rfl rfl (yX rfl rfl rfl (Sz rfl (fw (.bool true) (yN rfl rfl rfl) (Mz rfl (Sz rfl (Sz rfl (Sz rfl (Sz rfl (yX rfl rfl rfl (yX rfl rfl rfl (yX rfl rfl rfl (Sz rfl (fw (.bool true) (yN rfl rfl rfl) (nt (jt (sr (Az rfl ?_)))))))))))))))))))))))))))))))))))))
 refine nt (rt (tR (rs ?_)))
 have bX:=b.pk []
 obtain rfl:_=40:=hr.symm.trans (et (iN g) (et (ip i) (ip E)))
 exact⟨rfl,bX,(by omega)⟩
 refine Gz (.pointer (some ⟨d,4,none⟩)) (dF E) (Gl (.string ⟨List.toArray a.aH⟩) (dF E) b 0 Tryz.isAgg9 (gw (.bool (decide (a.aH≠([])))) (dF E) (zA rfl rfl) (gw (.bool (decide (a.aH≠([])))) rfl (yM rfl (dF E) rfl) (gw (.bool (decide (a.aH≠([])))) rfl (yN rfl rfl rfl) (fw (.bool (decide (a.aH≠([])))) (yM rfl rfl rfl) (Mz rfl ?_))))))
 by_cases F:a.aH≠([])
 refine Sz (dT F) (Sz (dT F) (yX rfl rfl rfl (yX rfl rfl rfl (yX rfl rfl rfl (Sz (dT F) (fw (.bool true) (yN rfl (dT F) rfl) (Mz rfl (Sz rfl (Sz rfl (Sz rfl (Sz rfl (yX rfl rfl rfl (yX rfl rfl rfl (yX rfl rfl rfl (Sz rfl (fw (.bool true) (yN rfl rfl rfl) (Mz rfl (Sz rfl (Sz rfl (Sz rfl (Sz rfl (yX rfl rfl rfl (yX rfl rfl rfl (yX rfl rfl rfl (Sz rfl (fw (.bool true) (yN rfl rfl rfl) (nt (jt (sr (An rfl (rt (tR (rs ?_)))))))))))))))))))))))))))))))))
 have bY:=b.pk []
 obtain rfl:_=40:=hr.symm.trans (et (iN g) (et (ip i) (et (iN E) (ip F))))
 exact⟨rfl,bY,(by omega)⟩
 refine gw (.bool (decide (a.ae=5))) (dF F) (yO rfl) (gw (.bool (decide (a.ae=5))) (dF F) (yO rfl) ?_)
 have s:(decide (a.ae=5))=false:=(dF (by omega))
 refine Sz s (Sz s (Sz s (gw (.bool false) (dF F) (yM rfl s rfl) (fw (.bool false) (yM rfl (dF F) rfl) (Mz rfl (Gz (.pointer (some ⟨d,0,none⟩)) rfl (Gl (.int .i64 a.ae) rfl b 0 Tryz.isAgg3 (gw (.bool (decide (¬ (a.ae=2)))) rfl (za (e:= !(decide (a.ae=2))) yk decide_not.symm) (gw (.bool (decide (¬ (a.ae=2)))) rfl (yO rfl) ?_)))))))))
 have af:(decide (¬ (a.ae=2)))=false:=(dF (by omega))
 refine Sz af (Sz af (Sz af (gw (.bool false) rfl (yM rfl af rfl) (fw (.bool false) (yM rfl rfl rfl) (Mz rfl (Gz (.pointer (some ⟨d,0,none⟩)) rfl (Gl (.int .i64 a.ae) rfl b 0 Tryz.isAgg3 (gw (.bool (decide (¬ (a.ae=4)))) rfl (za (e:= !(decide (a.ae=4))) yk decide_not.symm) (gw (.bool (decide (¬ (a.ae=4)))) rfl (yO rfl) ?_)))))))))
 have ag:(decide (¬ (a.ae=4)))=true:=(dT (by omega))
 refine Gz (.pointer (some ⟨d,5,none⟩)) ag (Gl (.int .i64 a.aF) ag b 0 Tryz.isAgg3 (zy (v:= .bool (decide (¬ (a.aF=0)))) rfl rfl ag rfl (za (e:= !(decide (a.aF=0))) yk decide_not.symm) (gw (.bool (decide (¬ (a.aF=0)))) rfl (yN rfl ag rfl) (fw (.bool (decide (¬ (a.aF=0)))) (yM rfl rfl rfl) (nt ?_)))))
 by_cases az:a.aF=0
 refine jF (dF (BK az)) (sk (yJ (sr (Mz rfl (Mz rfl (Gz (.pointer (some ⟨d,1,none⟩)) rfl (Gl (.string ⟨List.toArray a.aL⟩) rfl b 0 Tryz.isAgg9 ?_)))))))
 obtain⟨aA,ah⟩:∃ q,ic a.aL=q:=⟨_,rfl⟩
 obtain⟨dM,aY,dz,aZ,dA⟩:=yP b
 refine jM rfl Tryz.call74 (jP _ _ a.aL aA aY ah) ?_
 rintro _ dN ⟨rfl,bf,aO⟩
 have aF:=aZ _ _ bf
 replace aO: ¬ (aA=0)∨(1≤a.aL.length∧a.aL.length≤12):=aO
 refine gw (.bool (decide (¬ (aA=0)))) rfl (za (e:= !(decide (aA=0))) yk decide_not.symm) (fw (.bool (decide (¬ (aA=0)))) (yN rfl rfl rfl) (nt ?_))
 by_cases aG:aA=0
 refine jF (dF (BK aG)) (sk (yJ (sr (Kz (.pointer (some ⟨d,2,none⟩)) (Lz (.string ⟨List.toArray a.au⟩) aF 0 Tryz.isAgg9 (Kz (.int .i64 ((a.au.length:Nat):Int)) (Kz (.bool (decide (((a.au.length:Nat):Int) > 16))) (nt ?_))))))))
 by_cases aM:((a.au.length:Nat):Int) > 16
 refine jT (dT aM) (sr (An rfl (rt (tR (rs ?_)))))
 have bZ:=aF.pk []
 obtain rfl:_=2:=hr.symm.trans (et (iN g) (et (ip i) (et (iN E) (et (iN F) (et (ip az) (et (aa ah) (et (ip aG) (ip aM))))))))
 exact⟨rfl,bZ,(by omega)⟩
 refine jF (dF aM) (sk (yJ (sr (Mz rfl (Mz rfl (Sz s (Sz s (Sz s (Sz s (Sz s (Sz s (Sz s (fw (.bool false) (yM rfl s rfl) (nt (jf (sk (yJ (sr (Kz (.pointer (some ⟨d,0,none⟩)) (Lz (.int .i64 a.ae) aF 0 Tryz.isAgg3 (Kz (.bool (decide (a.ae=4))) (Mz rfl (Sz A (Sz A (Sz A (Sz A (yX rfl rfl rfl (yX rfl rfl rfl (yX rfl rfl rfl (Sz A (fw (.bool false) (yM rfl A rfl) (nt (jf ?_)))))))))))))))))))))))))))))))))
 refine sk (sr (An rfl (rt (rs ?_))))
 have cu:=aF.pk []
 obtain rfl:_=0:=hr.symm.trans (et (iN g) (et (ip i) (et (iN E) (et (iN F) (et (ip az) (et (aa ah) (et (ip aG) (iN aM))))))))
 exact⟨rfl,cu,(by omega)⟩
 refine jT (dT aG) (sr (An rfl (rt (tR (rs ?_)))))
 have cz:=aF.pk []
 obtain rfl:_=20:=hr.symm.trans (et (iN g) (et (ip i) (et (iN E) (et (iN F) (et (ip az) (et (aa ah) (iN aG)))))))
 exact⟨rfl,cz,(by omega)⟩
 refine jT (dT az) (sr (An rfl (rt (tR (rs ?_)))))
 have cB:=b.pk []
 obtain rfl:_=40:=hr.symm.trans (et (iN g) (et (ip i) (et (iN E) (et (iN F) (iN az)))))
 exact⟨rfl,cB,(by omega)⟩
 refine Gz (.pointer (some ⟨d,0,none⟩)) (dF i) (Gl (.int .i64 a.ae) (dF i) b 0 Tryz.isAgg3 (Gz (.bool (decide (a.ae=3))) (dF i) (fw (.bool (decide (a.ae=3))) (yM rfl (dF i) rfl) (Ar rfl (Kz (.pointer (some ⟨d,0,none⟩)) (Lz (.int .i64 a.ae) b 0 Tryz.isAgg3 (Kz (.bool (decide (a.ae=4))) (Mz rfl ?_))))))))
 by_cases f:a.ae=4
 refine Sz (dT f) (Sz (dT f) (Sz (dT f) (fw (.bool true) (yN rfl (dT f) rfl) (An rfl (yJ (sr (Mz rfl (fw (.bool (decide (¬ (a.ae=3)))) (za (e:= !(decide (a.ae=3))) yk decide_not.symm) (Mz rfl ?_)))))))))
 have aH:(decide (¬ (a.ae=3)))=true:=(dT (by omega))
 refine zy (v:= .bool true) rfl rfl aH rfl (yO rfl) (Gz (.bool false) aH (fw (.bool false) (yN rfl aH rfl) (Mz rfl (gw (.bool (decide (a.ae=3))) rfl (yO rfl) (gw (.bool (decide (a.ae=3))) rfl (yO rfl) ?_)))))
 have x:(decide (a.ae=3))=false:=(dF (by omega))
 refine Sz x (Sz x (Sz x (Sz x (yX rfl rfl rfl (yX rfl rfl rfl (yX rfl rfl rfl (Sz x (gw (.bool false) rfl (yM rfl x rfl) (fw (.bool false) (yM rfl rfl rfl) (Mz rfl (gw (.bool true) rfl (yO rfl) (gw (.bool true) rfl (yO rfl) (Gz (.pointer (some ⟨d,1,none⟩)) rfl (Gl (.string ⟨List.toArray a.aL⟩) rfl b 0 Tryz.isAgg9 (gw (.bool (decide (a.aL≠([])))) rfl (zA rfl rfl) (gw (.bool (decide (a.aL≠([])))) rfl (yN rfl rfl rfl) (fw (.bool (decide (a.aL≠([])))) (yM rfl rfl rfl) (Mz rfl ?_))))))))))))))))))
 by_cases p:a.aL≠([])
 refine Sz (dT p) (Sz (dT p) (Sz (dT p) (Sz (dT p) (yX rfl rfl rfl (yX rfl rfl rfl (yX rfl rfl rfl (Sz (dT p) (fw (.bool true) (yN rfl (dT p) rfl) (Mz rfl (Sz rfl (Sz rfl (Sz rfl (Sz rfl (yX rfl rfl rfl (yX rfl rfl rfl (yX rfl rfl rfl (Sz rfl (fw (.bool true) (yN rfl rfl rfl) (nt (jt (sr (An rfl (rt (tR (rs ?_)))))))))))))))))))))))))
 have cK:=b.pk []
 obtain rfl:_=40:=hr.symm.trans (et (iN g) (et (iN i) (et (ip f) (ip p))))
 exact⟨rfl,cK,(by omega)⟩
 refine Gz (.pointer (some ⟨d,0,none⟩)) (dF p) (Gl (.int .i64 a.ae) (dF p) b 0 Tryz.isAgg3 (gw (.bool (decide (¬ (a.ae=2)))) (dF p) (za (e:= !(decide (a.ae=2))) yk decide_not.symm) (gw (.bool (decide (¬ (a.ae=2)))) (dF p) (yO rfl) ?_)))
 have ai:(decide (¬ (a.ae=2)))=true:=(dT (by omega))
 refine Gz (.pointer (some ⟨d,2,none⟩)) ai (Gl (.string ⟨List.toArray a.au⟩) ai b 0 Tryz.isAgg9 (zy (v:= .bool (decide (a.au≠([])))) rfl rfl ai rfl (zA rfl rfl) (gw (.bool (decide (a.au≠([])))) (dF p) (yN rfl ai rfl) (fw (.bool (decide (a.au≠([])))) (yM rfl (dF p) rfl) (Mz rfl ?_)))))
 by_cases t:a.au≠([])
 refine Sz (dT t) (Sz (dT t) (Sz (dT t) (Sz (dT t) (yX rfl rfl rfl (yX rfl rfl rfl (yX rfl rfl rfl (Sz (dT t) (fw (.bool true) (yN rfl (dT t) rfl) (nt (jt (sr (An rfl (rt (tR (rs ?_)))))))))))))))
 have cZ:=b.pk []
 obtain rfl:_=40:=hr.symm.trans (et (iN g) (et (iN i) (et (ip f) (et (iN p) (ip t)))))
 exact⟨rfl,cZ,(by omega)⟩
 refine Gz (.pointer (some ⟨d,0,none⟩)) (dF t) (Gl (.int .i64 a.ae) (dF t) b 0 Tryz.isAgg3 (gw (.bool (decide (¬ (a.ae=4)))) (dF t) (za (e:= !(decide (a.ae=4))) yk decide_not.symm) (gw (.bool (decide (¬ (a.ae=4)))) (dF t) (yO rfl) ?_)))
 have aj:(decide (¬ (a.ae=4)))=false:=(dF (by omega))
 refine Sz aj (Sz aj (Sz aj (gw (.bool false) (dF t) (yM rfl aj rfl) (fw (.bool false) (yM rfl (dF t) rfl) (nt (jf (sk (yJ (sr (Mz rfl (Mz rfl (Sz x (Sz x (Sz x (Sz x (fw (.bool false) (yM rfl x rfl) (nt (jf (sk (yJ (sr (Kz (.pointer (some ⟨d,2,none⟩)) (Lz (.string ⟨List.toArray a.au⟩) b 0 Tryz.isAgg9 (Kz (.int .i64 ((a.au.length:Nat):Int)) (Kz (.bool (decide (((a.au.length:Nat):Int) > 16))) (nt ?_))))))))))))))))))))))))))
 by_cases W:((a.au.length:Nat):Int) > 16
 refine jT (dT W) (sr (An rfl (rt (tR (rs ?_)))))
 have df:=b.pk []
 obtain rfl:_=2:=hr.symm.trans (et (iN g) (et (iN i) (et (ip f) (et (iN p) (et (iN t) (ip W))))))
 exact⟨rfl,df,(by omega)⟩
 refine jF (dF W) (sk (yJ (sr (Mz rfl (Mz rfl (Gz (.pointer (some ⟨d,3,none⟩)) rfl (Gl (.string ⟨List.toArray a.aD⟩) rfl b 0 Tryz.isAgg9 (Gz (.pointer (some ⟨d,4,none⟩)) rfl (Gl (.string ⟨List.toArray a.aH⟩) rfl b 0 Tryz.isAgg9 (Gz (.agg #[.string ⟨List.toArray a.aD⟩, .string ⟨List.toArray a.aH⟩]) rfl ?_))))))))))
 obtain⟨aI,R⟩:∃ q,iD (bC.mk a.aD a.aH)=q:=⟨_,rfl⟩
 obtain⟨dO,bg,dB,bi,dC⟩:=yP b
 refine jM rfl Tryz.call35 (lY _ _ (bC.mk a.aD a.aH) aI bg R) ?_
 rintro _ dP ⟨rfl,bn⟩
 have G:=bi _ _ bn
 refine gw (.bool (decide (¬ (aI=0)))) rfl (za (e:= !(decide (aI=0))) yk decide_not.symm) (fw (.bool (decide (¬ (aI=0)))) (yN rfl rfl rfl) (nt ?_))
 by_cases I:aI=0
 refine jF (dF (BK I)) (sk (yJ (sr (Kz (.pointer (some ⟨d,0,none⟩)) (Lz (.int .i64 a.ae) G 0 Tryz.isAgg3 (Kz (.bool (decide (a.ae=4))) (Mz rfl (Gz (.pointer (some ⟨d,5,none⟩)) (dT f) (Gl (.int .i64 a.aF) (dT f) G 0 Tryz.isAgg3 (Gz (.bool (decide (a.aF < 1))) (dT f) (gw (.bool (decide (a.aF < 1))) (dT f) (yO rfl) ?_)))))))))))
 by_cases y:a.aF < 1
 refine Sz (dT y) (Sz (dT y) (Sz (dT y) (gw (.bool true) (dT f) (yN rfl (dT y) rfl) (fw (.bool true) (yN rfl (dT f) rfl) (nt (jt (sr (An rfl (rt (tR (rs ?_)))))))))))
 have bq:=G.pk []
 obtain rfl:_=1:=hr.symm.trans (et (iN g) (et (iN i) (et (ip f) (et (iN p) (et (iN t) (et (iN W) (et (aa R) (et (ip I) (ip y)))))))))
 exact⟨rfl,bq,(by omega)⟩
 refine Gz (.pointer (some ⟨d,5,none⟩)) (dF y) (Gl (.int .i64 a.aF) (dF y) G 0 Tryz.isAgg3 (Gz (.bool (decide (a.aF > 4))) (dF y) (gw (.bool (decide (a.aF > 4))) (dT f) (yM rfl (dF y) rfl) (fw (.bool (decide (a.aF > 4))) (yN rfl (dT f) rfl) (nt ?_)))))
 by_cases ak:a.aF > 4
 refine jT (dT ak) (sr (An rfl (rt (tR (rs ?_)))))
 have bu:=G.pk []
 obtain rfl:_=1:=hr.symm.trans (et (iN g) (et (iN i) (et (ip f) (et (iN p) (et (iN t) (et (iN W) (et (aa R) (et (ip I) (et (iN y) (ip ak))))))))))
 exact⟨rfl,bu,(by omega)⟩
 refine jF (dF ak) (sk (sr (An rfl (rt (rs ?_)))))
 have bv:=G.pk []
 obtain rfl:_=0:=hr.symm.trans (et (iN g) (et (iN i) (et (ip f) (et (iN p) (et (iN t) (et (iN W) (et (aa R) (et (ip I) (et (iN y) (iN ak))))))))))
 exact⟨rfl,bv,(by omega)⟩
 refine jT (dT I) (sr (An rfl (rt (tR (rs ?_)))))
 have bz:=G.pk []
 obtain rfl:_=21:=hr.symm.trans (et (iN g) (et (iN i) (et (ip f) (et (iN p) (et (iN t) (et (iN W) (et (aa R) (iN I))))))))
 exact⟨rfl,bz,(by omega)⟩
 refine Gz (.pointer (some ⟨d,0,none⟩)) (dF f) (Gl (.int .i64 a.ae) (dF f) b 0 Tryz.isAgg3 (Gz (.bool (decide (a.ae=5))) (dF f) (fw (.bool (decide (a.ae=5))) (yM rfl (dF f) rfl) (An rfl (yJ (sr (Mz rfl (fw (.bool (decide (¬ (a.ae=3)))) (za (e:= !(decide (a.ae=3))) yk decide_not.symm) (Mz rfl ?_)))))))))
 by_cases c:a.ae=3
 refine Sk rfl rfl (dF (BK c)) rfl (Sk rfl rfl (dF (BK c)) rfl (fw (.bool false) (yM rfl (dF (BK c)) rfl) (Mz rfl (gw (.bool (decide (a.ae=3))) rfl (yO rfl) (gw (.bool (decide (a.ae=3))) rfl (yO rfl) (Gz (.pointer (some ⟨d,3,none⟩)) (dT c) (Gl (.string ⟨List.toArray a.aD⟩) (dT c) b 0 Tryz.isAgg9 (gw (.bool (decide (a.aD≠([])))) (dT c) (zA rfl rfl) (gw (.bool (decide (a.aD≠([])))) (dT c) (yO rfl) ?_)))))))))
 by_cases n:a.aD≠([])
 refine Sz (dT n) (Sz (dT n) (Sz (dT n) (gw (.bool true) (dT c) (yN rfl (dT n) rfl) (gw (.bool true) rfl (yN rfl (dT c) rfl) (fw (.bool true) (yM rfl rfl rfl) (Mz rfl (Sz rfl (Sz rfl (yX rfl rfl rfl (yX rfl rfl rfl (yX rfl rfl rfl (Sz rfl (fw (.bool true) (yN rfl rfl rfl) (Mz rfl (Sz rfl (Sz rfl (Sz rfl (Sz rfl (yX rfl rfl rfl (yX rfl rfl rfl (yX rfl rfl rfl (Sz rfl (fw (.bool true) (yN rfl rfl rfl) (Mz rfl (Sz rfl (Sz rfl (Sz rfl (Sz rfl (yX rfl rfl rfl (yX rfl rfl rfl (yX rfl rfl rfl (Sz rfl (fw (.bool true) (yN rfl rfl rfl) (nt (jt (sr (Az rfl ?_)))))))))))))))))))))))))))))))))))))
 refine nt (rt (tR (rs ?_)))
 have bA:=b.pk []
 obtain rfl:_=40:=hr.symm.trans (et (iN g) (et (iN i) (et (iN f) (et (ip c) (ip n)))))
 exact⟨rfl,bA,(by omega)⟩
 refine Gz (.pointer (some ⟨d,4,none⟩)) (dF n) (Gl (.string ⟨List.toArray a.aH⟩) (dF n) b 0 Tryz.isAgg9 (gw (.bool (decide (a.aH≠([])))) (dF n) (zA rfl rfl) (gw (.bool (decide (a.aH≠([])))) (dT c) (yM rfl (dF n) rfl) (gw (.bool (decide (a.aH≠([])))) rfl (yN rfl (dT c) rfl) (fw (.bool (decide (a.aH≠([])))) (yM rfl rfl rfl) (Mz rfl ?_))))))
 by_cases o:a.aH≠([])
 refine Sz (dT o) (Sz (dT o) (yX rfl rfl rfl (yX rfl rfl rfl (yX rfl rfl rfl (Sz (dT o) (fw (.bool true) (yN rfl (dT o) rfl) (Mz rfl (Sz rfl (Sz rfl (Sz rfl (Sz rfl (yX rfl rfl rfl (yX rfl rfl rfl (yX rfl rfl rfl (Sz rfl (fw (.bool true) (yN rfl rfl rfl) (Mz rfl (Sz rfl (Sz rfl (Sz rfl (Sz rfl (yX rfl rfl rfl (yX rfl rfl rfl (yX rfl rfl rfl (Sz rfl (fw (.bool true) (yN rfl rfl rfl) (nt (jt (sr (An rfl (rt (tR (rs ?_)))))))))))))))))))))))))))))))))
 have bB:=b.pk []
 obtain rfl:_=40:=hr.symm.trans (et (iN g) (et (iN i) (et (iN f) (et (ip c) (et (iN n) (ip o))))))
 exact⟨rfl,bB,(by omega)⟩
 refine gw (.bool (decide (a.ae=5))) (dF o) (yO rfl) (gw (.bool (decide (a.ae=5))) (dF o) (yO rfl) ?_)
 have m:(decide (a.ae=5))=false:=(dF (by omega))
 refine Sz m (Sz m (Sz m (gw (.bool false) (dF o) (yM rfl m rfl) (fw (.bool false) (yM rfl (dF o) rfl) (Mz rfl (Gz (.pointer (some ⟨d,0,none⟩)) rfl (Gl (.int .i64 a.ae) rfl b 0 Tryz.isAgg3 (gw (.bool (decide (¬ (a.ae=2)))) rfl (za (e:= !(decide (a.ae=2))) yk decide_not.symm) (gw (.bool (decide (¬ (a.ae=2)))) rfl (yO rfl) ?_)))))))))
 have M:(decide (¬ (a.ae=2)))=true:=(dT (by omega))
 refine Gz (.pointer (some ⟨d,2,none⟩)) M (Gl (.string ⟨List.toArray a.au⟩) M b 0 Tryz.isAgg9 (zy (v:= .bool (decide (a.au≠([])))) rfl rfl M rfl (zA rfl rfl) (gw (.bool (decide (a.au≠([])))) rfl (yN rfl M rfl) (fw (.bool (decide (a.au≠([])))) (yM rfl rfl rfl) (Mz rfl ?_)))))
 by_cases k:a.au≠([])
 refine Sz (dT k) (Sz (dT k) (Sz (dT k) (Sz (dT k) (yX rfl rfl rfl (yX rfl rfl rfl (yX rfl rfl rfl (Sz (dT k) (fw (.bool true) (yN rfl (dT k) rfl) (nt (jt (sr (An rfl (rt (tR (rs ?_)))))))))))))))
 have bD:=b.pk []
 obtain rfl:_=40:=hr.symm.trans (et (iN g) (et (iN i) (et (iN f) (et (ip c) (et (iN n) (et (iN o) (ip k)))))))
 exact⟨rfl,bD,(by omega)⟩
 refine Gz (.pointer (some ⟨d,0,none⟩)) (dF k) (Gl (.int .i64 a.ae) (dF k) b 0 Tryz.isAgg3 (gw (.bool (decide (¬ (a.ae=4)))) (dF k) (za (e:= !(decide (a.ae=4))) yk decide_not.symm) (gw (.bool (decide (¬ (a.ae=4)))) (dF k) (yO rfl) ?_)))
 have N:(decide (¬ (a.ae=4)))=true:=(dT (by omega))
 refine Gz (.pointer (some ⟨d,5,none⟩)) N (Gl (.int .i64 a.aF) N b 0 Tryz.isAgg3 (zy (v:= .bool (decide (¬ (a.aF=0)))) rfl rfl N rfl (za (e:= !(decide (a.aF=0))) yk decide_not.symm) (gw (.bool (decide (¬ (a.aF=0)))) (dF k) (yN rfl N rfl) (fw (.bool (decide (¬ (a.aF=0)))) (yM rfl (dF k) rfl) (nt ?_)))))
 by_cases J:a.aF=0
 refine jF (dF (BK J)) (sk (yJ (sr (Mz rfl (Mz rfl (Gz (.pointer (some ⟨d,1,none⟩)) (dT c) (Gl (.string ⟨List.toArray a.aL⟩) (dT c) b 0 Tryz.isAgg9 ?_)))))))
 obtain⟨K,O⟩:∃ q,ic a.aL=q:=⟨_,rfl⟩
 obtain⟨dD,aP,dh,aQ,di⟩:=yP b
 refine jM (dT c) Tryz.call74 (jP _ _ a.aL K aP O) ?_
 rintro _ dG ⟨rfl,aR,aJ⟩
 have S:=aQ _ _ aR
 replace aJ: ¬ (K=0)∨(1≤a.aL.length∧a.aL.length≤12):=aJ
 refine gw (.bool (decide (¬ (K=0)))) (dT c) (za (e:= !(decide (K=0))) yk decide_not.symm) (fw (.bool (decide (¬ (K=0)))) (yN rfl (dT c) rfl) (nt ?_))
 by_cases T:K=0
 refine jF (dF (BK T)) (sk (yJ (sr (Kz (.pointer (some ⟨d,2,none⟩)) (Lz (.string ⟨List.toArray a.au⟩) S 0 Tryz.isAgg9 (Kz (.int .i64 ((a.au.length:Nat):Int)) (Kz (.bool (decide (((a.au.length:Nat):Int) > 16))) (nt ?_))))))))
 by_cases au:((a.au.length:Nat):Int) > 16
 refine jT (dT au) (sr (An rfl (rt (tR (rs ?_)))))
 have bE:=S.pk []
 obtain rfl:_=2:=hr.symm.trans (et (iN g) (et (iN i) (et (iN f) (et (ip c) (et (iN n) (et (iN o) (et (iN k) (et (ip J) (et (aa O) (et (ip T) (ip au)))))))))))
 exact⟨rfl,bE,(by omega)⟩
 refine jF (dF au) (sk (yJ (sr (Mz rfl (Mz rfl (Sz m (Sz m (Sz m (Sz m (Sz m (Sz m (Sz m (fw (.bool false) (yM rfl m rfl) (nt (jf (sk (yJ (sr (Kz (.pointer (some ⟨d,0,none⟩)) (Lz (.int .i64 a.ae) S 0 Tryz.isAgg3 (Kz (.bool (decide (a.ae=4))) (Mz rfl (Sz (dF f) (Sz (dF f) (Sz (dF f) (Sz (dF f) (yX rfl rfl rfl (yX rfl rfl rfl (yX rfl rfl rfl (Sz (dF f) (fw (.bool false) (yM rfl (dF f) rfl) (nt (jf ?_)))))))))))))))))))))))))))))))))
 refine sk (sr (An rfl (rt (rs ?_))))
 have bF:=S.pk []
 obtain rfl:_=0:=hr.symm.trans (et (iN g) (et (iN i) (et (iN f) (et (ip c) (et (iN n) (et (iN o) (et (iN k) (et (ip J) (et (aa O) (et (ip T) (iN au)))))))))))
 exact⟨rfl,bF,(by omega)⟩
 refine jT (dT T) (sr (An rfl (rt (tR (rs ?_)))))
 have bG:=S.pk []
 obtain rfl:_=20:=hr.symm.trans (et (iN g) (et (iN i) (et (iN f) (et (ip c) (et (iN n) (et (iN o) (et (iN k) (et (ip J) (et (aa O) (iN T))))))))))
 exact⟨rfl,bG,(by omega)⟩
 refine jT (dT J) (sr (An rfl (rt (tR (rs ?_)))))
 have bH:=b.pk []
 obtain rfl:_=40:=hr.symm.trans (et (iN g) (et (iN i) (et (iN f) (et (ip c) (et (iN n) (et (iN o) (et (iN k) (iN J))))))))
 exact⟨rfl,bH,(by omega)⟩
 refine gw (.bool (decide (a.ae=5))) (dT c) (yO rfl) (gw (.bool (decide (¬ (a.ae=5)))) (dT c) (za (e:= !(decide (a.ae=5))) yk decide_not.symm) (fw (.bool (decide (¬ (a.ae=5)))) (yN rfl (dT c) rfl) (Mz rfl ?_)))
 by_cases h:a.ae=5
 refine gw (.bool (decide (a.ae=3))) (dF (BK h)) (yO rfl) (gw (.bool (decide (a.ae=3))) (dF (BK h)) (yO rfl) (Sz (dF c) (Sz (dF c) (Sz (dF c) (Sz (dF c) (yX rfl rfl rfl (yX rfl rfl rfl (yX rfl rfl rfl (Sz (dF c) (gw (.bool false) (dF (BK h)) (yM rfl (dF c) rfl) (fw (.bool false) (yM rfl (dF (BK h)) rfl) (Mz rfl (gw (.bool (decide (a.ae=5))) rfl (yO rfl) (gw (.bool (decide (a.ae=5))) rfl (yO rfl) (Gz (.pointer (some ⟨d,1,none⟩)) (dT h) (Gl (.string ⟨List.toArray a.aL⟩) (dT h) b 0 Tryz.isAgg9 (gw (.bool (decide (a.aL≠([])))) (dT h) (zA rfl rfl) (gw (.bool (decide (a.aL≠([])))) rfl (yN rfl (dT h) rfl) (fw (.bool (decide (a.aL≠([])))) (yM rfl rfl rfl) (Mz rfl ?_))))))))))))))))))))
 by_cases j:a.aL≠([])
 refine Sz (dT j) (Sz (dT j) (Sz (dT j) (Sz (dT j) (yX rfl rfl rfl (yX rfl rfl rfl (yX rfl rfl rfl (Sz (dT j) (fw (.bool true) (yN rfl (dT j) rfl) (Mz rfl (Sz rfl (Sz rfl (Sz rfl (Sz rfl (yX rfl rfl rfl (yX rfl rfl rfl (yX rfl rfl rfl (Sz rfl (fw (.bool true) (yN rfl rfl rfl) (nt (jt (sr (An rfl (rt (tR (rs ?_)))))))))))))))))))))))))
 have bI:=b.pk []
 obtain rfl:_=40:=hr.symm.trans (et (iN g) (et (iN i) (et (iN f) (et (iN c) (et (ip h) (ip j))))))
 exact⟨rfl,bI,(by omega)⟩
 refine Gz (.pointer (some ⟨d,0,none⟩)) (dF j) (Gl (.int .i64 a.ae) (dF j) b 0 Tryz.isAgg3 (gw (.bool (decide (¬ (a.ae=2)))) (dF j) (za (e:= !(decide (a.ae=2))) yk decide_not.symm) (gw (.bool (decide (¬ (a.ae=2)))) (dF j) (yO rfl) ?_)))
 have P:(decide (¬ (a.ae=2)))=true:=(dT (by omega))
 refine Gz (.pointer (some ⟨d,2,none⟩)) P (Gl (.string ⟨List.toArray a.au⟩) P b 0 Tryz.isAgg9 (zy (v:= .bool (decide (a.au≠([])))) rfl rfl P rfl (zA rfl rfl) (gw (.bool (decide (a.au≠([])))) (dF j) (yN rfl P rfl) (fw (.bool (decide (a.au≠([])))) (yM rfl (dF j) rfl) (Mz rfl ?_)))))
 by_cases l:a.au≠([])
 refine Sz (dT l) (Sz (dT l) (Sz (dT l) (Sz (dT l) (yX rfl rfl rfl (yX rfl rfl rfl (yX rfl rfl rfl (Sz (dT l) (fw (.bool true) (yN rfl (dT l) rfl) (nt (jt (sr (An rfl (rt (tR (rs ?_)))))))))))))))
 have bJ:=b.pk []
 obtain rfl:_=40:=hr.symm.trans (et (iN g) (et (iN i) (et (iN f) (et (iN c) (et (ip h) (et (iN j) (ip l)))))))
 exact⟨rfl,bJ,(by omega)⟩
 refine Gz (.pointer (some ⟨d,0,none⟩)) (dF l) (Gl (.int .i64 a.ae) (dF l) b 0 Tryz.isAgg3 (gw (.bool (decide (¬ (a.ae=4)))) (dF l) (za (e:= !(decide (a.ae=4))) yk decide_not.symm) (gw (.bool (decide (¬ (a.ae=4)))) (dF l) (yO rfl) ?_)))
 have Q:(decide (¬ (a.ae=4)))=true:=(dT (by omega))
 refine Gz (.pointer (some ⟨d,5,none⟩)) Q (Gl (.int .i64 a.aF) Q b 0 Tryz.isAgg3 (zy (v:= .bool (decide (¬ (a.aF=0)))) rfl rfl Q rfl (za (e:= !(decide (a.aF=0))) yk decide_not.symm) (gw (.bool (decide (¬ (a.aF=0)))) (dF l) (yN rfl Q rfl) (fw (.bool (decide (¬ (a.aF=0)))) (yM rfl (dF l) rfl) (nt ?_)))))
 by_cases L:a.aF=0
 refine jF (dF (BK L)) (sk (yJ (sr (Mz rfl (Mz rfl (Sz (dF c) (Sz (dF c) (Sz (dF c) (Sz (dF c) (fw (.bool false) (yM rfl (dF c) rfl) (nt (jf (sk (yJ (sr (Kz (.pointer (some ⟨d,2,none⟩)) (Lz (.string ⟨List.toArray a.au⟩) b 0 Tryz.isAgg9 (Kz (.int .i64 ((a.au.length:Nat):Int)) (Kz (.bool (decide (((a.au.length:Nat):Int) > 16))) (nt ?_))))))))))))))))))))
 by_cases U:((a.au.length:Nat):Int) > 16
 refine jT (dT U) (sr (An rfl (rt (tR (rs ?_)))))
 have bK:=b.pk []
 obtain rfl:_=2:=hr.symm.trans (et (iN g) (et (iN i) (et (iN f) (et (iN c) (et (ip h) (et (iN j) (et (iN l) (et (ip L) (ip U)))))))))
 exact⟨rfl,bK,(by omega)⟩
 refine jF (dF U) (sk (yJ (sr (Mz rfl (Mz rfl (Gz (.pointer (some ⟨d,3,none⟩)) (dT h) (Gl (.string ⟨List.toArray a.aD⟩) (dT h) b 0 Tryz.isAgg9 (Gz (.pointer (some ⟨d,4,none⟩)) (dT h) (Gl (.string ⟨List.toArray a.aH⟩) (dT h) b 0 Tryz.isAgg9 (Gz (.agg #[.string ⟨List.toArray a.aD⟩, .string ⟨List.toArray a.aH⟩]) (dT h) ?_))))))))))
 obtain⟨V,X⟩:∃ q,iD (bC.mk a.aD a.aH)=q:=⟨_,rfl⟩
 obtain⟨dH,aS,dm,aT,dn⟩:=yP b
 refine jM (dT h) Tryz.call35 (lY _ _ (bC.mk a.aD a.aH) V aS X) ?_
 rintro _ dI ⟨rfl,aU⟩
 have aK:=aT _ _ aU
 refine gw (.bool (decide (¬ (V=0)))) (dT h) (za (e:= !(decide (V=0))) yk decide_not.symm) (fw (.bool (decide (¬ (V=0)))) (yN rfl (dT h) rfl) (nt ?_))
 by_cases av:V=0
 refine jF (dF (BK av)) (sk (yJ (sr (Kz (.pointer (some ⟨d,0,none⟩)) (Lz (.int .i64 a.ae) aK 0 Tryz.isAgg3 (Kz (.bool (decide (a.ae=4))) (Mz rfl (Sz (dF f) (Sz (dF f) (Sz (dF f) (Sz (dF f) (yX rfl rfl rfl (yX rfl rfl rfl (yX rfl rfl rfl (Sz (dF f) (fw (.bool false) (yM rfl (dF f) rfl) (nt (jf (sk (sr (An rfl (rt (rs ?_)))))))))))))))))))))))
 have bL:=aK.pk []
 obtain rfl:_=0:=hr.symm.trans (et (iN g) (et (iN i) (et (iN f) (et (iN c) (et (ip h) (et (iN j) (et (iN l) (et (ip L) (et (iN U) (et (aa X) (ip av)))))))))))
 exact⟨rfl,bL,(by omega)⟩
 refine jT (dT av) (sr (An rfl (rt (tR (rs ?_)))))
 have bM:=aK.pk []
 obtain rfl:_=21:=hr.symm.trans (et (iN g) (et (iN i) (et (iN f) (et (iN c) (et (ip h) (et (iN j) (et (iN l) (et (ip L) (et (iN U) (et (aa X) (iN av)))))))))))
 exact⟨rfl,bM,(by omega)⟩
 refine jT (dT L) (sr (An rfl (rt (tR (rs ?_)))))
 have bN:=b.pk []
 obtain rfl:_=40:=hr.symm.trans (et (iN g) (et (iN i) (et (iN f) (et (iN c) (et (ip h) (et (iN j) (et (iN l) (iN L))))))))
 exact⟨rfl,bN,(by omega)⟩
 refine Sz (dT h) (Sz (dT h) (yX rfl rfl rfl (yX rfl rfl rfl (yX rfl rfl rfl (yX rfl rfl rfl (yX rfl rfl rfl (yX rfl rfl rfl (yX rfl rfl rfl (yX rfl rfl rfl (Sz (dT h) (fw (.bool true) (yN rfl (dT h) rfl) (Mz rfl (Sz rfl (Sz rfl (yX rfl rfl rfl (yX rfl rfl rfl (yX rfl rfl rfl (Sz rfl (fw (.bool true) (yN rfl rfl rfl) (Mz rfl (Sz rfl (Sz rfl (Sz rfl (Sz rfl (yX rfl rfl rfl (yX rfl rfl rfl (yX rfl rfl rfl (Sz rfl (fw (.bool true) (yN rfl rfl rfl) (Mz rfl (Sz rfl (Sz rfl (Sz rfl (Sz rfl (yX rfl rfl rfl (yX rfl rfl rfl (yX rfl rfl rfl (Sz rfl (fw (.bool true) (yN rfl rfl rfl) ?_)))))))))))))))))))))))))))))))))))))))
 refine nt (jt (sr (An rfl (rt (tR (rs ?_))))))
 have bO:=b.pk []
 obtain rfl:_=40:=hr.symm.trans (et (iN g) (et (iN i) (et (iN f) (et (iN c) (iN h)))))
 exact⟨rfl,bO,(by omega)⟩
def gz:List aB→Unit ⊕ Int
  | []=>Sum.inl ()
  | b::c=>bnd (jq b) fun a=>if a=0 then gz c else Sum.inr (a)
def jo (a:List aB):Int:=
 lp (gz a) fun _=>0
theorem oD (w:World) (D:Nat→Prop) (l:Option Addr) (n0 r:Nat) (b:List aB) (M:Int) (H:Own w D w []) (p:Ro w D fun w'=>bD w' 6 l n0 (List.flatMap aB.cells b)) (F:n0=b.length) (Q:b.length≤9223372036854775807) (hr:jo b=M):
    Calls Tryz.prog 32 #[.slice l n0 r] w (cO fun v w'=>v= .int .i64 M∧Own w D w' []):=by
 subst F
 refine yR (args:= [.slice l b.length r]) Tryz.func32 rfl rfl rfl ?_
 show Wp _ _ _ [(0, .slice l b.length r)] _ _
 refine sr (An rfl (yJ (sr (Mz rfl (Kz (.int .i64 ((b.length:Nat):Int)) (Mn rfl (bo ?_)))))))
 have G:Own w D w []:=H.pk []
 obtain⟨s,t⟩:∃ q:Nat→World→Prop,q=fun(i:Nat) w'=>Own w D w' []∧(i≤b.length∧gz b=gz (List.drop i b)):=⟨_,rfl⟩
 have f:∀ {a:Nat} {w':World},s a w'↔Own w D w' []∧a≤b.length∧gz b=gz (List.drop a b):=by intros; subst t; exact Iff.rfl
 refine Wp.loop (fun i:Nat=> [(2, .int .i64 0),(8, .int .i64 ((i:Nat):Int)),(7, .int .i64 ((b.length:Nat):Int)),(6, .slice l b.length r)]) s (fun i=>b.length - i) 0 ⟨rfl,rfl,rfl,rfl,trivial⟩ (f.2 ⟨G,by omega,rfl⟩) ?_
 rintro a R u
 show Wp _ _ _ [(2, .int .i64 0),(8, .int .i64 ((a:Nat):Int)),(7, .int .i64 ((b.length:Nat):Int)),(6, .slice l b.length r)] _ _
 obtain⟨g,N,h⟩:=f.1 u
 refine sr (Kz (.bool (decide (((a:Nat):Int) < ((b.length:Nat):Int)))) (nt (yJ ?_)))
 by_cases x:((a:Nat):Int) < ((b.length:Nat):Int)
 obtain⟨c,m⟩:=dV (ls:=b) (i:=a) aB.len (by decide) (g.ro p) (by first | omega | (simp; done) | (simp; omega))
 have n:=drop_at m
 refine jT (dT x) (sk (yJ (bo (sr (fw (.pointer (some ⟨ab l,ao l+a *6,none⟩)) (yZ (l8) rfl rfl ((g.ro p).addr (i:=a) (by omega)) (by omega)) (fw (.agg (aB.cells c).toArray) (y5 rfl (zg (cs:=(aB.cells c)) Tryz.isAgg64 Tryz.sizeOf64 ((g.ro p).elem aB.len m (by decide)))) ?_))))))
 refine dE [.int .i64 0, .string ⟨List.toArray ([])⟩, .string ⟨List.toArray ([])⟩, .string ⟨List.toArray ([])⟩, .string ⟨List.toArray ([])⟩, .int .i64 0] 64 g ?_
 intro S T I
 refine bz (aB.cells c) 0 I Tryz.sizeOf64 ?_
 intro U y
 refine ns (La (aB.cells c) y 0 Tryz.isAgg64 Tryz.sizeOf64 ?_)
 obtain⟨d,j⟩:∃ q,jq c=q:=⟨_,rfl⟩
 obtain⟨V,z,O,A,P⟩:=yP y
 refine cl Tryz.call75 (qW _ _ c d z j) ?_
 rintro _ W ⟨rfl,B,o⟩
 have C:=A _ _ B
 replace o: ¬ (d=0)∨(1≤c.ae∧c.ae≤5):=o
 refine Ar rfl (Mz rfl (fw (.bool (decide (¬ (d=0)))) (za (e:= !(decide (d=0))) yk decide_not.symm) (nt ?_)))
 by_cases k:d=0
 refine jF (dF (BK k)) (zm (bN (yL (yK (fw (.int .i64 ((a+1:Nat):Int)) (yS (e:=IntKind.i64.wrap (((a:Nat):Int)+1)) yk (by rw [BI _ (by omega)]; omega)) (Mz rfl (WL.nil ?_)))))))
 have J:=C.pk []
 exact yY (a+1) ⟨rfl,rfl,rfl,rfl,trivial⟩ (f.2 ⟨J,by omega,et (h) (et (congrArg (fun q=>gz q) n) (et (aa j) (ip k)))⟩) (by show b.length - (a+1) < b.length - a; omega)
 refine jT (dT k) (sr (Mz rfl (An rfl (rt (bR (tR (tR (bR (tR (rs ?_))))))))))
 have K:=C.pk []
 obtain rfl:_=d:=hr.symm.trans (iG (et (h) (et (congrArg (fun q=>gz q) n) (et (aa j) (iN k)))))
 exact⟨rfl,K⟩
 refine jF (dF x) (Wp.exit (yV ?_))
 have E:gz b=Sum.inl ():=et (h) (et (congrArg (fun q=>gz q) (dZ (ls:=b) (i:=a) (by omega))) rfl)
 refine yV (y8 (yL (sr (An rfl (rt (rs ?_))))))
 have L:=g.pk []
 obtain rfl:_=0:=hr.symm.trans (kG E)
 exact⟨rfl,L⟩
def mr (b:List aB):Int:=
 if((b.length:Nat):Int) < 1 then 3 else if((b.length:Nat):Int) > 4 then 3 else bnd (jo b) fun a=>a
theorem sj (w:World) (D:Nat→Prop) (e:Option Addr) (n0 f:Nat) (b:List aB) (s:Int) (H:Own w D w []) (l:Ro w D fun w'=>bD w' 6 e n0 (List.flatMap aB.cells b)) (m:n0=b.length) (u:b.length≤9223372036854775807) (hr:mr b=s):
    Calls Tryz.prog 30 #[.slice e n0 f] w (cO fun v w'=>v= .int .i64 s∧Own w D w' []):=by
 subst m
 refine yR (args:= [.slice e b.length f]) Tryz.func30 rfl rfl rfl ?_
 show Wp _ _ _ [(0, .slice e b.length f)] _ _
 refine sr (An rfl (yJ (sr (Mz rfl (Kz (.int .i64 ((b.length:Nat):Int)) (Kz (.bool (decide (((b.length:Nat):Int) < 1))) (Mz rfl ?_)))))))
 by_cases a:((b.length:Nat):Int) < 1
 refine Sz (dT a) (Sz (dT a) (Sz (dT a) (fw (.bool true) (yN rfl (dT a) rfl) (nt (jt (sr (An rfl (rt (tR (rs ?_))))))))))
 have n:Own w D w []:=H.pk []
 obtain rfl:_=3:=hr.symm.trans (ip a)
 exact⟨rfl,n⟩
 refine gw (.slice e b.length f) (dF a) (yO rfl) (Gz (.int .i64 ((b.length:Nat):Int)) (dF a) (Gz (.bool (decide (((b.length:Nat):Int) > 4))) (dF a) (fw (.bool (decide (((b.length:Nat):Int) > 4))) (yM rfl (dF a) rfl) (nt ?_))))
 by_cases c:((b.length:Nat):Int) > 4
 refine jT (dT c) (sr (An rfl (rt (tR (rs ?_)))))
 have o:Own w D w []:=H.pk []
 obtain rfl:_=3:=hr.symm.trans (et (iN a) (ip c))
 exact⟨rfl,o⟩
 refine jF (dF c) (sk (sr (Mz rfl ?_)))
 obtain⟨g,d⟩:∃ q,jo b=q:=⟨_,rfl⟩
 obtain⟨x,h,i,j,t⟩:=yP H
 refine cl Tryz.call32 (oD _ _ e b.length f b g h (i _ l) rfl (by omega) d) ?_
 rintro _ y ⟨rfl,k⟩
 have p:=j _ _ k
 refine An rfl (rt (rs ?_))
 have r:=p.pk []
 obtain rfl:_=g:=hr.symm.trans (et (iN a) (et (iN c) (aa d)))
 exact⟨rfl,r⟩
def fF (f:List aA):List aA→Nat→Unit ⊕ Int
  | [],a=>Sum.inl ()
  | b::c,a=>if b.dn < 1 then Sum.inr (170) else if b.dn > 4 then Sum.inr (170) else if((a:Nat):Int) > 0 then bnd (ic b.aD) fun d=>if d=0 then bnd (List.getD f (a - 1) default) fun e=>if b.aD≤e.aD then Sum.inr (170) else fF f c (a+1) else Sum.inr (170) else fF f c (a+1)
def mD (a:List aA):Int:=
 if((a.length:Nat):Int) < 1 then 170 else if((a.length:Nat):Int) > 6 then 170 else bnd (List.getD a 0 default) fun b=>if b.aD≠([]) then 170 else lp (fF a a 0) fun _=>0
theorem su (w:World) (D:Nat→Prop) (o:Option Addr) (n0 F:Nat) (b:List aA) (r0:Int) (H:Own w D w []) (r:Ro w D fun w'=>bD w' 2 o n0 (List.flatMap aA.cells b)) (U:n0=b.length) (aD:b.length≤9223372036854775807) (hr:mD b=r0):
    Calls Tryz.prog 33 #[.slice o n0 F] w (cO fun v w'=>v= .int .i64 r0∧Own w D w' []):=by
 subst U
 refine yR (args:= [.slice o b.length F]) Tryz.func33 rfl rfl rfl ?_
 show Wp _ _ _ [(0, .slice o b.length F)] _ _
 refine sr (An rfl (yJ (sr (Mz rfl (Kz (.int .i64 ((b.length:Nat):Int)) (Kz (.bool (decide (((b.length:Nat):Int) < 1))) (Mz rfl ?_)))))))
 by_cases j:((b.length:Nat):Int) < 1
 refine Sz (dT j) (Sz (dT j) (Sz (dT j) (fw (.bool true) (yN rfl (dT j) rfl) (Mz rfl (Sz rfl (Sz rfl (Sz rfl (Sz rfl (Sz rfl (fw (.bool true) (yN rfl rfl rfl) (nt (jt (sr (An rfl (rt (tR (rs ?_)))))))))))))))))
 have V:Own w D w []:=H.pk []
 obtain rfl:_=170:=hr.symm.trans (ip j)
 exact⟨rfl,V⟩
 refine gw (.slice o b.length F) (dF j) (yO rfl) (Gz (.int .i64 ((b.length:Nat):Int)) (dF j) (Gz (.bool (decide (((b.length:Nat):Int) > 6))) (dF j) (fw (.bool (decide (((b.length:Nat):Int) > 6))) (yM rfl (dF j) rfl) (Mz rfl ?_))))
 by_cases g:((b.length:Nat):Int) > 6
 refine Sz (dT g) (Sz (dT g) (Sz (dT g) (Sz (dT g) (Sz (dT g) (fw (.bool true) (yN rfl (dT g) rfl) (nt (jt (sr (An rfl (rt (tR (rs ?_))))))))))))
 have X:Own w D w []:=H.pk []
 obtain rfl:_=170:=hr.symm.trans (et (iN j) (ip g))
 exact⟨rfl,X⟩
 refine gw (.slice o b.length F) (dF g) (yO rfl) ?_
 obtain⟨G,m⟩:=dV (ls:=b) (i:=0) aA.len (by decide) (H.ro r) (by first | omega | (simp; done) | (simp; omega))
 refine gw (.pointer (some ⟨ab o,ao o+0 *2,none⟩)) (dF g) (yZ (lT) rfl rfl ((H.ro r).addr (i:=0) (by omega)) (by omega)) (Gz (.pointer (some ⟨ab o,ao o+0 *2,none⟩)) (dF g) (gw (.string ⟨List.toArray G.aD⟩) (dF g) (y5 rfl (bn.one Tryz.isAgg9 (((H.ro r).elem aA.len m (by decide)).at_ (k:=0) rfl))) (gw (.bool (decide (G.aD≠([])))) (dF g) (zA rfl rfl) (fw (.bool (decide (G.aD≠([])))) (yM rfl (dF g) rfl) (nt ?_)))))
 by_cases s:G.aD≠([])
 refine jT (dT s) (sr (An rfl (rt (tR (rs ?_)))))
 have Y:Own w D w []:=H.pk []
 obtain rfl:_=170:=hr.symm.trans (et (iN j) (et (iN g) (et (aa (dh m)) (ip s))))
 exact⟨rfl,Y⟩
 refine jF (dF s) (sk (yJ (sr (Mz rfl (Kz (.int .i64 ((b.length:Nat):Int)) (Mn rfl (bo ?_)))))))
 have Z:Own w D w []:=H.pk []
 obtain⟨M,N⟩:∃ q:Nat→World→Prop,q=fun(i:Nat) w'=>Own w D w' []∧(i≤b.length∧fF b b 0=fF b (List.drop i b) i):=⟨_,rfl⟩
 have x:∀ {a:Nat} {w':World},M a w'↔Own w D w' []∧a≤b.length∧fF b b 0=fF b (List.drop a b) a:=by intros; subst N; exact Iff.rfl
 refine Wp.loop (fun i:Nat=> [(2, .int .i64 0),(22, .int .i64 ((i:Nat):Int)),(21, .int .i64 ((b.length:Nat):Int)),(20, .slice o b.length F),(0, .slice o b.length F)]) M (fun i=>b.length - i) 0 ⟨rfl,rfl,rfl,rfl,rfl,trivial⟩ (x.2 ⟨Z,by omega,rfl⟩) ?_
 rintro a aF O
 show Wp _ _ _ [(2, .int .i64 0),(22, .int .i64 ((a:Nat):Int)),(21, .int .i64 ((b.length:Nat):Int)),(20, .slice o b.length F),(0, .slice o b.length F)] _ _
 obtain⟨A,az,n⟩:=x.1 O
 refine sr (Kz (.bool (decide (((a:Nat):Int) < ((b.length:Nat):Int)))) (nt (yJ ?_)))
 by_cases P:((a:Nat):Int) < ((b.length:Nat):Int)
 obtain⟨c,K⟩:=dV (ls:=b) (i:=a) aA.len (by decide) (A.ro r) (by first | omega | (simp; done) | (simp; omega))
 have p:=drop_at K
 refine jT (dT P) (sk (yJ (bo (sr (Mz rfl (fw (.pointer (some ⟨ab o,ao o+a *2,none⟩)) (yZ (lT) rfl rfl ((A.ro r).addr (i:=a) (by omega)) (by omega)) (fw (.agg (aA.cells c).toArray) (y5 rfl (zg (cs:=(aA.cells c)) Tryz.isAgg88 Tryz.sizeOf88 ((A.ro r).elem aA.len K (by decide)))) ?_)))))))
 refine dE [.string ⟨List.toArray ([])⟩, .int .i64 0] 88 A ?_
 intro B aG ae
 refine Az rfl ?_
 refine bz (aA.cells c) 0 ae Tryz.sizeOf88 ?_
 intro af ag
 refine nt (yJ ?_)
 have t:=ag.drew
 refine zt [] (fun W=> ∃ L',Own w D W ([blk B (aA.cells c) 88]++L')) (by kernel_rfl) (by kernel_rfl) (zb (bM.block (zb (zb (bM.block (zb zw)))))) ⟨_,t⟩ ?_
 revert t
 generalize World.drew af=aH
 intro t
 refine GX.take (v:= .pointer (some ⟨B,1,none⟩)) (rs:= []) 0 rfl (by kernel_rfl) (fun _ _=>yk) (GX.take (v:= .int .i64 c.dn) (rs:= []) 1 rfl (by kernel_rfl) (fun _ ⟨_,C⟩=>y5 rfl (bn.one Tryz.isAgg3 (zq (C.cls (i:=0) rfl) rfl))) (GX.take (v:= .bool (decide (c.dn < 1))) (rs:= []) 2 rfl (by kernel_rfl) (fun _ _=>yk) (GX.take (v:= .bool (decide (c.dn < 1))) (rs:= []) 3 rfl (by kernel_rfl) (fun _ _=>yO rfl) ?_)))
 by_cases l:c.dn < 1
 refine yU (rs:= []) 4 rfl rfl rfl (dT l) (by kernel_rfl) (yU (rs:= []) 5 rfl rfl rfl (dT l) (by kernel_rfl) (yU (rs:= []) 6 rfl rfl rfl (dT l) (by kernel_rfl) (GX.take (v:= .bool true) (rs:= []) 7 rfl (by kernel_rfl) (fun _ _=>yN rfl (dT l) rfl) (GX.take (v:= .bool true) (rs:= []) 8 rfl (by kernel_rfl) (fun _ _=>yO rfl) (yU (rs:= []) 9 rfl rfl rfl rfl (by kernel_rfl) (yU (rs:= []) 10 rfl rfl rfl rfl (by kernel_rfl) (yU (rs:= []) 11 rfl rfl rfl rfl (by kernel_rfl) (zl (rs:= []) 12 rfl rfl rfl (by kernel_rfl) (zl (rs:= []) 13 rfl rfl rfl (by kernel_rfl) (zl (rs:= []) 14 rfl rfl rfl (by kernel_rfl) (zl (rs:= []) 15 rfl rfl rfl (by kernel_rfl) (zl (rs:= []) 16 rfl rfl rfl (by kernel_rfl) (zl (rs:= []) 17 rfl rfl rfl (by kernel_rfl) (zl (rs:= []) 18 rfl rfl rfl (by kernel_rfl) (zl (rs:= []) 19 rfl rfl rfl (by kernel_rfl) (zl (rs:= []) 20 rfl rfl rfl (by kernel_rfl) (zl (rs:= []) 21 rfl rfl rfl (by kernel_rfl) (zl (rs:= []) 22 rfl rfl rfl (by kernel_rfl) (zl (rs:= []) 23 rfl rfl rfl (by kernel_rfl) (zl (rs:= []) 24 rfl rfl rfl (by kernel_rfl) (zl (rs:= []) 25 rfl rfl rfl (by kernel_rfl) (zl (rs:= []) 26 rfl rfl rfl (by kernel_rfl) (yU (rs:= []) 27 rfl rfl rfl rfl (by kernel_rfl) (GX.take (v:= .bool true) (rs:= []) 28 rfl (by kernel_rfl) (fun _ _=>yN rfl rfl rfl) (zk (by kernel_rfl) (yL (jt (sr (An rfl (rt (bR (tR (tR (bR (tR (rs ?_))))))))))))))))))))))))))))))))))))
 have ah:=t.pk []
 obtain rfl:_=170:=hr.symm.trans (et (iN j) (et (iN g) (et (aa (dh m)) (et (iN s) (iG (et (n) (et (congrArg (fun q=>fF b q a) p) (ip l))))))))
 exact⟨rfl,ah⟩
 refine y7 (v:= .pointer (some ⟨B,1,none⟩)) (rs:= []) 4 rfl rfl rfl (dF l) (by kernel_rfl) (fun _ _=>yk) (y7 (v:= .int .i64 c.dn) (rs:= []) 5 rfl rfl rfl (dF l) (by kernel_rfl) (fun _ ⟨_,C⟩=>y5 rfl (bn.one Tryz.isAgg3 (zq (C.cls (i:=0) rfl) rfl))) (y7 (v:= .bool (decide (c.dn > 4))) (rs:= []) 6 rfl rfl rfl (dF l) (by kernel_rfl) (fun _ _=>yk) (GX.take (v:= .bool (decide (c.dn > 4))) (rs:= []) 7 rfl (by kernel_rfl) (fun _ _=>yM rfl (dF l) rfl) (GX.take (v:= .bool (decide (c.dn > 4))) (rs:= []) 8 rfl (by kernel_rfl) (fun _ _=>yO rfl) ?_))))
 by_cases h:c.dn > 4
 refine yU (rs:= []) 9 rfl rfl rfl (dT h) (by kernel_rfl) (yU (rs:= []) 10 rfl rfl rfl (dT h) (by kernel_rfl) (yU (rs:= []) 11 rfl rfl rfl (dT h) (by kernel_rfl) (zl (rs:= []) 12 rfl rfl rfl (by kernel_rfl) (zl (rs:= []) 13 rfl rfl rfl (by kernel_rfl) (zl (rs:= []) 14 rfl rfl rfl (by kernel_rfl) (zl (rs:= []) 15 rfl rfl rfl (by kernel_rfl) (zl (rs:= []) 16 rfl rfl rfl (by kernel_rfl) (zl (rs:= []) 17 rfl rfl rfl (by kernel_rfl) (zl (rs:= []) 18 rfl rfl rfl (by kernel_rfl) (zl (rs:= []) 19 rfl rfl rfl (by kernel_rfl) (zl (rs:= []) 20 rfl rfl rfl (by kernel_rfl) (zl (rs:= []) 21 rfl rfl rfl (by kernel_rfl) (zl (rs:= []) 22 rfl rfl rfl (by kernel_rfl) (zl (rs:= []) 23 rfl rfl rfl (by kernel_rfl) (zl (rs:= []) 24 rfl rfl rfl (by kernel_rfl) (zl (rs:= []) 25 rfl rfl rfl (by kernel_rfl) (zl (rs:= []) 26 rfl rfl rfl (by kernel_rfl) (yU (rs:= []) 27 rfl rfl rfl (dT h) (by kernel_rfl) (GX.take (v:= .bool true) (rs:= []) 28 rfl (by kernel_rfl) (fun _ _=>yN rfl (dT h) rfl) (zk (by kernel_rfl) (yL (jt (sr (An rfl (rt (bR (tR (tR (bR (tR (rs ?_)))))))))))))))))))))))))))))))
 have ai:=t.pk []
 obtain rfl:_=170:=hr.symm.trans (et (iN j) (et (iN g) (et (aa (dh m)) (et (iN s) (iG (et (n) (et (congrArg (fun q=>fF b q a) p) (et (iN l) (ip h)))))))))
 exact⟨rfl,ai⟩
 refine y7 (v:= .int .i64 ((a:Nat):Int)) (rs:= []) 9 rfl rfl rfl (dF h) (by kernel_rfl) (fun _ _=>yO rfl) (y7 (v:= .bool (decide (((a:Nat):Int) > 0))) (rs:= []) 10 rfl rfl rfl (dF h) (by kernel_rfl) (fun _ _=>yk) (y7 (v:= .bool (decide (((a:Nat):Int) > 0))) (rs:= []) 11 rfl rfl rfl (dF h) (by kernel_rfl) (fun _ _=>yO rfl) ?_))
 by_cases f:((a:Nat):Int) > 0
 refine y7 (v:= .pointer (some ⟨B,0,none⟩)) (rs:= []) 12 rfl rfl rfl (dT f) (by kernel_rfl) (fun _ _=>yk) (y7 (v:= .string ⟨List.toArray c.aD⟩) (rs:= []) 13 rfl rfl rfl (dT f) (by kernel_rfl) (fun _ ⟨_,C⟩=>y5 rfl (bn.one Tryz.isAgg9 (zq (C.cls (i:=0) rfl) rfl))) ?_)
 obtain⟨z,y⟩:∃ q,ic c.aD=q:=⟨_,rfl⟩
 obtain⟨aI,Q,aB,R,aC⟩:=yP t
 refine zO 14 rfl rfl rfl (dT f) (by kernel_rfl) (zf Tryz.call74 rfl (jP _ _ c.aD z Q y) ?_)
 rintro _ aJ ⟨rfl,S,L⟩
 have I:=R _ _ S
 replace L: ¬ (z=0)∨(1≤c.aD.length∧c.aD.length≤12):=L
 refine⟨.inr ⟨_,I⟩, ?_⟩
 refine y7 (v:= .bool (decide (¬ (z=0)))) (rs:= []) 15 rfl rfl rfl (dT f) (by kernel_rfl) (fun _ _=>za (e:= !(decide (z=0))) yk decide_not.symm) (y7 (v:= .bool (decide (¬ (z=0)))) (rs:= []) 16 rfl rfl rfl (dT f) (by kernel_rfl) (fun _ _=>yO rfl) ?_)
 by_cases d:z=0
 refine y7 (v:= .slice o b.length F) (rs:= []) 17 rfl rfl rfl (dF (BK d)) (by kernel_rfl) (fun _ _=>yO rfl) (y7 (v:= .int .i64 ((a:Nat):Int)) (rs:= []) 18 rfl rfl rfl (dF (BK d)) (by kernel_rfl) (fun _ _=>yO rfl) (y7 (v:= .int .i64 ((a - 1:Nat):Int)) (rs:= []) 19 rfl rfl rfl (dF (BK d)) (by kernel_rfl) (fun _ _=>yS (e:=IntKind.i64.wrap (((a:Nat):Int) - 1)) yk (by rw [BI _ (by omega)]; omega)) ?_))
 obtain⟨u,E⟩:=jZ (ls:=b) (i:=a - 1) (by first | omega | (simp; done) | (simp; omega))
 refine y7 (v:= .pointer (some ⟨ab o,ao o+(a - 1) *2,none⟩)) (rs:= []) 20 rfl rfl rfl (dF (BK d)) (by kernel_rfl) (fun _ ⟨_,C⟩=>yZ (lT) rfl rfl ((C.ro r).addr (i:=a - 1) (by omega)) (by omega)) (y7 (v:= .pointer (some ⟨ab o,ao o+(a - 1) *2,none⟩)) (rs:= []) 21 rfl rfl rfl (dF (BK d)) (by kernel_rfl) (fun _ _=>yk) (y7 (v:= .string ⟨List.toArray u.aD⟩) (rs:= []) 22 rfl rfl rfl (dF (BK d)) (by kernel_rfl) (fun _ ⟨_,C⟩=>y5 rfl (bn.one Tryz.isAgg9 (((C.ro r).elem aA.len E (by decide)).at_ (k:=0) rfl))) (y7 (v:= .pointer (some ⟨B,0,none⟩)) (rs:= []) 23 rfl rfl rfl (dF (BK d)) (by kernel_rfl) (fun _ _=>yk) (y7 (v:= .string ⟨List.toArray c.aD⟩) (rs:= []) 24 rfl rfl rfl (dF (BK d)) (by kernel_rfl) (fun _ ⟨_,C⟩=>y5 rfl (bn.one Tryz.isAgg9 (zq (C.cls (i:=0) rfl) rfl))) (y7 (v:= .bool (decide (c.aD≤u.aD))) (rs:= []) 25 rfl rfl rfl (dF (BK d)) (by kernel_rfl) (fun _ _=>za (e:= !(Op.bytesLess u.aD c.aD)) (Aj rfl rfl) (vL _ _)) (y7 (v:= .bool (decide (c.aD≤u.aD))) (rs:= []) 26 rfl rfl rfl (dT f) (by kernel_rfl) (fun _ _=>yM rfl (dF (BK d)) rfl) (y7 (v:= .bool (decide (c.aD≤u.aD))) (rs:= []) 27 rfl rfl rfl (dF h) (by kernel_rfl) (fun _ _=>yN rfl (dT f) rfl) (GX.take (v:= .bool (decide (c.aD≤u.aD))) (rs:= []) 28 rfl (by kernel_rfl) (fun _ _=>yM rfl (dF h) rfl) (zk (by kernel_rfl) (yL ?_))))))))))
 by_cases J:c.aD≤u.aD
 refine jT (dT J) (sr (An rfl (rt (bR (tR (tR (bR (tR (rs ?_)))))))))
 have aj:=I.pk []
 obtain rfl:_=170:=hr.symm.trans (et (iN j) (et (iN g) (et (aa (dh m)) (et (iN s) (iG (et (n) (et (congrArg (fun q=>fF b q a) p) (et (iN l) (et (iN h) (et (ip f) (et (aa y) (et (ip d) (et (aa (dh E)) (ip J))))))))))))))
 exact⟨rfl,aj⟩
 refine jF (dF J) (zm (bN (yL (yK (fw (.int .i64 ((a+1:Nat):Int)) (yS (e:=IntKind.i64.wrap (((a:Nat):Int)+1)) yk (by rw [BI _ (by omega)]; omega)) (Mz rfl (WL.nil ?_)))))))
 have ak:=I.pk []
 exact yY (a+1) ⟨rfl,rfl,rfl,rfl,rfl,trivial⟩ (x.2 ⟨ak,by omega,et (n) (et (congrArg (fun q=>fF b q a) p) (et (iN l) (et (iN h) (et (ip f) (et (aa y) (et (ip d) (et (aa (dh E)) (iN J))))))))⟩) (by show b.length - (a+1) < b.length - a; omega)
 refine yU (rs:= []) 17 rfl rfl rfl (dT d) (by kernel_rfl) (yU (rs:= []) 18 rfl rfl rfl (dT d) (by kernel_rfl) (yU (rs:= []) 19 rfl rfl rfl (dT d) (by kernel_rfl) (yU (rs:= []) 20 rfl rfl rfl (dT d) (by kernel_rfl) (yU (rs:= []) 21 rfl rfl rfl (dT d) (by kernel_rfl) (yU (rs:= []) 22 rfl rfl rfl (dT d) (by kernel_rfl) (yU (rs:= []) 23 rfl rfl rfl (dT d) (by kernel_rfl) (yU (rs:= []) 24 rfl rfl rfl (dT d) (by kernel_rfl) (yU (rs:= []) 25 rfl rfl rfl (dT d) (by kernel_rfl) (y7 (v:= .bool true) (rs:= []) 26 rfl rfl rfl (dT f) (by kernel_rfl) (fun _ _=>yN rfl (dT d) rfl) (y7 (v:= .bool true) (rs:= []) 27 rfl rfl rfl (dF h) (by kernel_rfl) (fun _ _=>yN rfl (dT f) rfl) (GX.take (v:= .bool true) (rs:= []) 28 rfl (by kernel_rfl) (fun _ _=>yM rfl (dF h) rfl) (zk (by kernel_rfl) (yL (jt (sr (An rfl (rt (bR (tR (tR (bR (tR (rs ?_)))))))))))))))))))))))
 have au:=I.pk []
 obtain rfl:_=170:=hr.symm.trans (et (iN j) (et (iN g) (et (aa (dh m)) (et (iN s) (iG (et (n) (et (congrArg (fun q=>fF b q a) p) (et (iN l) (et (iN h) (et (ip f) (et (aa y) (iN d))))))))))))
 exact⟨rfl,au⟩
 refine yU (rs:= []) 12 rfl rfl rfl (dF f) (by kernel_rfl) (yU (rs:= []) 13 rfl rfl rfl (dF f) (by kernel_rfl) (yU (rs:= []) 14 rfl rfl rfl (dF f) (by kernel_rfl) (yU (rs:= []) 15 rfl rfl rfl (dF f) (by kernel_rfl) (yU (rs:= []) 16 rfl rfl rfl (dF f) (by kernel_rfl) (zl (rs:= []) 17 rfl rfl rfl (by kernel_rfl) (zl (rs:= []) 18 rfl rfl rfl (by kernel_rfl) (zl (rs:= []) 19 rfl rfl rfl (by kernel_rfl) (zl (rs:= []) 20 rfl rfl rfl (by kernel_rfl) (zl (rs:= []) 21 rfl rfl rfl (by kernel_rfl) (zl (rs:= []) 22 rfl rfl rfl (by kernel_rfl) (zl (rs:= []) 23 rfl rfl rfl (by kernel_rfl) (zl (rs:= []) 24 rfl rfl rfl (by kernel_rfl) (zl (rs:= []) 25 rfl rfl rfl (by kernel_rfl) (yU (rs:= []) 26 rfl rfl rfl (dF f) (by kernel_rfl) (y7 (v:= .bool false) (rs:= []) 27 rfl rfl rfl (dF h) (by kernel_rfl) (fun _ _=>yM rfl (dF f) rfl) (GX.take (v:= .bool false) (rs:= []) 28 rfl (by kernel_rfl) (fun _ _=>yM rfl (dF h) rfl) (zk (by kernel_rfl) (yL (jf (zm (bN (yL (yK (fw (.int .i64 ((a+1:Nat):Int)) (yS (e:=IntKind.i64.wrap (((a:Nat):Int)+1)) yk (by rw [BI _ (by omega)]; omega)) (Mz rfl (WL.nil ?_))))))))))))))))))))))))))
 have av:=t.pk []
 exact yY (a+1) ⟨rfl,rfl,rfl,rfl,rfl,trivial⟩ (x.2 ⟨av,by omega,et (n) (et (congrArg (fun q=>fF b q a) p) (et (iN l) (et (iN h) (iN f))))⟩) (by show b.length - (a+1) < b.length - a; omega)
 refine jF (dF P) (Wp.exit (yV ?_))
 have T:fF b b 0=Sum.inl ():=et (n) (et (congrArg (fun q=>fF b q a) (dZ (ls:=b) (i:=a) (by omega))) rfl)
 refine yV (y8 (yL (sr (An rfl (rt (rs ?_))))))
 have ax:=A.pk []
 obtain rfl:_=0:=hr.symm.trans (et (iN j) (et (iN g) (et (aa (dh m)) (et (iN s) (kG T)))))
 exact⟨rfl,ax⟩
def dB (a:Int):(List UInt8):=
 if a=1 then [113,98,111] else if a=2 then [113,98,99,115] else if a=3 then [116,108,101,111] else if a=4 then [116,99,115] else if a=5 then [116,102] else bnd (if a=6 then decide (a=6) else decide (a=7)) fun sJrfffffJ=>if sJrfffffJ=true then [116] else if a=8 then [118,101,109,119] else if a=9 then [118] else if a=10 then [118,109,112,102,114] else if a=11 then [109,97,110,114,111] else if a=12 then [109,97,110] else if a=13 then [109] else if a=14 then [109] else []
theorem kD (w:World) (D:Nat→Prop) (a:Int) (A:List UInt8) (H:Own w D w []) (hr:dB a=A):
    Calls Tryz.prog 27 #[.int .i64 a] w (cO fun v w'=>v= .string ⟨List.toArray A⟩∧Own w D w' []∧(A.length≤5)):=by
 refine yR (args:= [.int .i64 a]) Tryz.func27 rfl rfl rfl ?_
 show Wp _ _ _ [(0, .int .i64 a)] _ _
 refine sr (An rfl (yJ (sr (Mn rfl (bo (sr (Kz (.bool (decide (a=1))) (An rfl ?_))))))))
 by_cases b:a=1
 refine jT (dT b) (sr (An rfl (rt (bR (tR (rs ?_))))))
 have B:Own w D w []:=H.pk []
 obtain rfl:_= [113,98,111]:=hr.symm.trans (ip b)
 exact⟨rfl,B,(by exact BH rfl)⟩
 refine jF (dF b) (sr (Kz (.bool (decide (a=2))) (An rfl ?_)))
 by_cases c:a=2
 refine jT (dT c) (sr (An rfl (rt (bR (tR (rs ?_))))))
 have C:Own w D w []:=H.pk []
 obtain rfl:_= [113,98,99,115]:=hr.symm.trans (et (iN b) (ip c))
 exact⟨rfl,C,(by exact BH rfl)⟩
 refine jF (dF c) (sr (Kz (.bool (decide (a=3))) (An rfl ?_)))
 by_cases d:a=3
 refine jT (dT d) (sr (An rfl (rt (bR (tR (rs ?_))))))
 have E:Own w D w []:=H.pk []
 obtain rfl:_= [116,108,101,111]:=hr.symm.trans (et (iN b) (et (iN c) (ip d)))
 exact⟨rfl,E,(by exact BH rfl)⟩
 refine jF (dF d) (sr (Kz (.bool (decide (a=4))) (An rfl ?_)))
 by_cases f:a=4
 refine jT (dT f) (sr (An rfl (rt (bR (tR (rs ?_))))))
 have F:Own w D w []:=H.pk []
 obtain rfl:_= [116,99,115]:=hr.symm.trans (et (iN b) (et (iN c) (et (iN d) (ip f))))
 exact⟨rfl,F,(by exact BH rfl)⟩
 refine jF (dF f) (sr (Kz (.bool (decide (a=5))) (An rfl ?_)))
 by_cases g:a=5
 refine jT (dT g) (sr (An rfl (rt (bR (tR (rs ?_))))))
 have G:Own w D w []:=H.pk []
 obtain rfl:_= [116,102]:=hr.symm.trans (et (iN b) (et (iN c) (et (iN d) (et (iN f) (ip g)))))
 exact⟨rfl,G,(by exact BH rfl)⟩
 refine jF (dF g) (yJ (sr (Kz (.bool (decide (a=6))) (An rfl ?_))))
 obtain⟨x,y⟩:∃ q:Bool→World→Prop,q=fun(i:Bool) w'=>Own w D w' []∧((if a=6 then decide (a=6) else decide (a=7))=i):=⟨_,rfl⟩
 have r:∀ {s:Bool} {w':World},x s w'↔Own w D w' []∧(if a=6 then decide (a=6) else decide (a=7))=s:=by intros; subst y; exact Iff.rfl
 refine zD (fun i:Bool=> [(14, .bool i),(3, .int .i64 a),(2, .string ⟨List.toArray ([])⟩)]) x ?_ ?_
 by_cases t:a=6
 refine jT (dT t) (zm ?_)
 have I:Own w D w []:=H.pk []
 exact zu (decide (a=6)) ⟨rfl,rfl,rfl,trivial⟩ (r.2 ⟨I,ip t⟩)
 refine jF (dF t) (yK (Kz (.bool (decide (a=7))) (Az rfl (WL.nil ?_))))
 have J:Own w D w []:=H.pk []
 exact zu (decide (a=7)) ⟨rfl,rfl,rfl,trivial⟩ (r.2 ⟨J,iN t⟩)
 rintro s T z
 show Wp _ _ _ [(14, .bool s),(3, .int .i64 a),(2, .string ⟨List.toArray ([])⟩)] _ _
 obtain⟨k,e⟩:=r.1 z
 rcases BL (s) with h | h
 refine jT h (sr (An rfl (rt (bR (tR (rs ?_))))))
 have K:=k.pk []
 obtain rfl:_= [116]:=hr.symm.trans (et (iN b) (et (iN c) (et (iN d) (et (iN f) (et (iN g) (et (aa e) (ip h)))))))
 exact⟨rfl,K,(by exact BH rfl)⟩
 refine jF h (sr (Kz (.bool (decide (a=8))) (An rfl ?_)))
 by_cases j:a=8
 refine jT (dT j) (sr (An rfl (rt (bR (tR (rs ?_))))))
 have L:=k.pk []
 obtain rfl:_= [118,101,109,119]:=hr.symm.trans (et (iN b) (et (iN c) (et (iN d) (et (iN f) (et (iN g) (et (aa e) (et (dz h) (ip j))))))))
 exact⟨rfl,L,(by exact BH rfl)⟩
 refine jF (dF j) (sr (Kz (.bool (decide (a=9))) (An rfl ?_)))
 by_cases l:a=9
 refine jT (dT l) (sr (An rfl (rt (bR (tR (rs ?_))))))
 have M:=k.pk []
 obtain rfl:_= [118]:=hr.symm.trans (et (iN b) (et (iN c) (et (iN d) (et (iN f) (et (iN g) (et (aa e) (et (dz h) (et (iN j) (ip l)))))))))
 exact⟨rfl,M,(by exact BH rfl)⟩
 refine jF (dF l) (sr (Kz (.bool (decide (a=10))) (An rfl ?_)))
 by_cases m:a=10
 refine jT (dT m) (sr (An rfl (rt (bR (tR (rs ?_))))))
 have N:=k.pk []
 obtain rfl:_= [118,109,112,102,114]:=hr.symm.trans (et (iN b) (et (iN c) (et (iN d) (et (iN f) (et (iN g) (et (aa e) (et (dz h) (et (iN j) (et (iN l) (ip m))))))))))
 exact⟨rfl,N,(by exact BH rfl)⟩
 refine jF (dF m) (sr (Kz (.bool (decide (a=11))) (An rfl ?_)))
 by_cases n:a=11
 refine jT (dT n) (sr (An rfl (rt (bR (tR (rs ?_))))))
 have O:=k.pk []
 obtain rfl:_= [109,97,110,114,111]:=hr.symm.trans (et (iN b) (et (iN c) (et (iN d) (et (iN f) (et (iN g) (et (aa e) (et (dz h) (et (iN j) (et (iN l) (et (iN m) (ip n)))))))))))
 exact⟨rfl,O,(by exact BH rfl)⟩
 refine jF (dF n) (sr (Kz (.bool (decide (a=12))) (An rfl ?_)))
 by_cases o:a=12
 refine jT (dT o) (sr (An rfl (rt (bR (tR (rs ?_))))))
 have P:=k.pk []
 obtain rfl:_= [109,97,110]:=hr.symm.trans (et (iN b) (et (iN c) (et (iN d) (et (iN f) (et (iN g) (et (aa e) (et (dz h) (et (iN j) (et (iN l) (et (iN m) (et (iN n) (ip o))))))))))))
 exact⟨rfl,P,(by exact BH rfl)⟩
 refine jF (dF o) (yJ (sr (Kz (.bool (decide (a=13))) (An rfl ?_))))
 by_cases p:a=13
 refine jT (dT p) (sk (jT (dT p) (sr (An rfl (rt (bR (tR (rs ?_))))))))
 have Q:=k.pk []
 obtain rfl:_= [109]:=hr.symm.trans (et (iN b) (et (iN c) (et (iN d) (et (iN f) (et (iN g) (et (aa e) (et (dz h) (et (iN j) (et (iN l) (et (iN m) (et (iN n) (et (iN o) (ip p)))))))))))))
 exact⟨rfl,Q,(by exact BH rfl)⟩
 refine jF (dF p) (yK (Kz (.bool (decide (a=14))) (An rfl ?_)))
 by_cases u:a=14
 refine jT (dT u) (sr (An rfl (rt (bR (tR (rs ?_))))))
 have R:=k.pk []
 obtain rfl:_= [109]:=hr.symm.trans (et (iN b) (et (iN c) (et (iN d) (et (iN f) (et (iN g) (et (aa e) (et (dz h) (et (iN j) (et (iN l) (et (iN m) (et (iN n) (et (iN o) (et (iN p) (ip u))))))))))))))
 exact⟨rfl,R,(by exact BH rfl)⟩
 refine jF (dF u) (zm (bN (yL (sr (An rfl (rt (rs ?_)))))))
 have S:=k.pk []
 obtain rfl:_= []:=hr.symm.trans (et (iN b) (et (iN c) (et (iN d) (et (iN f) (et (iN g) (et (aa e) (et (dz h) (et (iN j) (et (iN l) (et (iN m) (et (iN n) (et (iN o) (et (iN p) (iN u))))))))))))))
 exact⟨rfl,S,(by exact BH rfl)⟩
def kz (a:Int):Bool:=
 if a ≥ 11 then decide (a≤14) else false
theorem oM (w:World) (D:Nat→Prop) (b:Int) (e:Bool) (H:Own w D w []) (hr:kz b=e):
    Calls Tryz.prog 72 #[.int .i64 b] w (cO fun v w'=>v= .bool e∧Own w D w' []):=by
 refine yR (args:= [.int .i64 b]) Tryz.func72 rfl rfl rfl ?_
 show Wp _ _ _ [(0, .int .i64 b)] _ _
 refine sr (Ar rfl (Mz rfl (Kz (.bool (decide (b ≥ 11))) (Mz rfl ?_))))
 by_cases a:b ≥ 11
 refine gw (.int .i64 b) (dT a) (yO rfl) (Gz (.bool (decide (b≤14))) (dT a) (fw (.bool (decide (b≤14))) (yN rfl (dT a) rfl) (An rfl (rt (rs ?_)))))
 have c:Own w D w []:=H.pk []
 obtain rfl:_=decide (b≤14):=hr.symm.trans (ip a)
 exact⟨rfl,c⟩
 refine Sz (dF a) (Sz (dF a) (fw (.bool false) (yM rfl (dF a) rfl) (An rfl (rt (rs ?_)))))
 have d:Own w D w []:=H.pk []
 obtain rfl:_=false:=hr.symm.trans (iN a)
 exact⟨rfl,d⟩
def iU (a:Int):Bool:=
 if a ≥ 1 then decide (a≤4) else false
theorem kR (w:World) (D:Nat→Prop) (b:Int) (e:Bool) (H:Own w D w []) (hr:iU b=e):
    Calls Tryz.prog 34 #[.int .i64 b] w (cO fun v w'=>v= .bool e∧Own w D w' []):=by
 refine yR (args:= [.int .i64 b]) Tryz.func34 rfl rfl rfl ?_
 show Wp _ _ _ [(0, .int .i64 b)] _ _
 refine sr (Ar rfl (Mz rfl (Kz (.bool (decide (b ≥ 1))) (Mz rfl ?_))))
 by_cases a:b ≥ 1
 refine gw (.int .i64 b) (dT a) (yO rfl) (Gz (.bool (decide (b≤4))) (dT a) (fw (.bool (decide (b≤4))) (yN rfl (dT a) rfl) (An rfl (rt (rs ?_)))))
 have c:Own w D w []:=H.pk []
 obtain rfl:_=decide (b≤4):=hr.symm.trans (ip a)
 exact⟨rfl,c⟩
 refine Sz (dF a) (Sz (dF a) (fw (.bool false) (yM rfl (dF a) rfl) (An rfl (rt (rs ?_)))))
 have d:Own w D w []:=H.pk []
 obtain rfl:_=false:=hr.symm.trans (iN a)
 exact⟨rfl,d⟩
def gT (a:bE):Bool:=
 if a.ae=1 then bnd (kz a.bq) fun d=>if d=true then decide (a.dw=0) else false else if a.ae=2 then if a.bq=0 then bnd (kz a.dw) fun e=>e else false else bnd (if a.ae=3 then decide (a.ae=3) else if a.ae=5 then decide (a.ae=5) else if a.ae=8 then decide (a.ae=8) else decide (a.ae=10)) fun sJrffJ=>if sJrffJ=true then if a.bq=0 then bnd (iU a.dw) fun f=>f else false else bnd (if a.ae=11 then decide (a.ae=11) else decide (a.ae=12)) fun sJrffJafJ=>if sJrffJafJ=true then bnd (iU a.bq) fun g=>if g=true then bnd (iU a.dw) fun b=>if b=true then decide (¬ (a.bq=a.dw)) else false else false else bnd (iU a.bq) fun c=>if c=true then decide (a.dw=0) else false
theorem sw (w:World) (D:Nat→Prop) (a:bE) (h:Option Addr) (Y j:Nat) (k:Option Addr) (Z l:Nat) (M:List af) (m:Option Addr) (ae n:Nat) (r0:Bool) (H:Own w D w []) (aj:Y=a.ax.ls.length) (bF:Ro w D fun w'=>bD w' 6 h a.ax.ls.length (List.flatMap aB.cells a.ax.ls)) (bG:a.ax.ls.length≤j∧a.ax.ls.length≤9223372036854775807) (ak:List.map zh M=a.ah.ls) (au:Z=a.ah.ls.length) (bH:Ro w D fun w'=>bD w' 3 k a.ah.ls.length (List.flatMap af.cells M)) (bI:a.ah.ls.length≤l∧a.ah.ls.length≤9223372036854775807) (bJ:∀ x ∈ M,Ro w D (fun w'=>bD w' 2 x.ak.A x.ak.ls.length (List.flatMap aR.cells x.ak.ls))∧(x.ak.ls.length≤x.ak.c∧x.ak.ls.length≤9223372036854775807)) (av:ae=a.ai.ls.length) (bK:Ro w D fun w'=>bD w' 2 m a.ai.ls.length (List.flatMap aA.cells a.ai.ls)) (bL:a.ai.ls.length≤n∧a.ai.ls.length≤9223372036854775807) (hr:gT a=r0):
    Calls Tryz.prog 28 #[.agg (bf a.ae a.bq a.dw a.aQ a.bu a.bO a.bG a.aY a.bF a.bH a.bL a.aV a.bB a.aK a.xN a.bV a.aG.aD a.aG.aH h Y j k Z l m ae n).toArray] w (cO fun v w'=>v= .bool r0∧Own w D w' []):=by
 subst aj au av
 have hdl0x1:=dG ak
 refine yR (args:= [.agg (aM a h j k l m n).toArray]) Tryz.func28 rfl rfl rfl ?_
 show Wp _ _ _ [(0, .agg (aM a h j k l m n).toArray)] _ _
 refine sr ?_
 refine dE (aM a h j k l m n) 29 H ?_
 intro d dL p
 refine An rfl (yJ (sr (Kz (.pointer (some ⟨d,0,none⟩)) (Lz (.int .i64 a.ae) p 0 Tryz.isAgg3 (nt (bo (sr (Kz (.bool (decide (a.ae=1))) (An rfl ?_)))))))))
 by_cases o:a.ae=1
 refine jT (dT o) (sr (Kz (.pointer (some ⟨d,1,none⟩)) (Lz (.int .i64 a.bq) p 0 Tryz.isAgg3 ?_)))
 obtain⟨aK,N⟩:∃ q,kz a.bq=q:=⟨_,rfl⟩
 obtain⟨dM,aL,di,aN,dm⟩:=yP p
 refine cl Tryz.call72 (oM _ _ a.bq aK aL N) ?_
 rintro _ dN ⟨rfl,aO⟩
 have ax:=aN _ _ aO
 refine Mz rfl ?_
 rcases BL (aK) with r | r
 refine Gz (.pointer (some ⟨d,2,none⟩)) r (Gl (.int .i64 a.dw) r ax 0 Tryz.isAgg3 (Gz (.bool (decide (a.dw=0))) r (fw (.bool (decide (a.dw=0))) (yN rfl r rfl) (An rfl (rt (bR (tR (rs ?_))))))))
 have bM:=ax.pk []
 obtain rfl:_=decide (a.dw=0):=hr.symm.trans (et (ip o) (et (aa N) (ip r)))
 exact⟨rfl,bM⟩
 refine Sz r (Sz r (Sz r (fw (.bool false) (yM rfl r rfl) (An rfl (rt (bR (tR (rs ?_))))))))
 have bO:=ax.pk []
 obtain rfl:_=false:=hr.symm.trans (et (ip o) (et (aa N) (dz r)))
 exact⟨rfl,bO⟩
 refine jF (dF o) (sr (Kz (.bool (decide (a.ae=2))) (An rfl ?_)))
 by_cases s:a.ae=2
 refine jT (dT s) (sr (Kz (.pointer (some ⟨d,1,none⟩)) (Lz (.int .i64 a.bq) p 0 Tryz.isAgg3 (Kz (.bool (decide (a.bq=0))) (Mz rfl ?_)))))
 by_cases u:a.bq=0
 refine Gz (.pointer (some ⟨d,2,none⟩)) (dT u) (Gl (.int .i64 a.dw) (dT u) p 0 Tryz.isAgg3 ?_)
 obtain⟨ay,ag⟩:∃ q,kz a.dw=q:=⟨_,rfl⟩
 obtain⟨dO,aP,dn,aQ,dw⟩:=yP p
 refine jM (dT u) Tryz.call72 (oM _ _ a.dw ay aP ag) ?_
 rintro _ dP ⟨rfl,aS⟩
 have bP:=aQ _ _ aS
 refine fw (.bool ay) (yN rfl (dT u) rfl) (An rfl (rt (bR (tR (rs ?_)))))
 have bQ:=bP.pk []
 obtain rfl:_=ay:=hr.symm.trans (et (iN o) (et (ip s) (et (ip u) (aa ag))))
 exact⟨rfl,bQ⟩
 refine Sz (dF u) (Sz (dF u) (Sz (dF u) (fw (.bool false) (yM rfl (dF u) rfl) (An rfl (rt (bR (tR (rs ?_))))))))
 have bS:=p.pk []
 obtain rfl:_=false:=hr.symm.trans (et (iN o) (et (ip s) (iN u)))
 exact⟨rfl,bS⟩
 refine jF (dF s) (yJ (sr (Kz (.bool (decide (a.ae=3))) (An rfl ?_))))
 obtain⟨aT,aU⟩:∃ q:Bool→World→Prop,q=fun(i:Bool) w'=>Own w D w' [blk d (aM a h j k l m n) 29]∧((if a.ae=3 then decide (a.ae=3) else if a.ae=5 then decide (a.ae=5) else if a.ae=8 then decide (a.ae=8) else decide (a.ae=10))=i):=⟨_,rfl⟩
 have B:∀ {O:Bool} {w':World},aT O w'↔Own w D w' [blk d (aM a h j k l m n) 29]∧(if a.ae=3 then decide (a.ae=3) else if a.ae=5 then decide (a.ae=5) else if a.ae=8 then decide (a.ae=8) else decide (a.ae=10))=O:=by intros; subst aU; exact Iff.rfl
 refine zD (fun i:Bool=> [(25, .bool i),(4, .int .i64 a.ae),(2, .bool false),(1, .pointer (some ⟨d,0,none⟩))]) aT ?_ ?_
 by_cases K:a.ae=3
 refine jT (dT K) (zm ?_)
 have bT:=p.pk [0]
 exact zu (decide (a.ae=3)) ⟨rfl,rfl,rfl,rfl,trivial⟩ (B.2 ⟨bT,ip K⟩)
 refine jF (dF K) (sr (Kz (.bool (decide (a.ae=5))) (An rfl ?_)))
 by_cases P:a.ae=5
 refine jT (dT P) (zm ?_)
 have bU:=p.pk [0]
 exact zu (decide (a.ae=5)) ⟨rfl,rfl,rfl,rfl,trivial⟩ (B.2 ⟨bU,et (iN K) (ip P)⟩)
 refine jF (dF P) (sr (Kz (.bool (decide (a.ae=8))) (An rfl ?_)))
 by_cases V:a.ae=8
 refine jT (dT V) (zm ?_)
 have bV:=p.pk [0]
 exact zu (decide (a.ae=8)) ⟨rfl,rfl,rfl,rfl,trivial⟩ (B.2 ⟨bV,et (iN K) (et (iN P) (ip V))⟩)
 refine jF (dF V) (yK (Kz (.bool (decide (a.ae=10))) (Az rfl (WL.nil ?_))))
 have bW:=p.pk [0]
 exact zu (decide (a.ae=10)) ⟨rfl,rfl,rfl,rfl,trivial⟩ (B.2 ⟨bW,et (iN K) (et (iN P) (iN V))⟩)
 rintro O dQ aV
 show Wp _ _ _ [(25, .bool O),(4, .int .i64 a.ae),(2, .bool false),(1, .pointer (some ⟨d,0,none⟩))] _ _
 obtain⟨L,t⟩:=B.1 aV
 rcases BL (O) with y | y
 refine jT y (sr (Kz (.pointer (some ⟨d,1,none⟩)) (Lz (.int .i64 a.bq) L 0 Tryz.isAgg3 (Kz (.bool (decide (a.bq=0))) (Mz rfl ?_)))))
 by_cases z:a.bq=0
 refine Gz (.pointer (some ⟨d,2,none⟩)) (dT z) (Gl (.int .i64 a.dw) (dT z) L 0 Tryz.isAgg3 ?_)
 obtain⟨az,ah⟩:∃ q,iU a.dw=q:=⟨_,rfl⟩
 obtain⟨dR,aW,dx,aX,dA⟩:=yP L
 refine jM (dT z) Tryz.call34 (kR _ _ a.dw az aW ah) ?_
 rintro _ dS ⟨rfl,aY⟩
 have bX:=aX _ _ aY
 refine fw (.bool az) (yN rfl (dT z) rfl) (An rfl (rt (bR (tR (rs ?_)))))
 have bY:=bX.pk []
 obtain rfl:_=az:=hr.symm.trans (et (iN o) (et (iN s) (et (aa t) (et (ip y) (et (ip z) (aa ah))))))
 exact⟨rfl,bY⟩
 refine Sz (dF z) (Sz (dF z) (Sz (dF z) (fw (.bool false) (yM rfl (dF z) rfl) (An rfl (rt (bR (tR (rs ?_))))))))
 have bZ:=L.pk []
 obtain rfl:_=false:=hr.symm.trans (et (iN o) (et (iN s) (et (aa t) (et (ip y) (iN z)))))
 exact⟨rfl,bZ⟩
 refine jF y (yJ (sr (Kz (.bool (decide (a.ae=11))) (An rfl ?_))))
 obtain⟨aZ,bg⟩:∃ q:Bool→World→Prop,q=fun(i:Bool) w'=>Own w D w' [blk d (aM a h j k l m n) 29]∧((if a.ae=11 then decide (a.ae=11) else decide (a.ae=12))=i):=⟨_,rfl⟩
 have Q:∀ {R:Bool} {w':World},aZ R w'↔Own w D w' [blk d (aM a h j k l m n) 29]∧(if a.ae=11 then decide (a.ae=11) else decide (a.ae=12))=R:=by intros; subst bg; exact Iff.rfl
 refine zD (fun i:Bool=> [(38, .bool i),(2, .bool false),(1, .pointer (some ⟨d,0,none⟩))]) aZ ?_ ?_
 by_cases W:a.ae=11
 refine jT (dT W) (zm ?_)
 have cu:=L.pk [0]
 exact zu (decide (a.ae=11)) ⟨rfl,rfl,rfl,trivial⟩ (Q.2 ⟨cu,ip W⟩)
 refine jF (dF W) (yK (Kz (.bool (decide (a.ae=12))) (Az rfl (WL.nil ?_))))
 have cz:=L.pk [0]
 exact zu (decide (a.ae=12)) ⟨rfl,rfl,rfl,trivial⟩ (Q.2 ⟨cz,iN W⟩)
 rintro R dU bi
 show Wp _ _ _ [(38, .bool R),(2, .bool false),(1, .pointer (some ⟨d,0,none⟩))] _ _
 obtain⟨X,C⟩:=Q.1 bi
 rcases BL (R) with E | E
 refine jT E (sr (Kz (.pointer (some ⟨d,1,none⟩)) (Lz (.int .i64 a.bq) X 0 Tryz.isAgg3 ?_)))
 obtain⟨bn,I⟩:∃ q,iU a.bq=q:=⟨_,rfl⟩
 obtain⟨dV,bq,dB,bu,dC⟩:=yP X
 refine cl Tryz.call34 (kR _ _ a.bq bn bq I) ?_
 rintro _ dD ⟨rfl,aC⟩
 have S:=bu _ _ aC
 refine Mz rfl ?_
 rcases BL (bn) with f | f
 refine Gz (.pointer (some ⟨d,2,none⟩)) f (Gl (.int .i64 a.dw) f S 0 Tryz.isAgg3 ?_)
 obtain⟨T,F⟩:∃ q,iU a.dw=q:=⟨_,rfl⟩
 obtain⟨dH,aD,cB,aF,cK⟩:=yP S
 refine zC rfl rfl f rfl (zf Tryz.call34 rfl (kR _ _ a.dw T aD F) ?_)
 rintro _ dI ⟨rfl,aG⟩
 have J:=aF _ _ aG
 refine fw (.bool T) (yN rfl f rfl) (Mz rfl ?_)
 rcases BL (T) with b | b
 refine Gz (.pointer (some ⟨d,1,none⟩)) b (Gl (.int .i64 a.bq) b J 0 Tryz.isAgg3 (Gz (.pointer (some ⟨d,2,none⟩)) b (Gl (.int .i64 a.dw) b J 0 Tryz.isAgg3 (zy (v:= .bool (decide (¬ (a.bq=a.dw)))) rfl rfl b rfl (za (e:= !(decide (a.bq=a.dw))) yk decide_not.symm) (fw (.bool (decide (¬ (a.bq=a.dw)))) (yN rfl b rfl) (An rfl (rt (bR (tR (rs ?_))))))))))
 have bv:=J.pk []
 obtain rfl:_=decide (¬ (a.bq=a.dw)):=hr.symm.trans (et (iN o) (et (iN s) (et (aa t) (et (dz y) (et (aa C) (et (ip E) (et (aa I) (et (ip f) (et (aa F) (ip b))))))))))
 exact⟨rfl,bv⟩
 refine Sz b (Sz b (Sz b (Sz b (Sz b (fw (.bool false) (yM rfl b rfl) (An rfl (rt (bR (tR (rs ?_))))))))))
 have bz:=J.pk []
 obtain rfl:_=false:=hr.symm.trans (et (iN o) (et (iN s) (et (aa t) (et (dz y) (et (aa C) (et (ip E) (et (aa I) (et (ip f) (et (aa F) (dz b))))))))))
 exact⟨rfl,bz⟩
 refine Sz f (Sz f (Sz f (fw (.bool false) (yM rfl f rfl) (Mz rfl (Sz rfl (Sz rfl (Sz rfl (Sz rfl (Sz rfl (fw (.bool false) (yM rfl rfl rfl) (An rfl (rt (bR (tR (rs ?_)))))))))))))))
 have bA:=S.pk []
 obtain rfl:_=false:=hr.symm.trans (et (iN o) (et (iN s) (et (aa t) (et (dz y) (et (aa C) (et (ip E) (et (aa I) (dz f))))))))
 exact⟨rfl,bA⟩
 refine jF E (zm (bN (yL (sr (Kz (.pointer (some ⟨d,1,none⟩)) (Lz (.int .i64 a.bq) X 0 Tryz.isAgg3 ?_))))))
 obtain⟨ai,G⟩:∃ q,iU a.bq=q:=⟨_,rfl⟩
 obtain⟨dJ,aH,cZ,aI,df⟩:=yP X
 refine cl Tryz.call34 (kR _ _ a.bq ai aH G) ?_
 rintro _ dK ⟨rfl,aJ⟩
 have U:=aI _ _ aJ
 refine Mz rfl ?_
 rcases BL (ai) with g | g
 refine Gz (.pointer (some ⟨d,2,none⟩)) g (Gl (.int .i64 a.dw) g U 0 Tryz.isAgg3 (Gz (.bool (decide (a.dw=0))) g (fw (.bool (decide (a.dw=0))) (yN rfl g rfl) (An rfl (rt (rs ?_))))))
 have bB:=U.pk []
 obtain rfl:_=decide (a.dw=0):=hr.symm.trans (et (iN o) (et (iN s) (et (aa t) (et (dz y) (et (aa C) (et (dz E) (et (aa G) (ip g))))))))
 exact⟨rfl,bB⟩
 refine Sz g (Sz g (Sz g (fw (.bool false) (yM rfl g rfl) (An rfl (rt (rs ?_))))))
 have bC:=U.pk []
 obtain rfl:_=false:=hr.symm.trans (et (iN o) (et (iN s) (et (aa t) (et (dz y) (et (aa C) (et (dz E) (et (aa G) (dz g))))))))
 exact⟨rfl,bC⟩
def jr (c:UInt8):List UInt8→Unit ⊕ Bool
  | []=>Sum.inl ()
  | a::b=>if((a.toNat:Nat):Int)=((c.toNat:Nat):Int) then Sum.inr (true) else jr c b
def av (b:Int) (c:UInt8):Bool:=
 bnd (dB b) fun a=>lp (jr c a) fun _=>false
theorem gM (w:World) (D:Nat→Prop) (o:Int) (c:UInt8) (G:Bool) (H:Own w D w []) (hr:av o c=G):
    Calls Tryz.prog 73 #[.int .i64 o, .int .u8 ((c.toNat:Nat):Int)] w (cO fun v w'=>v= .bool G∧Own w D w' []):=by
 refine yR (args:= [.int .i64 o, .int .u8 ((c.toNat:Nat):Int)]) Tryz.func73 rfl rfl rfl ?_
 show Wp _ _ _ [(0, .int .i64 o),(1, .int .u8 ((c.toNat:Nat):Int))] _ _
 refine sr (Ar rfl (Mz rfl ?_))
 obtain⟨a,d⟩:∃ q,dB o=q:=⟨_,rfl⟩
 obtain⟨L,p,I,r,J⟩:=yP H
 refine cl Tryz.call27 (kD _ _ o a p d) ?_
 rintro _ M ⟨rfl,s,j⟩
 have A:=r _ _ s
 replace j:a.length≤5:=j
 refine An rfl (yJ (sr (An rfl (bo ?_))))
 have B:=A.pk []
 obtain⟨t,u⟩:∃ q:Nat→World→Prop,q=fun(i:Nat) w'=>Own w D w' []∧(i≤a.length∧jr c a=jr c (List.drop i a)):=⟨_,rfl⟩
 have f:∀ {b:Nat} {w':World},t b w'↔Own w D w' []∧b≤a.length∧jr c a=jr c (List.drop b a):=by intros; subst u; exact Iff.rfl
 refine Wp.loop (fun i:Nat=> [(4, .bool false),(6, .int .i64 ((i:Nat):Int)),(5, .string ⟨List.toArray a⟩),(1, .int .u8 ((c.toNat:Nat):Int))]) t (fun i=>a.length - i) 0 ⟨rfl,rfl,rfl,rfl,trivial⟩ (f.2 ⟨B,by omega,rfl⟩) ?_
 rintro b N x
 show Wp _ _ _ [(4, .bool false),(6, .int .i64 ((b:Nat):Int)),(5, .string ⟨List.toArray a⟩),(1, .int .u8 ((c.toNat:Nat):Int))] _ _
 obtain⟨m,K,g⟩:=f.1 x
 refine yJ (sr (Mz rfl (Mz rfl (Kz (.int .i64 ((a.length:Nat):Int)) (Kz (.bool (decide (((b:Nat):Int) < ((a.length:Nat):Int)))) (nt ?_))))))
 by_cases y:((b:Nat):Int) < ((a.length:Nat):Int)
 obtain⟨n,k⟩:=jZ (ls:=a) (i:=b) (by omega)
 have l:=drop_at k
 refine jT (dT y) (sk (yJ (bo (sr (Mz rfl (Mz rfl (fw (.int .u8 ((n.toNat:Nat):Int)) (Ap Tryz.underlying9 rfl rfl k) (Mz rfl (Kz (.bool (decide (((n.toNat:Nat):Int)=((c.toNat:Nat):Int)))) (nt ?_))))))))))
 by_cases h:((n.toNat:Nat):Int)=((c.toNat:Nat):Int)
 refine jT (dT h) (sr (An rfl (rt (bR (tR (tR (bR (tR (rs ?_)))))))))
 have C:=m.pk []
 obtain rfl:_=true:=hr.symm.trans (et (aa d) (iG (et (g) (et (congrArg (fun q=>jr c q) l) (ip h)))))
 exact⟨rfl,C⟩
 refine jF (dF h) (zm (bN (yL (yK (Mz rfl (fw (.int .i64 ((b+1:Nat):Int)) (yS (e:=IntKind.i64.wrap (((b:Nat):Int)+1)) yk (by rw [BI _ (by omega)]; omega)) (Az rfl (WL.nil ?_))))))))
 have E:=m.pk []
 exact yY (b+1) ⟨rfl,rfl,rfl,rfl,trivial⟩ (f.2 ⟨E,by omega,et (g) (et (congrArg (fun q=>jr c q) l) (iN h))⟩) (by show a.length - (b+1) < a.length - b; omega)
 refine jF (dF y) (Wp.exit (yV ?_))
 have z:jr c a=Sum.inl ():=et (g) (et (congrArg (fun q=>jr c q) (dZ (ls:=a) (i:=b) (by omega))) rfl)
 refine yV (y8 (yL (sr (An rfl (rt (rs ?_))))))
 have F:=m.pk []
 obtain rfl:_=false:=hr.symm.trans (et (aa d) (kG z))
 exact⟨rfl,F⟩
def nk (a:bE):Bool:=
 bnd (av a.ae (113:UInt8)) fun n=>bnd (if n=true then false else decide (¬ (((a.bG:Nat):Int)=0))) fun sJrbR=>if sJrbR=true then false else bnd (av a.ae (98:UInt8)) fun o=>bnd (if o=true then false else decide (¬ (((a.aY:Nat):Int)=0))) fun sJrbRafbR=>if sJrbRafbR=true then false else bnd (av a.ae (116:UInt8)) fun p=>bnd (if p=true then false else decide (¬ (((a.bF:Nat):Int)=0))) fun sJrbRafbRafbR=>if sJrbRafbRafbR=true then false else bnd (av a.ae (108:UInt8)) fun q=>bnd (if q=true then false else decide (¬ (((a.bH:Nat):Int)=0))) fun sJrbRafbRafbRafbR=>if sJrbRafbRafbRafbR=true then false else bnd (av a.ae (118:UInt8)) fun b=>bnd (if b=true then false else decide (¬ (((a.bL:Nat):Int)=0))) fun sJrbRafbRafbRafbRafbR=>if sJrbRafbRafbRafbRafbR=true then false else bnd (av a.ae (101:UInt8)) fun c=>bnd (if c=true then false else decide (¬ (((a.aV:Nat):Int)=0))) fun sJrbRafbRafbRafbRafbRafbR=>if sJrbRafbRafbRafbRafbRafbR=true then false else bnd (av a.ae (109:UInt8)) fun d=>bnd (if d=true then false else decide (¬ (((a.bB:Nat):Int)=0))) fun sJrbRafbRafbRafbRafbRafbRafbR=>if sJrbRafbRafbRafbRafbRafbRafbR=true then false else bnd (av a.ae (97:UInt8)) fun e=>bnd (if e=true then false else decide (¬ (((a.aK:Nat):Int)=0))) fun sJrbRafbRafbRafbRafbRafbRafbRafbR=>if sJrbRafbRafbRafbRafbRafbRafbRafbR=true then false else bnd (av a.ae (110:UInt8)) fun f=>bnd (if f=true then false else decide (¬ (((a.xN:Nat):Int)=0))) fun sJrbRafbRafbRafbRafbRafbRafbRafbRafbR=>if sJrbRafbRafbRafbRafbRafbRafbRafbRafbR=true then false else bnd (if a.aQ=0 then bnd (av a.ae (99:UInt8)) fun g=>if g=true then true else decide (a.bu=0) else false) fun sJrbRafbRafbRafbRafbRafbRafbRafbRafbRafR=>bnd (if sJrbRafbRafbRafbRafbRafbRafbRafbRafbRafR=true then bnd (av a.ae (112:UInt8)) fun h=>if h=true then true else decide (a.bO=0) else false) fun sJrbRafbRafbRafbRafbRafbRafbRafbRafbRafRaR=>bnd (if sJrbRafbRafbRafbRafbRafbRafbRafbRafbRafRaR=true then bnd (av a.ae (102:UInt8)) fun i=>if i=true then true else !a.bV else false) fun sJrbRafbRafbRafbRafbRafbRafbRafbRafbRafRaRaR=>bnd (if sJrbRafbRafbRafbRafbRafbRafbRafbRafbRafRaRaR=true then bnd (av a.ae (114:UInt8)) fun j=>if j=true then true else decide ((a.aG.aD=([]))∧(a.aG.aH=([]))) else false) fun sJrbRafbRafbRafbRafbRafbRafbRafbRafbRafRaRaRaR=>bnd (if sJrbRafbRafbRafbRafbRafbRafbRafbRafbRafRaRaRaR=true then bnd (av a.ae (111:UInt8)) fun k=>if k=true then true else decide (((a.ax.ls.length:Nat):Int)=0) else false) fun sJrbRafbRafbRafbRafbRafbRafbRafbRafbRafRaRaRaRaR=>bnd (if sJrbRafbRafbRafbRafbRafbRafbRafbRafbRafRaRaRaRaR=true then bnd (av a.ae (115:UInt8)) fun l=>if l=true then true else decide (((a.ah.ls.length:Nat):Int)=0) else false) fun sJrbRafbRafbRafbRafbRafbRafbRafbRafbRafRaRaRaRaRaR=>bnd (if sJrbRafbRafbRafbRafbRafbRafbRafbRafbRafRaRaRaRaRaR=true then bnd (av a.ae (119:UInt8)) fun m=>if m=true then true else decide (((a.ai.ls.length:Nat):Int)=0) else false) fun sJrbRafbRafbRafbRafbRafbRafbRafbRafbRafRaRaRaRaRaRaR=>sJrbRafbRafbRafbRafbRafbRafbRafbRafbRafRaRaRaRaRaRaR
set_option maxHeartbeats 2000000 in
theorem sP (w:World) (D:Nat→Prop) (a:bE) (h:Option Addr) (fG j:Nat) (l:Option Addr) (fH m:Nat) (dB:List af) (n:Option Addr) (fI o:Nat) (r0:Bool) (H:Own w D w []) (fP:fG=a.ax.ls.length) (kv:Ro w D fun w'=>bD w' 6 h a.ax.ls.length (List.flatMap aB.cells a.ax.ls)) (kw:a.ax.ls.length≤j∧a.ax.ls.length≤9223372036854775807) (fQ:List.map zh dB=a.ah.ls) (fT:fH=a.ah.ls.length) (ky:Ro w D fun w'=>bD w' 3 l a.ah.ls.length (List.flatMap af.cells dB)) (kz:a.ah.ls.length≤m∧a.ah.ls.length≤9223372036854775807) (kC:∀ x ∈ dB,Ro w D (fun w'=>bD w' 2 x.ak.A x.ak.ls.length (List.flatMap aR.cells x.ak.ls))∧(x.ak.ls.length≤x.ak.c∧x.ak.ls.length≤9223372036854775807)) (fU:fI=a.ai.ls.length) (kD:Ro w D fun w'=>bD w' 2 n a.ai.ls.length (List.flatMap aA.cells a.ai.ls)) (kE:a.ai.ls.length≤o∧a.ai.ls.length≤9223372036854775807) (hr:nk a=r0):
    Calls Tryz.prog 29 #[.agg (bf a.ae a.bq a.dw a.aQ a.bu a.bO a.bG a.aY a.bF a.bH a.bL a.aV a.bB a.aK a.xN a.bV a.aG.aD a.aG.aH h fG j l fH m n fI o).toArray] w (cO fun v w'=>v= .bool r0∧Own w D w' []):=by
 subst fP fT fU
 have hdl0x1:=dG fQ
 refine yR (args:= [.agg (aM a h j l m n o).toArray]) Tryz.func29 rfl rfl rfl ?_
 show Wp _ _ _ [(0, .agg (aM a h j l m n o).toArray)] _ _
 refine sr ?_
 refine dE (aM a h j l m n o) 29 H ?_
 intro b ng kF
 refine An rfl (yJ (sr ?_))
 refine iX [.int .u8 113, .int .u8 98, .int .u8 116, .int .u8 108, .int .u8 118, .int .u8 101, .int .u8 109, .int .u8 97, .int .u8 110] 5 1 9 kF ?_
 intro d ni fV
 replace fV:=zi (y:=row d 9 9 (List.flatMap eB ([113,98,116,108,118,101,109,97,110])) 5 1) rfl fV
 refine WL.do rfl (Aw Tryz.underlying31 Tryz.underlying5 fV (by omega) rfl ?_)
 intro nu fF
 refine Kz (.int .i64 9) (Mn rfl (bo (zN 200 (sr (Kz (.bool true) (nt (yJ (jt (sk (yJ (bo (sr ?_))))))))))))
 have iP:([113,98,116,108,118,101,109,97,110]:List UInt8)[0]? =some 113:=rfl
 refine fw (.pointer (some ⟨ab d,ao d+0 *1,none⟩)) (yZ (bW) rfl rfl ((fF.rds (i:=0) rfl).addr (i:=0) (by omega)) (by omega)) (fw (.int .u8 113) (y5 rfl (bn.one Tryz.isAgg5 (((fF.rds (i:=0) rfl).elem ay iP (by decide)).at_ (k:=0) rfl))) (Ar rfl (Kz (.pointer (some ⟨b,0,none⟩)) (Lz (.int .i64 a.ae) fF 1 Tryz.isAgg3 (Mz rfl ?_)))))
 obtain⟨aT,ax⟩:∃ q,av a.ae (113:UInt8)=q:=⟨_,rfl⟩
 obtain⟨ny,iQ,lJ,iR,lK⟩:=yP fF
 refine cl Tryz.call73 (gM _ _ a.ae (113:UInt8) aT iQ ax) ?_
 rintro _ nz ⟨rfl,iT⟩
 have fZ:=iR _ _ iT
 refine Kz (.bool (!aT)) (Mz rfl ?_)
 refine zz (ι:=Bool) 6 (fun i=> [(23, .bool i),(17, .bool (!aT)),(16, .bool (!aT)),(15, .bool aT),(14, .int .u8 113),(13, .int .i64 a.ae),(12, .pointer (some ⟨b,0,none⟩)),(4, .int .u8 113),(11, .int .u8 113),(10, .pointer (some ⟨ab d,ao d+0 *1,none⟩)),(9, .bool true),(8, .int .i64 0),(7, .int .i64 9),(6, .slice d 9 9),(5, .slice d 9 9),(2, .bool false),(1, .pointer (some ⟨b,0,none⟩)),(0, .agg (aM a h j l m n o).toArray)]) (fun i w'=>Own w D w' [row d 9 9 (List.flatMap eB ([113,98,116,108,118,101,109,97,110])) 5 1,blk b (aM a h j l m n o) 29]∧((if aT=true then false else decide (¬ (((a.bG:Nat):Int)=0)))=i)) ?_ ?_
 intro fJ
 rcases BL (aT) with aK | aK
 refine Sz (cn aK) (Sz (cn aK) (Sz (cn aK) (Sz (cn aK) (Sz (cn aK) (fw (.bool false) (yM rfl (cn aK) rfl) ?_)))))
 have kG:=fZ.pk [0,1]
 exact fJ false _ _ ⟨kG,(show (if aT=true then false else decide (¬ (((a.bG:Nat):Int)=0)))=false from ip aK)⟩ ⟨rfl,rfl,rfl,rfl,rfl,rfl,rfl,rfl,rfl,rfl,rfl,rfl,rfl,rfl,rfl,rfl,rfl,rfl,trivial⟩
 refine gw (.int .u8 113) (cn aK) (yO rfl) ?_
 refine zC rfl rfl (cn aK) rfl (zf Tryz.call47 rfl ?_ (fun _ _ k=>k))
 refine yR (args:= [.pointer (some ⟨b,0,none⟩), .int .u8 113]) Tryz.func47 rfl rfl rfl ?_
 show Wp _ _ _ [(0, .pointer (some ⟨b,0,none⟩)),(1, .int .u8 113)] _ _
 refine sr (An rfl (yJ (sr (Mn rfl (bo (sr (Kz (.bool true) (An rfl (jt (sr (Mz rfl (Kz (.pointer (some ⟨b,0,none⟩)) (Kz (.pointer (some ⟨b,6,none⟩)) (An rfl (rt (bR (tR (rs (Gz (.pointer (some ⟨b,6,none⟩)) (cn aK) (Gl (.int .u64 ((a.bG:Nat):Int)) (cn aK) fZ 1 Tryz.isAgg22 (gw (.bool (decide (¬ (((a.bG:Nat):Int)=0)))) (cn aK) (za (e:= !(decide (((a.bG:Nat):Int)=0))) yk decide_not.symm) (fw (.bool (decide (¬ (((a.bG:Nat):Int)=0)))) (yN rfl (cn aK) rfl) ?_))))))))))))))))))))))
 have kH:=fZ.pk [0,1]
 exact fJ (decide (¬ (((a.bG:Nat):Int)=0))) _ _ ⟨kH,(show (if aT=true then false else decide (¬ (((a.bG:Nat):Int)=0)))=decide (¬ (((a.bG:Nat):Int)=0)) from dz aK)⟩ ⟨rfl,rfl,rfl,rfl,rfl,rfl,rfl,rfl,rfl,rfl,rfl,rfl,rfl,rfl,rfl,rfl,rfl,rfl,trivial⟩
 rintro gm nA ⟨dC,ak⟩
 show WL _ _ _ (List.drop 6 _) _ [(23, .bool gm),(17, .bool (!aT)),(16, .bool (!aT)),(15, .bool aT),(14, .int .u8 113),(13, .int .i64 a.ae),(12, .pointer (some ⟨b,0,none⟩)),(4, .int .u8 113),(11, .int .u8 113),(10, .pointer (some ⟨ab d,ao d+0 *1,none⟩)),(9, .bool true),(8, .int .i64 0),(7, .int .i64 9),(6, .slice d 9 9),(5, .slice d 9 9),(2, .bool false),(1, .pointer (some ⟨b,0,none⟩)),(0, .agg (aM a h j l m n o).toArray)] _
 replace ak:(if aT=true then false else decide (¬ (((a.bG:Nat):Int)=0)))=gm:=ak
 refine nt ?_
 rcases BL (gm) with aU | aU
 refine jT aU (sr (An rfl (rt (bR (tR (tR (bR (tR (rs ?_)))))))))
 have kI:=dC.pk []
 obtain rfl:_=false:=hr.symm.trans (et (aa ax) (et (aa ak) (ip aU)))
 exact⟨rfl,kI⟩
 refine jF aU (zm (bN (yL (yK (Kz (.int .i64 1) (Mz rfl (WL.nil (zx [(8, .int .i64 1),(7, .int .i64 9),(6, .slice d 9 9),(2, .bool false),(1, .pointer (some ⟨b,0,none⟩))] ⟨rfl,rfl,rfl,rfl,rfl,trivial⟩ (sr (Kz (.bool true) (nt (yJ (jt (sk (yJ (bo (sr ?_)))))))))))))))))
 have iU:([113,98,116,108,118,101,109,97,110]:List UInt8)[1]? =some 98:=rfl
 refine fw (.pointer (some ⟨ab d,ao d+1 *1,none⟩)) (yZ (bW) rfl rfl ((dC.rds (i:=0) rfl).addr (i:=1) (by omega)) (by omega)) (fw (.int .u8 98) (y5 rfl (bn.one Tryz.isAgg5 (((dC.rds (i:=0) rfl).elem ay iU (by decide)).at_ (k:=0) rfl))) (Ar rfl (Kz (.pointer (some ⟨b,0,none⟩)) (Lz (.int .i64 a.ae) dC 1 Tryz.isAgg3 (Mz rfl ?_)))))
 obtain⟨aV,aH⟩:∃ q,av a.ae (98:UInt8)=q:=⟨_,rfl⟩
 obtain⟨nC,iV,lL,iW,lM⟩:=yP dC
 refine cl Tryz.call73 (gM _ _ a.ae (98:UInt8) aV iV aH) ?_
 rintro _ nD ⟨rfl,iY⟩
 have gp:=iW _ _ iY
 refine Kz (.bool (!aV)) (Mz rfl ?_)
 refine zz (ι:=Bool) 6 (fun i=> [(23, .bool i),(17, .bool (!aV)),(16, .bool (!aV)),(15, .bool aV),(14, .int .u8 98),(13, .int .i64 a.ae),(12, .pointer (some ⟨b,0,none⟩)),(4, .int .u8 98),(11, .int .u8 98),(10, .pointer (some ⟨ab d,ao d+1 *1,none⟩)),(9, .bool true),(8, .int .i64 1),(7, .int .i64 9),(6, .slice d 9 9),(2, .bool false),(1, .pointer (some ⟨b,0,none⟩))]) (fun i w'=>Own w D w' [row d 9 9 (List.flatMap eB ([113,98,116,108,118,101,109,97,110])) 5 1,blk b (aM a h j l m n o) 29]∧((if aV=true then false else decide (¬ (((a.aY:Nat):Int)=0)))=i)) ?_ ?_
 intro fK
 rcases BL (aV) with aL | aL
 refine Sz (cn aL) (Sz (cn aL) (Sz (cn aL) (Sz (cn aL) (Sz (cn aL) (fw (.bool false) (yM rfl (cn aL) rfl) ?_)))))
 have kJ:=gp.pk [0,1]
 exact fK false _ _ ⟨kJ,(show (if aV=true then false else decide (¬ (((a.aY:Nat):Int)=0)))=false from ip aL)⟩ ⟨rfl,rfl,rfl,rfl,rfl,rfl,rfl,rfl,rfl,rfl,rfl,rfl,rfl,rfl,rfl,rfl,trivial⟩
 refine gw (.int .u8 98) (cn aL) (yO rfl) ?_
 refine zC rfl rfl (cn aL) rfl (zf Tryz.call47 rfl ?_ (fun _ _ k=>k))
 refine yR (args:= [.pointer (some ⟨b,0,none⟩), .int .u8 98]) Tryz.func47 rfl rfl rfl ?_
 show Wp _ _ _ [(0, .pointer (some ⟨b,0,none⟩)),(1, .int .u8 98)] _ _
 refine sr (An rfl (yJ (sr (Mn rfl (bo (sr (Kz (.bool false) (An rfl (jf (sr (Kz (.bool true) (An rfl (jt (sr (Mz rfl (Kz (.pointer (some ⟨b,0,none⟩)) (Kz (.pointer (some ⟨b,7,none⟩)) (An rfl (rt (bR (tR (rs (Gz (.pointer (some ⟨b,7,none⟩)) (cn aL) (Gl (.int .u64 ((a.aY:Nat):Int)) (cn aL) gp 1 Tryz.isAgg22 ?_))))))))))))))))))))))))
 refine gw (.bool (decide (¬ (((a.aY:Nat):Int)=0)))) (cn aL) (za (e:= !(decide (((a.aY:Nat):Int)=0))) yk decide_not.symm) (fw (.bool (decide (¬ (((a.aY:Nat):Int)=0)))) (yN rfl (cn aL) rfl) ?_)
 have kK:=gp.pk [0,1]
 exact fK (decide (¬ (((a.aY:Nat):Int)=0))) _ _ ⟨kK,(show (if aV=true then false else decide (¬ (((a.aY:Nat):Int)=0)))=decide (¬ (((a.aY:Nat):Int)=0)) from dz aL)⟩ ⟨rfl,rfl,rfl,rfl,rfl,rfl,rfl,rfl,rfl,rfl,rfl,rfl,rfl,rfl,rfl,rfl,trivial⟩
 rintro gq nE ⟨dD,az⟩
 show WL _ _ _ (List.drop 6 _) _ [(23, .bool gq),(17, .bool (!aV)),(16, .bool (!aV)),(15, .bool aV),(14, .int .u8 98),(13, .int .i64 a.ae),(12, .pointer (some ⟨b,0,none⟩)),(4, .int .u8 98),(11, .int .u8 98),(10, .pointer (some ⟨ab d,ao d+1 *1,none⟩)),(9, .bool true),(8, .int .i64 1),(7, .int .i64 9),(6, .slice d 9 9),(2, .bool false),(1, .pointer (some ⟨b,0,none⟩))] _
 replace az:(if aV=true then false else decide (¬ (((a.aY:Nat):Int)=0)))=gq:=az
 refine nt ?_
 rcases BL (gq) with bq | bq
 refine jT bq (sr (An rfl (rt (bR (tR (tR (bR (tR (rs ?_)))))))))
 have kL:=dD.pk []
 obtain rfl:_=false:=hr.symm.trans (et (aa ax) (et (aa ak) (et (dz aU) (et (aa aH) (et (aa az) (ip bq))))))
 exact⟨rfl,kL⟩
 refine jF bq (zm (bN (yL (yK (Kz (.int .i64 2) (Mz rfl (WL.nil (zx [(8, .int .i64 2),(7, .int .i64 9),(6, .slice d 9 9),(2, .bool false),(1, .pointer (some ⟨b,0,none⟩))] ⟨rfl,rfl,rfl,rfl,rfl,trivial⟩ (sr (Kz (.bool true) (nt (yJ (jt (sk (yJ (bo (sr ?_)))))))))))))))))
 have iZ:([113,98,116,108,118,101,109,97,110]:List UInt8)[2]? =some 116:=rfl
 refine fw (.pointer (some ⟨ab d,ao d+2 *1,none⟩)) (yZ (bW) rfl rfl ((dD.rds (i:=0) rfl).addr (i:=2) (by omega)) (by omega)) (fw (.int .u8 116) (y5 rfl (bn.one Tryz.isAgg5 (((dD.rds (i:=0) rfl).elem ay iZ (by decide)).at_ (k:=0) rfl))) (Ar rfl (Kz (.pointer (some ⟨b,0,none⟩)) (Lz (.int .i64 a.ae) dD 1 Tryz.isAgg3 (Mz rfl ?_)))))
 obtain⟨aW,aQ⟩:∃ q,av a.ae (116:UInt8)=q:=⟨_,rfl⟩
 obtain⟨nG,ja,lN,jb,lQ⟩:=yP dD
 refine cl Tryz.call73 (gM _ _ a.ae (116:UInt8) aW ja aQ) ?_
 rintro _ nH ⟨rfl,jc⟩
 have gu:=jb _ _ jc
 refine Kz (.bool (!aW)) (Mz rfl ?_)
 refine zz (ι:=Bool) 6 (fun i=> [(23, .bool i),(17, .bool (!aW)),(16, .bool (!aW)),(15, .bool aW),(14, .int .u8 116),(13, .int .i64 a.ae),(12, .pointer (some ⟨b,0,none⟩)),(4, .int .u8 116),(11, .int .u8 116),(10, .pointer (some ⟨ab d,ao d+2 *1,none⟩)),(9, .bool true),(8, .int .i64 2),(7, .int .i64 9),(6, .slice d 9 9),(2, .bool false),(1, .pointer (some ⟨b,0,none⟩))]) (fun i w'=>Own w D w' [row d 9 9 (List.flatMap eB ([113,98,116,108,118,101,109,97,110])) 5 1,blk b (aM a h j l m n o) 29]∧((if aW=true then false else decide (¬ (((a.bF:Nat):Int)=0)))=i)) ?_ ?_
 intro fM
 rcases BL (aW) with aN | aN
 refine Sz (cn aN) (Sz (cn aN) (Sz (cn aN) (Sz (cn aN) (Sz (cn aN) (fw (.bool false) (yM rfl (cn aN) rfl) ?_)))))
 have kM:=gu.pk [0,1]
 exact fM false _ _ ⟨kM,(show (if aW=true then false else decide (¬ (((a.bF:Nat):Int)=0)))=false from ip aN)⟩ ⟨rfl,rfl,rfl,rfl,rfl,rfl,rfl,rfl,rfl,rfl,rfl,rfl,rfl,rfl,rfl,rfl,trivial⟩
 refine gw (.int .u8 116) (cn aN) (yO rfl) ?_
 refine zC rfl rfl (cn aN) rfl (zf Tryz.call47 rfl ?_ (fun _ _ k=>k))
 refine yR (args:= [.pointer (some ⟨b,0,none⟩), .int .u8 116]) Tryz.func47 rfl rfl rfl ?_
 show Wp _ _ _ [(0, .pointer (some ⟨b,0,none⟩)),(1, .int .u8 116)] _ _
 refine sr (An rfl (yJ (sr (Mn rfl (bo (sr (Kz (.bool false) (An rfl (jf (sr (Kz (.bool false) (An rfl (jf (sr (Kz (.bool true) (An rfl (jt (sr (Mz rfl (Kz (.pointer (some ⟨b,0,none⟩)) (Kz (.pointer (some ⟨b,8,none⟩)) (Az rfl (WL.nil ?_)))))))))))))))))))))))
 refine yL (rt (bR (tR (rs (Gz (.pointer (some ⟨b,8,none⟩)) (cn aN) (Gl (.int .u64 ((a.bF:Nat):Int)) (cn aN) gu 1 Tryz.isAgg22 (gw (.bool (decide (¬ (((a.bF:Nat):Int)=0)))) (cn aN) (za (e:= !(decide (((a.bF:Nat):Int)=0))) yk decide_not.symm) (fw (.bool (decide (¬ (((a.bF:Nat):Int)=0)))) (yN rfl (cn aN) rfl) ?_))))))))
 have kN:=gu.pk [0,1]
 exact fM (decide (¬ (((a.bF:Nat):Int)=0))) _ _ ⟨kN,(show (if aW=true then false else decide (¬ (((a.bF:Nat):Int)=0)))=decide (¬ (((a.bF:Nat):Int)=0)) from dz aN)⟩ ⟨rfl,rfl,rfl,rfl,rfl,rfl,rfl,rfl,rfl,rfl,rfl,rfl,rfl,rfl,rfl,rfl,trivial⟩
 rintro gy nI ⟨dH,aI⟩
 show WL _ _ _ (List.drop 6 _) _ [(23, .bool gy),(17, .bool (!aW)),(16, .bool (!aW)),(15, .bool aW),(14, .int .u8 116),(13, .int .i64 a.ae),(12, .pointer (some ⟨b,0,none⟩)),(4, .int .u8 116),(11, .int .u8 116),(10, .pointer (some ⟨ab d,ao d+2 *1,none⟩)),(9, .bool true),(8, .int .i64 2),(7, .int .i64 9),(6, .slice d 9 9),(2, .bool false),(1, .pointer (some ⟨b,0,none⟩))] _
 replace aI:(if aW=true then false else decide (¬ (((a.bF:Nat):Int)=0)))=gy:=aI
 refine nt ?_
 rcases BL (gy) with bu | bu
 refine jT bu (sr (An rfl (rt (bR (tR (tR (bR (tR (rs ?_)))))))))
 have kP:=dH.pk []
 obtain rfl:_=false:=hr.symm.trans (et (aa ax) (et (aa ak) (et (dz aU) (et (aa aH) (et (aa az) (et (dz bq) (et (aa aQ) (et (aa aI) (ip bu)))))))))
 exact⟨rfl,kP⟩
 refine jF bu (zm (bN (yL (yK (Kz (.int .i64 3) (Mz rfl (WL.nil (zx [(8, .int .i64 3),(7, .int .i64 9),(6, .slice d 9 9),(2, .bool false),(1, .pointer (some ⟨b,0,none⟩))] ⟨rfl,rfl,rfl,rfl,rfl,trivial⟩ (sr (Kz (.bool true) (nt (yJ (jt (sk (yJ (bo (sr ?_)))))))))))))))))
 have jd:([113,98,116,108,118,101,109,97,110]:List UInt8)[3]? =some 108:=rfl
 refine fw (.pointer (some ⟨ab d,ao d+3 *1,none⟩)) (yZ (bW) rfl rfl ((dH.rds (i:=0) rfl).addr (i:=3) (by omega)) (by omega)) (fw (.int .u8 108) (y5 rfl (bn.one Tryz.isAgg5 (((dH.rds (i:=0) rfl).elem ay jd (by decide)).at_ (k:=0) rfl))) (Ar rfl (Kz (.pointer (some ⟨b,0,none⟩)) (Lz (.int .i64 a.ae) dH 1 Tryz.isAgg3 (Mz rfl ?_)))))
 obtain⟨aX,bg⟩:∃ q,av a.ae (108:UInt8)=q:=⟨_,rfl⟩
 obtain⟨nJ,je,lS,jg,lT⟩:=yP dH
 refine cl Tryz.call73 (gM _ _ a.ae (108:UInt8) aX je bg) ?_
 rintro _ lU ⟨rfl,gz⟩
 have dI:=jg _ _ gz
 refine Kz (.bool (!aX)) (Mz rfl ?_)
 refine zz (ι:=Bool) 6 (fun i=> [(23, .bool i),(17, .bool (!aX)),(16, .bool (!aX)),(15, .bool aX),(14, .int .u8 108),(13, .int .i64 a.ae),(12, .pointer (some ⟨b,0,none⟩)),(4, .int .u8 108),(11, .int .u8 108),(10, .pointer (some ⟨ab d,ao d+3 *1,none⟩)),(9, .bool true),(8, .int .i64 3),(7, .int .i64 9),(6, .slice d 9 9),(2, .bool false),(1, .pointer (some ⟨b,0,none⟩))]) (fun i w'=>Own w D w' [row d 9 9 (List.flatMap eB ([113,98,116,108,118,101,109,97,110])) 5 1,blk b (aM a h j l m n o) 29]∧((if aX=true then false else decide (¬ (((a.bH:Nat):Int)=0)))=i)) ?_ ?_
 intro dJ
 rcases BL (aX) with I | I
 refine Sz (cn I) (Sz (cn I) (Sz (cn I) (Sz (cn I) (Sz (cn I) (fw (.bool false) (yM rfl (cn I) rfl) ?_)))))
 have jh:=dI.pk [0,1]
 exact dJ false _ _ ⟨jh,(show (if aX=true then false else decide (¬ (((a.bH:Nat):Int)=0)))=false from ip I)⟩ ⟨rfl,rfl,rfl,rfl,rfl,rfl,rfl,rfl,rfl,rfl,rfl,rfl,rfl,rfl,rfl,rfl,trivial⟩
 refine gw (.int .u8 108) (cn I) (yO rfl) ?_
 refine zC rfl rfl (cn I) rfl (zf Tryz.call47 rfl ?_ (fun _ _ k=>k))
 refine yR (args:= [.pointer (some ⟨b,0,none⟩), .int .u8 108]) Tryz.func47 rfl rfl rfl ?_
 show Wp _ _ _ [(0, .pointer (some ⟨b,0,none⟩)),(1, .int .u8 108)] _ _
 refine sr (An rfl (yJ (sr (Mn rfl (bo (sr (Kz (.bool false) (An rfl (jf (sr (Kz (.bool false) (An rfl (jf (sr (Kz (.bool false) (An rfl (jf (sr (Kz (.bool true) (An rfl (jt ?_)))))))))))))))))))))
 refine sr (Mz rfl (Kz (.pointer (some ⟨b,0,none⟩)) (Kz (.pointer (some ⟨b,9,none⟩)) (An rfl (rt (bR (tR (rs (Gz (.pointer (some ⟨b,9,none⟩)) (cn I) (Gl (.int .u64 ((a.bH:Nat):Int)) (cn I) dI 1 Tryz.isAgg22 (gw (.bool (decide (¬ (((a.bH:Nat):Int)=0)))) (cn I) (za (e:= !(decide (((a.bH:Nat):Int)=0))) yk decide_not.symm) (fw (.bool (decide (¬ (((a.bH:Nat):Int)=0)))) (yN rfl (cn I) rfl) ?_))))))))))))
 have ji:=dI.pk [0,1]
 exact dJ (decide (¬ (((a.bH:Nat):Int)=0))) _ _ ⟨ji,(show (if aX=true then false else decide (¬ (((a.bH:Nat):Int)=0)))=decide (¬ (((a.bH:Nat):Int)=0)) from dz I)⟩ ⟨rfl,rfl,rfl,rfl,rfl,rfl,rfl,rfl,rfl,rfl,rfl,rfl,rfl,rfl,rfl,rfl,trivial⟩
 rintro dK lV ⟨bH,X⟩
 show WL _ _ _ (List.drop 6 _) _ [(23, .bool dK),(17, .bool (!aX)),(16, .bool (!aX)),(15, .bool aX),(14, .int .u8 108),(13, .int .i64 a.ae),(12, .pointer (some ⟨b,0,none⟩)),(4, .int .u8 108),(11, .int .u8 108),(10, .pointer (some ⟨ab d,ao d+3 *1,none⟩)),(9, .bool true),(8, .int .i64 3),(7, .int .i64 9),(6, .slice d 9 9),(2, .bool false),(1, .pointer (some ⟨b,0,none⟩))] _
 replace X:(if aX=true then false else decide (¬ (((a.bH:Nat):Int)=0)))=dK:=X
 refine nt ?_
 rcases BL (dK) with aJ | aJ
 refine jT aJ (sr (An rfl (rt (bR (tR (tR (bR (tR (rs ?_)))))))))
 have jk:=bH.pk []
 obtain rfl:_=false:=hr.symm.trans (et (aa ax) (et (aa ak) (et (dz aU) (et (aa aH) (et (aa az) (et (dz bq) (et (aa aQ) (et (aa aI) (et (dz bu) (et (aa bg) (et (aa X) (ip aJ))))))))))))
 exact⟨rfl,jk⟩
 refine jF aJ (zm (bN (yL (yK (Kz (.int .i64 4) (Mz rfl (WL.nil (zx [(8, .int .i64 4),(7, .int .i64 9),(6, .slice d 9 9),(2, .bool false),(1, .pointer (some ⟨b,0,none⟩))] ⟨rfl,rfl,rfl,rfl,rfl,trivial⟩ (sr (Kz (.bool true) (nt (yJ (jt (sk (yJ (bo (sr ?_)))))))))))))))))
 have gB:([113,98,116,108,118,101,109,97,110]:List UInt8)[4]? =some 118:=rfl
 refine fw (.pointer (some ⟨ab d,ao d+4 *1,none⟩)) (yZ (bW) rfl rfl ((bH.rds (i:=0) rfl).addr (i:=4) (by omega)) (by omega)) (fw (.int .u8 118) (y5 rfl (bn.one Tryz.isAgg5 (((bH.rds (i:=0) rfl).elem ay gB (by decide)).at_ (k:=0) rfl))) (Ar rfl (Kz (.pointer (some ⟨b,0,none⟩)) (Lz (.int .i64 a.ae) bH 1 Tryz.isAgg3 (Mz rfl ?_)))))
 obtain⟨O,aO⟩:∃ q,av a.ae (118:UInt8)=q:=⟨_,rfl⟩
 obtain⟨lW,gD,kQ,gF,kR⟩:=yP bH
 refine cl Tryz.call73 (gM _ _ a.ae (118:UInt8) O gD aO) ?_
 rintro _ lX ⟨rfl,gG⟩
 have dL:=gF _ _ gG
 refine Kz (.bool (!O)) (Mz rfl ?_)
 refine zz (ι:=Bool) 6 (fun i=> [(23, .bool i),(17, .bool (!O)),(16, .bool (!O)),(15, .bool O),(14, .int .u8 118),(13, .int .i64 a.ae),(12, .pointer (some ⟨b,0,none⟩)),(4, .int .u8 118),(11, .int .u8 118),(10, .pointer (some ⟨ab d,ao d+4 *1,none⟩)),(9, .bool true),(8, .int .i64 4),(7, .int .i64 9),(6, .slice d 9 9),(2, .bool false),(1, .pointer (some ⟨b,0,none⟩))]) (fun i w'=>Own w D w' [row d 9 9 (List.flatMap eB ([113,98,116,108,118,101,109,97,110])) 5 1,blk b (aM a h j l m n o) 29]∧((if O=true then false else decide (¬ (((a.bL:Nat):Int)=0)))=i)) ?_ ?_
 intro dM
 rcases BL (O) with J | J
 refine Sz (cn J) (Sz (cn J) (Sz (cn J) (Sz (cn J) (Sz (cn J) (fw (.bool false) (yM rfl (cn J) rfl) ?_)))))
 have jl:=dL.pk [0,1]
 exact dM false _ _ ⟨jl,(show (if O=true then false else decide (¬ (((a.bL:Nat):Int)=0)))=false from ip J)⟩ ⟨rfl,rfl,rfl,rfl,rfl,rfl,rfl,rfl,rfl,rfl,rfl,rfl,rfl,rfl,rfl,rfl,trivial⟩
 refine gw (.int .u8 118) (cn J) (yO rfl) ?_
 refine zC rfl rfl (cn J) rfl (zf Tryz.call47 rfl ?_ (fun _ _ k=>k))
 refine yR (args:= [.pointer (some ⟨b,0,none⟩), .int .u8 118]) Tryz.func47 rfl rfl rfl ?_
 show Wp _ _ _ [(0, .pointer (some ⟨b,0,none⟩)),(1, .int .u8 118)] _ _
 refine sr (An rfl (yJ (sr (Mn rfl (bo (sr (Kz (.bool false) (An rfl (jf (sr (Kz (.bool false) (An rfl (jf (sr (Kz (.bool false) (An rfl (jf (sr (Kz (.bool false) (An rfl (jf ?_)))))))))))))))))))))
 refine sr (Kz (.bool true) (An rfl (jt (sr (Mz rfl (Kz (.pointer (some ⟨b,0,none⟩)) (Kz (.pointer (some ⟨b,10,none⟩)) (An rfl (rt (bR (tR (rs (Gz (.pointer (some ⟨b,10,none⟩)) (cn J) (Gl (.int .u64 ((a.bL:Nat):Int)) (cn J) dL 1 Tryz.isAgg22 (gw (.bool (decide (¬ (((a.bL:Nat):Int)=0)))) (cn J) (za (e:= !(decide (((a.bL:Nat):Int)=0))) yk decide_not.symm) (fw (.bool (decide (¬ (((a.bL:Nat):Int)=0)))) (yN rfl (cn J) rfl) ?_))))))))))))))))
 have jm:=dL.pk [0,1]
 exact dM (decide (¬ (((a.bL:Nat):Int)=0))) _ _ ⟨jm,(show (if O=true then false else decide (¬ (((a.bL:Nat):Int)=0)))=decide (¬ (((a.bL:Nat):Int)=0)) from dz J)⟩ ⟨rfl,rfl,rfl,rfl,rfl,rfl,rfl,rfl,rfl,rfl,rfl,rfl,rfl,rfl,rfl,rfl,trivial⟩
 rintro dN lY ⟨bI,aC⟩
 show WL _ _ _ (List.drop 6 _) _ [(23, .bool dN),(17, .bool (!O)),(16, .bool (!O)),(15, .bool O),(14, .int .u8 118),(13, .int .i64 a.ae),(12, .pointer (some ⟨b,0,none⟩)),(4, .int .u8 118),(11, .int .u8 118),(10, .pointer (some ⟨ab d,ao d+4 *1,none⟩)),(9, .bool true),(8, .int .i64 4),(7, .int .i64 9),(6, .slice d 9 9),(2, .bool false),(1, .pointer (some ⟨b,0,none⟩))] _
 replace aC:(if O=true then false else decide (¬ (((a.bL:Nat):Int)=0)))=dN:=aC
 refine nt ?_
 rcases BL (dN) with aS | aS
 refine jT aS (sr (An rfl (rt (bR (tR (tR (bR (tR (rs ?_)))))))))
 have jo:=bI.pk []
 obtain rfl:_=false:=hr.symm.trans (et (aa ax) (et (aa ak) (et (dz aU) (et (aa aH) (et (aa az) (et (dz bq) (et (aa aQ) (et (aa aI) (et (dz bu) (et (aa bg) (et (aa X) (et (dz aJ) (et (aa aO) (et (aa aC) (ip aS)))))))))))))))
 exact⟨rfl,jo⟩
 refine jF aS (zm (bN (yL (yK (Kz (.int .i64 5) (Mz rfl (WL.nil (zx [(8, .int .i64 5),(7, .int .i64 9),(6, .slice d 9 9),(2, .bool false),(1, .pointer (some ⟨b,0,none⟩))] ⟨rfl,rfl,rfl,rfl,rfl,trivial⟩ (sr (Kz (.bool true) (nt (yJ (jt (sk (yJ (bo (sr ?_)))))))))))))))))
 have gH:([113,98,116,108,118,101,109,97,110]:List UInt8)[5]? =some 101:=rfl
 refine fw (.pointer (some ⟨ab d,ao d+5 *1,none⟩)) (yZ (bW) rfl rfl ((bI.rds (i:=0) rfl).addr (i:=5) (by omega)) (by omega)) (fw (.int .u8 101) (y5 rfl (bn.one Tryz.isAgg5 (((bI.rds (i:=0) rfl).elem ay gH (by decide)).at_ (k:=0) rfl))) (Ar rfl (Kz (.pointer (some ⟨b,0,none⟩)) (Lz (.int .i64 a.ae) bI 1 Tryz.isAgg3 (Mz rfl ?_)))))
 obtain⟨P,aY⟩:∃ q,av a.ae (101:UInt8)=q:=⟨_,rfl⟩
 obtain⟨lZ,gI,kS,gJ,kT⟩:=yP bI
 refine cl Tryz.call73 (gM _ _ a.ae (101:UInt8) P gI aY) ?_
 rintro _ l5 ⟨rfl,gK⟩
 have dO:=gJ _ _ gK
 refine Kz (.bool (!P)) (Mz rfl ?_)
 refine zz (ι:=Bool) 6 (fun i=> [(23, .bool i),(17, .bool (!P)),(16, .bool (!P)),(15, .bool P),(14, .int .u8 101),(13, .int .i64 a.ae),(12, .pointer (some ⟨b,0,none⟩)),(4, .int .u8 101),(11, .int .u8 101),(10, .pointer (some ⟨ab d,ao d+5 *1,none⟩)),(9, .bool true),(8, .int .i64 5),(7, .int .i64 9),(6, .slice d 9 9),(2, .bool false),(1, .pointer (some ⟨b,0,none⟩))]) (fun i w'=>Own w D w' [row d 9 9 (List.flatMap eB ([113,98,116,108,118,101,109,97,110])) 5 1,blk b (aM a h j l m n o) 29]∧((if P=true then false else decide (¬ (((a.aV:Nat):Int)=0)))=i)) ?_ ?_
 intro dP
 rcases BL (P) with K | K
 refine Sz (cn K) (Sz (cn K) (Sz (cn K) (Sz (cn K) (Sz (cn K) (fw (.bool false) (yM rfl (cn K) rfl) ?_)))))
 have jq:=dO.pk [0,1]
 exact dP false _ _ ⟨jq,(show (if P=true then false else decide (¬ (((a.aV:Nat):Int)=0)))=false from ip K)⟩ ⟨rfl,rfl,rfl,rfl,rfl,rfl,rfl,rfl,rfl,rfl,rfl,rfl,rfl,rfl,rfl,rfl,trivial⟩
 refine gw (.int .u8 101) (cn K) (yO rfl) ?_
 refine zC rfl rfl (cn K) rfl (zf Tryz.call47 rfl ?_ (fun _ _ k=>k))
 refine yR (args:= [.pointer (some ⟨b,0,none⟩), .int .u8 101]) Tryz.func47 rfl rfl rfl ?_
 show Wp _ _ _ [(0, .pointer (some ⟨b,0,none⟩)),(1, .int .u8 101)] _ _
 refine sr (An rfl (yJ (sr (Mn rfl (bo (sr (Kz (.bool false) (An rfl (jf (sr (Kz (.bool false) (An rfl (jf (sr (Kz (.bool false) (An rfl (jf (sr (Kz (.bool false) (An rfl (jf ?_)))))))))))))))))))))
 refine sr (Kz (.bool false) (An rfl (jf (sr (Kz (.bool true) (An rfl (jt (sr (Mz rfl (Kz (.pointer (some ⟨b,0,none⟩)) (Kz (.pointer (some ⟨b,11,none⟩)) (An rfl (rt (bR (tR (rs (Gz (.pointer (some ⟨b,11,none⟩)) (cn K) (Gl (.int .u64 ((a.aV:Nat):Int)) (cn K) dO 1 Tryz.isAgg22 (gw (.bool (decide (¬ (((a.aV:Nat):Int)=0)))) (cn K) (za (e:= !(decide (((a.aV:Nat):Int)=0))) yk decide_not.symm) (fw (.bool (decide (¬ (((a.aV:Nat):Int)=0)))) (yN rfl (cn K) rfl) ?_))))))))))))))))))))
 have jr:=dO.pk [0,1]
 exact dP (decide (¬ (((a.aV:Nat):Int)=0))) _ _ ⟨jr,(show (if P=true then false else decide (¬ (((a.aV:Nat):Int)=0)))=decide (¬ (((a.aV:Nat):Int)=0)) from dz K)⟩ ⟨rfl,rfl,rfl,rfl,rfl,rfl,rfl,rfl,rfl,rfl,rfl,rfl,rfl,rfl,rfl,rfl,trivial⟩
 rintro dQ l6 ⟨bJ,aP⟩
 show WL _ _ _ (List.drop 6 _) _ [(23, .bool dQ),(17, .bool (!P)),(16, .bool (!P)),(15, .bool P),(14, .int .u8 101),(13, .int .i64 a.ae),(12, .pointer (some ⟨b,0,none⟩)),(4, .int .u8 101),(11, .int .u8 101),(10, .pointer (some ⟨ab d,ao d+5 *1,none⟩)),(9, .bool true),(8, .int .i64 5),(7, .int .i64 9),(6, .slice d 9 9),(2, .bool false),(1, .pointer (some ⟨b,0,none⟩))] _
 replace aP:(if P=true then false else decide (¬ (((a.aV:Nat):Int)=0)))=dQ:=aP
 refine nt ?_
 rcases BL (dQ) with bi | bi
 refine jT bi (sr (An rfl (rt (bR (tR (tR (bR (tR (rs ?_)))))))))
 have jv:=bJ.pk []
 obtain rfl:_=false:=hr.symm.trans (et (aa ax) (et (aa ak) (et (dz aU) (et (aa aH) (et (aa az) (et (dz bq) (et (aa aQ) (et (aa aI) (et (dz bu) (et (aa bg) (et (aa X) (et (dz aJ) (et (aa aO) (et (aa aC) (et (dz aS) (et (aa aY) (et (aa aP) (ip bi))))))))))))))))))
 exact⟨rfl,jv⟩
 refine jF bi (zm (bN (yL (yK (Kz (.int .i64 6) (Mz rfl (WL.nil (zx [(8, .int .i64 6),(7, .int .i64 9),(6, .slice d 9 9),(2, .bool false),(1, .pointer (some ⟨b,0,none⟩))] ⟨rfl,rfl,rfl,rfl,rfl,trivial⟩ (sr (Kz (.bool true) (nt (yJ (jt (sk (yJ (bo (sr ?_)))))))))))))))))
 have gL:([113,98,116,108,118,101,109,97,110]:List UInt8)[6]? =some 109:=rfl
 refine fw (.pointer (some ⟨ab d,ao d+6 *1,none⟩)) (yZ (bW) rfl rfl ((bJ.rds (i:=0) rfl).addr (i:=6) (by omega)) (by omega)) (fw (.int .u8 109) (y5 rfl (bn.one Tryz.isAgg5 (((bJ.rds (i:=0) rfl).elem ay gL (by decide)).at_ (k:=0) rfl))) (Ar rfl (Kz (.pointer (some ⟨b,0,none⟩)) (Lz (.int .i64 a.ae) bJ 1 Tryz.isAgg3 (Mz rfl ?_)))))
 obtain⟨Q,bv⟩:∃ q,av a.ae (109:UInt8)=q:=⟨_,rfl⟩
 obtain⟨l7,gN,kU,gP,kV⟩:=yP bJ
 refine cl Tryz.call73 (gM _ _ a.ae (109:UInt8) Q gN bv) ?_
 rintro _ l8 ⟨rfl,gQ⟩
 have dR:=gP _ _ gQ
 refine Kz (.bool (!Q)) (Mz rfl ?_)
 refine zz (ι:=Bool) 6 (fun i=> [(23, .bool i),(17, .bool (!Q)),(16, .bool (!Q)),(15, .bool Q),(14, .int .u8 109),(13, .int .i64 a.ae),(12, .pointer (some ⟨b,0,none⟩)),(4, .int .u8 109),(11, .int .u8 109),(10, .pointer (some ⟨ab d,ao d+6 *1,none⟩)),(9, .bool true),(8, .int .i64 6),(7, .int .i64 9),(6, .slice d 9 9),(2, .bool false),(1, .pointer (some ⟨b,0,none⟩))]) (fun i w'=>Own w D w' [row d 9 9 (List.flatMap eB ([113,98,116,108,118,101,109,97,110])) 5 1,blk b (aM a h j l m n o) 29]∧((if Q=true then false else decide (¬ (((a.bB:Nat):Int)=0)))=i)) ?_ ?_
 intro dS
 rcases BL (Q) with L | L
 refine Sz (cn L) (Sz (cn L) (Sz (cn L) (Sz (cn L) (Sz (cn L) (fw (.bool false) (yM rfl (cn L) rfl) ?_)))))
 have jw:=dR.pk [0,1]
 exact dS false _ _ ⟨jw,(show (if Q=true then false else decide (¬ (((a.bB:Nat):Int)=0)))=false from ip L)⟩ ⟨rfl,rfl,rfl,rfl,rfl,rfl,rfl,rfl,rfl,rfl,rfl,rfl,rfl,rfl,rfl,rfl,trivial⟩
 refine gw (.int .u8 109) (cn L) (yO rfl) ?_
 refine zC rfl rfl (cn L) rfl (zf Tryz.call47 rfl ?_ (fun _ _ k=>k))
 refine yR (args:= [.pointer (some ⟨b,0,none⟩), .int .u8 109]) Tryz.func47 rfl rfl rfl ?_
 show Wp _ _ _ [(0, .pointer (some ⟨b,0,none⟩)),(1, .int .u8 109)] _ _
 refine sr (An rfl (yJ (sr (Mn rfl (bo (sr (Kz (.bool false) (An rfl (jf (sr (Kz (.bool false) (An rfl (jf (sr (Kz (.bool false) (An rfl (jf (sr (Kz (.bool false) (An rfl (jf ?_)))))))))))))))))))))
 refine sr (Kz (.bool false) (An rfl (jf (sr (Kz (.bool false) (An rfl (jf (sr (Kz (.bool true) (An rfl (jt (sr (Mz rfl (Kz (.pointer (some ⟨b,0,none⟩)) (Kz (.pointer (some ⟨b,12,none⟩)) (An rfl (rt (bR (tR (rs (Gz (.pointer (some ⟨b,12,none⟩)) (cn L) (Gl (.int .u64 ((a.bB:Nat):Int)) (cn L) dR 1 Tryz.isAgg22 (gw (.bool (decide (¬ (((a.bB:Nat):Int)=0)))) (cn L) (za (e:= !(decide (((a.bB:Nat):Int)=0))) yk decide_not.symm) (fw (.bool (decide (¬ (((a.bB:Nat):Int)=0)))) (yN rfl (cn L) rfl) ?_))))))))))))))))))))))))
 have jy:=dR.pk [0,1]
 exact dS (decide (¬ (((a.bB:Nat):Int)=0))) _ _ ⟨jy,(show (if Q=true then false else decide (¬ (((a.bB:Nat):Int)=0)))=decide (¬ (((a.bB:Nat):Int)=0)) from dz L)⟩ ⟨rfl,rfl,rfl,rfl,rfl,rfl,rfl,rfl,rfl,rfl,rfl,rfl,rfl,rfl,rfl,rfl,trivial⟩
 rintro dU l9 ⟨bK,aZ⟩
 show WL _ _ _ (List.drop 6 _) _ [(23, .bool dU),(17, .bool (!Q)),(16, .bool (!Q)),(15, .bool Q),(14, .int .u8 109),(13, .int .i64 a.ae),(12, .pointer (some ⟨b,0,none⟩)),(4, .int .u8 109),(11, .int .u8 109),(10, .pointer (some ⟨ab d,ao d+6 *1,none⟩)),(9, .bool true),(8, .int .i64 6),(7, .int .i64 9),(6, .slice d 9 9),(2, .bool false),(1, .pointer (some ⟨b,0,none⟩))] _
 replace aZ:(if Q=true then false else decide (¬ (((a.bB:Nat):Int)=0)))=dU:=aZ
 refine nt ?_
 rcases BL (dU) with bz | bz
 refine jT bz (sr (An rfl (rt (bR (tR (tR (bR (tR (rs ?_)))))))))
 have jA:=bK.pk []
 obtain rfl:_=false:=hr.symm.trans (et (aa ax) (et (aa ak) (et (dz aU) (et (aa aH) (et (aa az) (et (dz bq) (et (aa aQ) (et (aa aI) (et (dz bu) (et (aa bg) (et (aa X) (et (dz aJ) (et (aa aO) (et (aa aC) (et (dz aS) (et (aa aY) (et (aa aP) (et (dz bi) (et (aa bv) (et (aa aZ) (ip bz)))))))))))))))))))))
 exact⟨rfl,jA⟩
 refine jF bz (zm (bN (yL (yK (Kz (.int .i64 7) (Mz rfl (WL.nil (zx [(8, .int .i64 7),(7, .int .i64 9),(6, .slice d 9 9),(2, .bool false),(1, .pointer (some ⟨b,0,none⟩))] ⟨rfl,rfl,rfl,rfl,rfl,trivial⟩ (sr (Kz (.bool true) (nt (yJ (jt (sk (yJ (bo (sr ?_)))))))))))))))))
 have gT:([113,98,116,108,118,101,109,97,110]:List UInt8)[7]? =some 97:=rfl
 refine fw (.pointer (some ⟨ab d,ao d+7 *1,none⟩)) (yZ (bW) rfl rfl ((bK.rds (i:=0) rfl).addr (i:=7) (by omega)) (by omega)) (fw (.int .u8 97) (y5 rfl (bn.one Tryz.isAgg5 (((bK.rds (i:=0) rfl).elem ay gT (by decide)).at_ (k:=0) rfl))) (Ar rfl (Kz (.pointer (some ⟨b,0,none⟩)) (Lz (.int .i64 a.ae) bK 1 Tryz.isAgg3 (Mz rfl ?_)))))
 obtain⟨R,bF⟩:∃ q,av a.ae (97:UInt8)=q:=⟨_,rfl⟩
 obtain⟨ma,gU,kW,gV,kX⟩:=yP bK
 refine cl Tryz.call73 (gM _ _ a.ae (97:UInt8) R gU bF) ?_
 rintro _ mf ⟨rfl,gW⟩
 have dV:=gV _ _ gW
 refine Kz (.bool (!R)) (Mz rfl ?_)
 refine zz (ι:=Bool) 6 (fun i=> [(23, .bool i),(17, .bool (!R)),(16, .bool (!R)),(15, .bool R),(14, .int .u8 97),(13, .int .i64 a.ae),(12, .pointer (some ⟨b,0,none⟩)),(4, .int .u8 97),(11, .int .u8 97),(10, .pointer (some ⟨ab d,ao d+7 *1,none⟩)),(9, .bool true),(8, .int .i64 7),(7, .int .i64 9),(6, .slice d 9 9),(2, .bool false),(1, .pointer (some ⟨b,0,none⟩))]) (fun i w'=>Own w D w' [row d 9 9 (List.flatMap eB ([113,98,116,108,118,101,109,97,110])) 5 1,blk b (aM a h j l m n o) 29]∧((if R=true then false else decide (¬ (((a.aK:Nat):Int)=0)))=i)) ?_ ?_
 intro dW
 rcases BL (R) with M | M
 refine Sz (cn M) (Sz (cn M) (Sz (cn M) (Sz (cn M) (Sz (cn M) (fw (.bool false) (yM rfl (cn M) rfl) ?_)))))
 have jB:=dV.pk [0,1]
 exact dW false _ _ ⟨jB,(show (if R=true then false else decide (¬ (((a.aK:Nat):Int)=0)))=false from ip M)⟩ ⟨rfl,rfl,rfl,rfl,rfl,rfl,rfl,rfl,rfl,rfl,rfl,rfl,rfl,rfl,rfl,rfl,trivial⟩
 refine gw (.int .u8 97) (cn M) (yO rfl) ?_
 refine zC rfl rfl (cn M) rfl (zf Tryz.call47 rfl ?_ (fun _ _ k=>k))
 refine yR (args:= [.pointer (some ⟨b,0,none⟩), .int .u8 97]) Tryz.func47 rfl rfl rfl ?_
 show Wp _ _ _ [(0, .pointer (some ⟨b,0,none⟩)),(1, .int .u8 97)] _ _
 refine sr (An rfl (yJ (sr (Mn rfl (bo (sr (Kz (.bool false) (An rfl (jf (sr (Kz (.bool false) (An rfl (jf (sr (Kz (.bool false) (An rfl (jf (sr (Kz (.bool false) (An rfl (jf ?_)))))))))))))))))))))
 refine sr (Kz (.bool false) (An rfl (jf (sr (Kz (.bool false) (An rfl (jf (sr (Kz (.bool false) (An rfl (jf (sr (Kz (.bool true) (An rfl (jt (sr (Mz rfl (Kz (.pointer (some ⟨b,0,none⟩)) (Kz (.pointer (some ⟨b,13,none⟩)) (An rfl (rt (bR (tR (rs ?_))))))))))))))))))))))))
 refine Gz (.pointer (some ⟨b,13,none⟩)) (cn M) (Gl (.int .u64 ((a.aK:Nat):Int)) (cn M) dV 1 Tryz.isAgg22 (gw (.bool (decide (¬ (((a.aK:Nat):Int)=0)))) (cn M) (za (e:= !(decide (((a.aK:Nat):Int)=0))) yk decide_not.symm) (fw (.bool (decide (¬ (((a.aK:Nat):Int)=0)))) (yN rfl (cn M) rfl) ?_)))
 have jC:=dV.pk [0,1]
 exact dW (decide (¬ (((a.aK:Nat):Int)=0))) _ _ ⟨jC,(show (if R=true then false else decide (¬ (((a.aK:Nat):Int)=0)))=decide (¬ (((a.aK:Nat):Int)=0)) from dz M)⟩ ⟨rfl,rfl,rfl,rfl,rfl,rfl,rfl,rfl,rfl,rfl,rfl,rfl,rfl,rfl,rfl,rfl,trivial⟩
 rintro dX mg ⟨bL,bA⟩
 show WL _ _ _ (List.drop 6 _) _ [(23, .bool dX),(17, .bool (!R)),(16, .bool (!R)),(15, .bool R),(14, .int .u8 97),(13, .int .i64 a.ae),(12, .pointer (some ⟨b,0,none⟩)),(4, .int .u8 97),(11, .int .u8 97),(10, .pointer (some ⟨ab d,ao d+7 *1,none⟩)),(9, .bool true),(8, .int .i64 7),(7, .int .i64 9),(6, .slice d 9 9),(2, .bool false),(1, .pointer (some ⟨b,0,none⟩))] _
 replace bA:(if R=true then false else decide (¬ (((a.aK:Nat):Int)=0)))=dX:=bA
 refine nt ?_
 rcases BL (dX) with bB | bB
 refine jT bB (sr (An rfl (rt (bR (tR (tR (bR (tR (rs ?_)))))))))
 have jD:=bL.pk []
 obtain rfl:_=false:=hr.symm.trans (et (aa ax) (et (aa ak) (et (dz aU) (et (aa aH) (et (aa az) (et (dz bq) (et (aa aQ) (et (aa aI) (et (dz bu) (et (aa bg) (et (aa X) (et (dz aJ) (et (aa aO) (et (aa aC) (et (dz aS) (et (aa aY) (et (aa aP) (et (dz bi) (et (aa bv) (et (aa aZ) (et (dz bz) (et (aa bF) (et (aa bA) (ip bB))))))))))))))))))))))))
 exact⟨rfl,jD⟩
 refine jF bB (zm (bN (yL (yK (Kz (.int .i64 8) (Mz rfl (WL.nil (zx [(8, .int .i64 8),(7, .int .i64 9),(6, .slice d 9 9),(2, .bool false),(1, .pointer (some ⟨b,0,none⟩))] ⟨rfl,rfl,rfl,rfl,rfl,trivial⟩ (sr (Kz (.bool true) (nt (yJ (jt (sk (yJ (bo (sr ?_)))))))))))))))))
 have gX:([113,98,116,108,118,101,109,97,110]:List UInt8)[8]? =some 110:=rfl
 refine fw (.pointer (some ⟨ab d,ao d+8 *1,none⟩)) (yZ (bW) rfl rfl ((bL.rds (i:=0) rfl).addr (i:=8) (by omega)) (by omega)) (fw (.int .u8 110) (y5 rfl (bn.one Tryz.isAgg5 (((bL.rds (i:=0) rfl).elem ay gX (by decide)).at_ (k:=0) rfl))) (Ar rfl (Kz (.pointer (some ⟨b,0,none⟩)) (Lz (.int .i64 a.ae) bL 1 Tryz.isAgg3 (Mz rfl ?_)))))
 obtain⟨S,bO⟩:∃ q,av a.ae (110:UInt8)=q:=⟨_,rfl⟩
 obtain⟨mh,gY,kY,gZ,kZ⟩:=yP bL
 refine cl Tryz.call73 (gM _ _ a.ae (110:UInt8) S gY bO) ?_
 rintro _ mi ⟨rfl,ib⟩
 have dY:=gZ _ _ ib
 refine Kz (.bool (!S)) (Mz rfl ?_)
 refine zz (ι:=Bool) 6 (fun i=> [(23, .bool i),(17, .bool (!S)),(16, .bool (!S)),(15, .bool S),(14, .int .u8 110),(13, .int .i64 a.ae),(12, .pointer (some ⟨b,0,none⟩)),(4, .int .u8 110),(11, .int .u8 110),(10, .pointer (some ⟨ab d,ao d+8 *1,none⟩)),(9, .bool true),(8, .int .i64 8),(7, .int .i64 9),(6, .slice d 9 9),(2, .bool false),(1, .pointer (some ⟨b,0,none⟩))]) (fun i w'=>Own w D w' [row d 9 9 (List.flatMap eB ([113,98,116,108,118,101,109,97,110])) 5 1,blk b (aM a h j l m n o) 29]∧((if S=true then false else decide (¬ (((a.xN:Nat):Int)=0)))=i)) ?_ ?_
 intro dZ
 rcases BL (S) with N | N
 refine Sz (cn N) (Sz (cn N) (Sz (cn N) (Sz (cn N) (Sz (cn N) (fw (.bool false) (yM rfl (cn N) rfl) ?_)))))
 have jE:=dY.pk [0,1]
 exact dZ false _ _ ⟨jE,(show (if S=true then false else decide (¬ (((a.xN:Nat):Int)=0)))=false from ip N)⟩ ⟨rfl,rfl,rfl,rfl,rfl,rfl,rfl,rfl,rfl,rfl,rfl,rfl,rfl,rfl,rfl,rfl,trivial⟩
 refine gw (.int .u8 110) (cn N) (yO rfl) ?_
 refine zC rfl rfl (cn N) rfl (zf Tryz.call47 rfl ?_ (fun _ _ k=>k))
 refine yR (args:= [.pointer (some ⟨b,0,none⟩), .int .u8 110]) Tryz.func47 rfl rfl rfl ?_
 show Wp _ _ _ [(0, .pointer (some ⟨b,0,none⟩)),(1, .int .u8 110)] _ _
 refine sr (An rfl (yJ (sr (Mn rfl (bo (sr (Kz (.bool false) (An rfl (jf (sr (Kz (.bool false) (An rfl (jf (sr (Kz (.bool false) (An rfl (jf (sr (Kz (.bool false) (An rfl (jf ?_)))))))))))))))))))))
 refine sr (Kz (.bool false) (An rfl (jf (sr (Kz (.bool false) (An rfl (jf (sr (Kz (.bool false) (An rfl (jf (sr (Kz (.bool false) (An rfl (jf (sr (Kz (.bool true) (An rfl (jt (sr (Mz rfl (Kz (.pointer (some ⟨b,0,none⟩)) (Kz (.pointer (some ⟨b,14,none⟩)) ?_)))))))))))))))))))))))
 refine An rfl (rt (bR (tR (rs (Gz (.pointer (some ⟨b,14,none⟩)) (cn N) (Gl (.int .u64 ((a.xN:Nat):Int)) (cn N) dY 1 Tryz.isAgg22 (gw (.bool (decide (¬ (((a.xN:Nat):Int)=0)))) (cn N) (za (e:= !(decide (((a.xN:Nat):Int)=0))) yk decide_not.symm) (fw (.bool (decide (¬ (((a.xN:Nat):Int)=0)))) (yN rfl (cn N) rfl) ?_))))))))
 have jG:=dY.pk [0,1]
 exact dZ (decide (¬ (((a.xN:Nat):Int)=0))) _ _ ⟨jG,(show (if S=true then false else decide (¬ (((a.xN:Nat):Int)=0)))=decide (¬ (((a.xN:Nat):Int)=0)) from dz N)⟩ ⟨rfl,rfl,rfl,rfl,rfl,rfl,rfl,rfl,rfl,rfl,rfl,rfl,rfl,rfl,rfl,rfl,trivial⟩
 rintro d9 mo ⟨fO,bG⟩
 show WL _ _ _ (List.drop 6 _) _ [(23, .bool d9),(17, .bool (!S)),(16, .bool (!S)),(15, .bool S),(14, .int .u8 110),(13, .int .i64 a.ae),(12, .pointer (some ⟨b,0,none⟩)),(4, .int .u8 110),(11, .int .u8 110),(10, .pointer (some ⟨ab d,ao d+8 *1,none⟩)),(9, .bool true),(8, .int .i64 8),(7, .int .i64 9),(6, .slice d 9 9),(2, .bool false),(1, .pointer (some ⟨b,0,none⟩))] _
 replace bG:(if S=true then false else decide (¬ (((a.xN:Nat):Int)=0)))=d9:=bG
 refine nt ?_
 rcases BL (d9) with bM | bM
 refine jT bM (sr (An rfl (rt (bR (tR (tR (bR (tR (rs ?_)))))))))
 have jI:=fO.pk []
 obtain rfl:_=false:=hr.symm.trans (et (aa ax) (et (aa ak) (et (dz aU) (et (aa aH) (et (aa az) (et (dz bq) (et (aa aQ) (et (aa aI) (et (dz bu) (et (aa bg) (et (aa X) (et (dz aJ) (et (aa aO) (et (aa aC) (et (dz aS) (et (aa aY) (et (aa aP) (et (dz bi) (et (aa bv) (et (aa aZ) (et (dz bz) (et (aa bF) (et (aa bA) (et (dz bB) (et (aa bO) (et (aa bG) (ip bM)))))))))))))))))))))))))))
 exact⟨rfl,jI⟩
 refine jF bM (zm (bN (yL (yK (Kz (.int .i64 9) (Mz rfl (WL.nil (zx [(8, .int .i64 9),(7, .int .i64 9),(6, .slice d 9 9),(2, .bool false),(1, .pointer (some ⟨b,0,none⟩))] ⟨rfl,rfl,rfl,rfl,rfl,trivial⟩ (sr (Kz (.bool false) (nt (yJ (jf (Wp.exit (yV (yV (y8 (yL (yJ ?_)))))))))))))))))))
 have dA:=fO.pk [1]
 refine yK (Kz (.pointer (some ⟨b,3,none⟩)) (Lz (.int .i64 a.aQ) dA 0 Tryz.isAgg3 (Kz (.bool (decide (a.aQ=0))) (Mz rfl ?_))))
 refine zz (ι:=Bool) 9 (fun i=> [(37, .bool i),(28, .bool (decide (a.aQ=0))),(27, .bool (decide (a.aQ=0))),(26, .int .i64 a.aQ),(25, .pointer (some ⟨b,3,none⟩)),(9, .bool false),(8, .int .i64 9),(7, .int .i64 9),(6, .slice d 9 9),(2, .bool false),(1, .pointer (some ⟨b,0,none⟩))]) (fun i w'=>Own w D w' [blk b (aM a h j l m n o) 29]∧((if a.aQ=0 then bnd (av a.ae (99:UInt8)) fun Y=>if Y=true then true else decide (a.bu=0) else false)=i)) ?_ ?_
 intro bP
 by_cases F:a.aQ=0
 refine Gz (.pointer (some ⟨b,0,none⟩)) (dT F) (Gl (.int .i64 a.ae) (dT F) dA 0 Tryz.isAgg3 ?_)
 obtain⟨ed,bQ⟩:∃ q,av a.ae (99:UInt8)=q:=⟨_,rfl⟩
 obtain⟨mq,ic,lc,ig,lg⟩:=yP dA
 refine jM (dT F) Tryz.call73 (gM _ _ a.ae (99:UInt8) ed ic bQ) ?_
 rintro _ mr ⟨rfl,ik⟩
 have ek:=ig _ _ ik
 refine gw (.bool ed) (dT F) (yO rfl) ?_
 rcases BL (ed) with aD | aD
 refine Sz aD (Sz aD (Sz aD (gw (.bool true) (dT F) (yN rfl aD rfl) (fw (.bool true) (yN rfl (dT F) rfl) ?_))))
 have jJ:=ek.pk [0]
 exact bP true _ _ ⟨jJ,(show (if a.aQ=0 then bnd (av a.ae (99:UInt8)) fun Y=>if Y=true then true else decide (a.bu=0) else false)=true from et (ip F) (et (aa bQ) (ip aD)))⟩ ⟨rfl,rfl,rfl,rfl,rfl,rfl,rfl,rfl,rfl,rfl,rfl,trivial⟩
 refine Gz (.pointer (some ⟨b,4,none⟩)) aD (Gl (.int .i64 a.bu) aD ek 0 Tryz.isAgg3 (Gz (.bool (decide (a.bu=0))) aD (gw (.bool (decide (a.bu=0))) (dT F) (yM rfl aD rfl) (fw (.bool (decide (a.bu=0))) (yN rfl (dT F) rfl) ?_))))
 have jK:=ek.pk [0]
 exact bP (decide (a.bu=0)) _ _ ⟨jK,(show (if a.aQ=0 then bnd (av a.ae (99:UInt8)) fun Y=>if Y=true then true else decide (a.bu=0) else false)=decide (a.bu=0) from et (ip F) (et (aa bQ) (dz aD)))⟩ ⟨rfl,rfl,rfl,rfl,rfl,rfl,rfl,rfl,rfl,rfl,rfl,trivial⟩
 refine Sz (dF F) (Sz (dF F) (Sz (dF F) (Sz (dF F) (yX rfl rfl rfl (yX rfl rfl rfl (yX rfl rfl rfl (Sz (dF F) (fw (.bool false) (yM rfl (dF F) rfl) ?_))))))))
 have jL:=dA.pk [0]
 exact bP false _ _ ⟨jL,(show (if a.aQ=0 then bnd (av a.ae (99:UInt8)) fun Y=>if Y=true then true else decide (a.bu=0) else false)=false from iN F)⟩ ⟨rfl,rfl,rfl,rfl,rfl,rfl,rfl,rfl,rfl,rfl,rfl,trivial⟩
 rintro f mD ⟨eD,bS⟩
 show WL _ _ _ (List.drop 9 _) _ [(37, .bool f),(28, .bool (decide (a.aQ=0))),(27, .bool (decide (a.aQ=0))),(26, .int .i64 a.aQ),(25, .pointer (some ⟨b,3,none⟩)),(9, .bool false),(8, .int .i64 9),(7, .int .i64 9),(6, .slice d 9 9),(2, .bool false),(1, .pointer (some ⟨b,0,none⟩))] _
 replace bS:(if a.aQ=0 then bnd (av a.ae (99:UInt8)) fun Y=>if Y=true then true else decide (a.bu=0) else false)=f:=bS
 refine Mz rfl ?_
 refine zz (ι:=Bool) 9 (fun i=> [(47, .bool i),(38, .bool f),(37, .bool f),(28, .bool (decide (a.aQ=0))),(27, .bool (decide (a.aQ=0))),(26, .int .i64 a.aQ),(25, .pointer (some ⟨b,3,none⟩)),(9, .bool false),(8, .int .i64 9),(7, .int .i64 9),(6, .slice d 9 9),(2, .bool false),(1, .pointer (some ⟨b,0,none⟩))]) (fun i w'=>Own w D w' [blk b (aM a h j l m n o) 29]∧((if f=true then bnd (av a.ae (112:UInt8)) fun Z=>if Z=true then true else decide (a.bO=0) else false)=i)) ?_ ?_
 intro bT
 rcases BL (f) with s | s
 refine Gz (.pointer (some ⟨b,0,none⟩)) s (Gl (.int .i64 a.ae) s eD 0 Tryz.isAgg3 ?_)
 obtain⟨eG,bU⟩:∃ q,av a.ae (112:UInt8)=q:=⟨_,rfl⟩
 obtain⟨mE,il,lh,iq,ll⟩:=yP eD
 refine zC rfl rfl s rfl (zf Tryz.call73 rfl (gM _ _ a.ae (112:UInt8) eG il bU) ?_)
 rintro _ mF ⟨rfl,iw⟩
 have eH:=iq _ _ iw
 refine zy (v:= .bool eG) rfl rfl s rfl (yO rfl) ?_
 rcases BL (eG) with aF | aF
 refine Sz aF (Sz aF (Sz aF (zy (v:= .bool true) rfl rfl s rfl (yN rfl aF rfl) (fw (.bool true) (yN rfl s rfl) ?_))))
 have jN:=eH.pk [0]
 exact bT true _ _ ⟨jN,(show (if f=true then bnd (av a.ae (112:UInt8)) fun Z=>if Z=true then true else decide (a.bO=0) else false)=true from et (ip s) (et (aa bU) (ip aF)))⟩ ⟨rfl,rfl,rfl,rfl,rfl,rfl,rfl,rfl,rfl,rfl,rfl,rfl,rfl,trivial⟩
 refine Gz (.pointer (some ⟨b,5,none⟩)) aF (Gl (.int .i64 a.bO) aF eH 0 Tryz.isAgg3 (Gz (.bool (decide (a.bO=0))) aF (zy (v:= .bool (decide (a.bO=0))) rfl rfl s rfl (yM rfl aF rfl) (fw (.bool (decide (a.bO=0))) (yN rfl s rfl) ?_))))
 have jO:=eH.pk [0]
 exact bT (decide (a.bO=0)) _ _ ⟨jO,(show (if f=true then bnd (av a.ae (112:UInt8)) fun Z=>if Z=true then true else decide (a.bO=0) else false)=decide (a.bO=0) from et (ip s) (et (aa bU) (dz aF)))⟩ ⟨rfl,rfl,rfl,rfl,rfl,rfl,rfl,rfl,rfl,rfl,rfl,rfl,rfl,trivial⟩
 refine Sz s (Sz s (Sz s (Sz s (yX rfl rfl rfl (yX rfl rfl rfl (yX rfl rfl rfl (Sz s (fw (.bool false) (yM rfl s rfl) ?_))))))))
 have jP:=eD.pk [0]
 exact bT false _ _ ⟨jP,(show (if f=true then bnd (av a.ae (112:UInt8)) fun Z=>if Z=true then true else decide (a.bO=0) else false)=false from dz s)⟩ ⟨rfl,rfl,rfl,rfl,rfl,rfl,rfl,rfl,rfl,rfl,rfl,rfl,rfl,trivial⟩
 rintro g mG ⟨eO,bV⟩
 show WL _ _ _ (List.drop 9 _) _ [(47, .bool g),(38, .bool f),(37, .bool f),(28, .bool (decide (a.aQ=0))),(27, .bool (decide (a.aQ=0))),(26, .int .i64 a.aQ),(25, .pointer (some ⟨b,3,none⟩)),(9, .bool false),(8, .int .i64 9),(7, .int .i64 9),(6, .slice d 9 9),(2, .bool false),(1, .pointer (some ⟨b,0,none⟩))] _
 replace bV:(if f=true then bnd (av a.ae (112:UInt8)) fun Z=>if Z=true then true else decide (a.bO=0) else false)=g:=bV
 refine Mz rfl ?_
 refine zz (ι:=Bool) 9 (fun i=> [(57, .bool i),(48, .bool g),(47, .bool g),(38, .bool f),(37, .bool f),(28, .bool (decide (a.aQ=0))),(27, .bool (decide (a.aQ=0))),(26, .int .i64 a.aQ),(25, .pointer (some ⟨b,3,none⟩)),(9, .bool false),(8, .int .i64 9),(7, .int .i64 9),(6, .slice d 9 9),(2, .bool false),(1, .pointer (some ⟨b,0,none⟩))]) (fun i w'=>Own w D w' [blk b (aM a h j l m n o) 29]∧((if g=true then bnd (av a.ae (102:UInt8)) fun ae=>if ae=true then true else !a.bV else false)=i)) ?_ ?_
 intro bX
 rcases BL (g) with t | t
 refine Gz (.pointer (some ⟨b,0,none⟩)) t (Gl (.int .i64 a.ae) t eO 0 Tryz.isAgg3 ?_)
 obtain⟨eP,bY⟩:∃ q,av a.ae (102:UInt8)=q:=⟨_,rfl⟩
 obtain⟨mH,iy,lm,iA,lq⟩:=yP eO
 refine zC rfl rfl t rfl (zf Tryz.call73 rfl (gM _ _ a.ae (102:UInt8) eP iy bY) ?_)
 rintro _ mI ⟨rfl,iB⟩
 have eQ:=iA _ _ iB
 refine zy (v:= .bool eP) rfl rfl t rfl (yO rfl) ?_
 rcases BL (eP) with aG | aG
 refine Sz aG (Sz aG (Sz aG (zy (v:= .bool true) rfl rfl t rfl (yN rfl aG rfl) (fw (.bool true) (yN rfl t rfl) ?_))))
 have jQ:=eQ.pk [0]
 exact bX true _ _ ⟨jQ,(show (if g=true then bnd (av a.ae (102:UInt8)) fun ae=>if ae=true then true else !a.bV else false)=true from et (ip t) (et (aa bY) (ip aG)))⟩ ⟨rfl,rfl,rfl,rfl,rfl,rfl,rfl,rfl,rfl,rfl,rfl,rfl,rfl,rfl,rfl,trivial⟩
 refine Gz (.pointer (some ⟨b,15,none⟩)) aG (Gl (.bool a.bV) aG eQ 0 Tryz.isAgg4 (Gz (.bool (!a.bV)) aG (zy (v:= .bool (!a.bV)) rfl rfl t rfl (yM rfl aG rfl) (fw (.bool (!a.bV)) (yN rfl t rfl) ?_))))
 have jR:=eQ.pk [0]
 exact bX (!a.bV) _ _ ⟨jR,(show (if g=true then bnd (av a.ae (102:UInt8)) fun ae=>if ae=true then true else !a.bV else false)= !a.bV from et (ip t) (et (aa bY) (dz aG)))⟩ ⟨rfl,rfl,rfl,rfl,rfl,rfl,rfl,rfl,rfl,rfl,rfl,rfl,rfl,rfl,rfl,trivial⟩
 refine Sz t (Sz t (Sz t (Sz t (yX rfl rfl rfl (yX rfl rfl rfl (yX rfl rfl rfl (Sz t (fw (.bool false) (yM rfl t rfl) ?_))))))))
 have jS:=eO.pk [0]
 exact bX false _ _ ⟨jS,(show (if g=true then bnd (av a.ae (102:UInt8)) fun ae=>if ae=true then true else !a.bV else false)=false from dz t)⟩ ⟨rfl,rfl,rfl,rfl,rfl,rfl,rfl,rfl,rfl,rfl,rfl,rfl,rfl,rfl,rfl,trivial⟩
 rintro p mJ ⟨eT,bZ⟩
 show WL _ _ _ (List.drop 9 _) _ [(57, .bool p),(48, .bool g),(47, .bool g),(38, .bool f),(37, .bool f),(28, .bool (decide (a.aQ=0))),(27, .bool (decide (a.aQ=0))),(26, .int .i64 a.aQ),(25, .pointer (some ⟨b,3,none⟩)),(9, .bool false),(8, .int .i64 9),(7, .int .i64 9),(6, .slice d 9 9),(2, .bool false),(1, .pointer (some ⟨b,0,none⟩))] _
 replace bZ:(if g=true then bnd (av a.ae (102:UInt8)) fun ae=>if ae=true then true else !a.bV else false)=p:=bZ
 refine Mz rfl ?_
 refine zz (ι:=Bool) 10 (fun i=> [(68, .bool i),(58, .bool p),(57, .bool p),(48, .bool g),(47, .bool g),(38, .bool f),(37, .bool f),(28, .bool (decide (a.aQ=0))),(27, .bool (decide (a.aQ=0))),(26, .int .i64 a.aQ),(25, .pointer (some ⟨b,3,none⟩)),(9, .bool false),(8, .int .i64 9),(7, .int .i64 9),(6, .slice d 9 9),(2, .bool false),(1, .pointer (some ⟨b,0,none⟩))]) (fun i w'=>Own w D w' [blk b (aM a h j l m n o) 29]∧((if p=true then bnd (av a.ae (114:UInt8)) fun ag=>if ag=true then true else decide ((a.aG.aD=([]))∧(a.aG.aH=([]))) else false)=i)) ?_ ?_
 intro cu
 rcases BL (p) with z | z
 refine Gz (.pointer (some ⟨b,0,none⟩)) z (Gl (.int .i64 a.ae) z eT 0 Tryz.isAgg3 ?_)
 obtain⟨eU,cz⟩:∃ q,av a.ae (114:UInt8)=q:=⟨_,rfl⟩
 obtain⟨mK,iC,lu,iD,lv⟩:=yP eT
 refine zC rfl rfl z rfl (zf Tryz.call73 rfl (gM _ _ a.ae (114:UInt8) eU iC cz) ?_)
 rintro _ mM ⟨rfl,iE⟩
 have eX:=iD _ _ iE
 refine zy (v:= .bool eU) rfl rfl z rfl (yO rfl) ?_
 rcases BL (eU) with T | T
 refine Sz T (Sz T (Sz T (Sz T (zy (v:= .bool true) rfl rfl z rfl (yN rfl T rfl) (fw (.bool true) (yN rfl z rfl) ?_)))))
 have jU:=eX.pk [0]
 exact cu true _ _ ⟨jU,(show (if p=true then bnd (av a.ae (114:UInt8)) fun ag=>if ag=true then true else decide ((a.aG.aD=([]))∧(a.aG.aH=([]))) else false)=true from et (ip z) (et (aa cz) (ip T)))⟩ ⟨rfl,rfl,rfl,rfl,rfl,rfl,rfl,rfl,rfl,rfl,rfl,rfl,rfl,rfl,rfl,rfl,rfl,trivial⟩
 refine Gz (.pointer (some ⟨b,16,none⟩)) T (Ga (bC.cells a.aG) T eX 0 Tryz.isAgg24 Tryz.sizeOf24 (Gz (.agg #[.string ⟨List.toArray ([])⟩, .string ⟨List.toArray ([])⟩]) T (zy (v:= .bool (decide ((a.aG.aD=([]))∧(a.aG.aH=([]))))) rfl rfl T rfl (z8 rfl rfl (by kernel_rfl) rfl (fD.struct Tryz.underlying24 (by kernel_rfl) (zK (eF.cons (u:= .string ⟨List.toArray a.aG.aD⟩) (v:= .string ⟨List.toArray ([])⟩) (by decide) (fun _=>by kernel_rfl) (fun _=>by kernel_rfl) (fD.string Tryz.underlying9) (eF.cons (u:= .string ⟨List.toArray a.aG.aH⟩) (v:= .string ⟨List.toArray ([])⟩) (by decide) (fun _=>by kernel_rfl) (fun _=>by kernel_rfl) (fD.string Tryz.underlying9) (eF.nil.up (BJ _)))) ((congrArg (decide (a.aG.aD=([])) && ·) jH).trans eu)))) (zy (v:= .bool (decide ((a.aG.aD=([]))∧(a.aG.aH=([]))))) rfl rfl z rfl (yM rfl T rfl) (fw (.bool (decide ((a.aG.aD=([]))∧(a.aG.aH=([]))))) (yN rfl z rfl) ?_)))))
 have jV:=eX.pk [0]
 exact cu (decide ((a.aG.aD=([]))∧(a.aG.aH=([])))) _ _ ⟨jV,(show (if p=true then bnd (av a.ae (114:UInt8)) fun ag=>if ag=true then true else decide ((a.aG.aD=([]))∧(a.aG.aH=([]))) else false)=decide ((a.aG.aD=([]))∧(a.aG.aH=([]))) from et (ip z) (et (aa cz) (dz T)))⟩ ⟨rfl,rfl,rfl,rfl,rfl,rfl,rfl,rfl,rfl,rfl,rfl,rfl,rfl,rfl,rfl,rfl,rfl,trivial⟩
 refine Sz z (Sz z (Sz z (Sz z (yX rfl rfl rfl (yX rfl rfl rfl (yX rfl rfl rfl (yX rfl rfl rfl (Sz z (fw (.bool false) (yM rfl z rfl) ?_)))))))))
 have jW:=eT.pk [0]
 exact cu false _ _ ⟨jW,(show (if p=true then bnd (av a.ae (114:UInt8)) fun ag=>if ag=true then true else decide ((a.aG.aD=([]))∧(a.aG.aH=([]))) else false)=false from dz z)⟩ ⟨rfl,rfl,rfl,rfl,rfl,rfl,rfl,rfl,rfl,rfl,rfl,rfl,rfl,rfl,rfl,rfl,rfl,trivial⟩
 rintro r mO ⟨eY,cB⟩
 show WL _ _ _ (List.drop 10 _) _ [(68, .bool r),(58, .bool p),(57, .bool p),(48, .bool g),(47, .bool g),(38, .bool f),(37, .bool f),(28, .bool (decide (a.aQ=0))),(27, .bool (decide (a.aQ=0))),(26, .int .i64 a.aQ),(25, .pointer (some ⟨b,3,none⟩)),(9, .bool false),(8, .int .i64 9),(7, .int .i64 9),(6, .slice d 9 9),(2, .bool false),(1, .pointer (some ⟨b,0,none⟩))] _
 replace cB:(if p=true then bnd (av a.ae (114:UInt8)) fun ag=>if ag=true then true else decide ((a.aG.aD=([]))∧(a.aG.aH=([]))) else false)=r:=cB
 refine Mz rfl ?_
 refine zz (ι:=Bool) 10 (fun i=> [(79, .bool i),(69, .bool r),(68, .bool r),(58, .bool p),(57, .bool p),(48, .bool g),(47, .bool g),(38, .bool f),(37, .bool f),(28, .bool (decide (a.aQ=0))),(27, .bool (decide (a.aQ=0))),(26, .int .i64 a.aQ),(25, .pointer (some ⟨b,3,none⟩)),(9, .bool false),(8, .int .i64 9),(7, .int .i64 9),(6, .slice d 9 9),(2, .bool false),(1, .pointer (some ⟨b,0,none⟩))]) (fun i w'=>Own w D w' [blk b (aM a h j l m n o) 29]∧((if r=true then bnd (av a.ae (111:UInt8)) fun ah=>if ah=true then true else decide (((a.ax.ls.length:Nat):Int)=0) else false)=i)) ?_ ?_
 intro cK
 rcases BL (r) with B | B
 refine Gz (.pointer (some ⟨b,0,none⟩)) B (Gl (.int .i64 a.ae) B eY 0 Tryz.isAgg3 ?_)
 obtain⟨eZ,cZ⟩:∃ q,av a.ae (111:UInt8)=q:=⟨_,rfl⟩
 obtain⟨mP,iF,lw,iG,lC⟩:=yP eY
 refine zC rfl rfl B rfl (zf Tryz.call73 rfl (gM _ _ a.ae (111:UInt8) eZ iF cZ) ?_)
 rintro _ mQ ⟨rfl,iH⟩
 have fe:=iG _ _ iH
 refine zy (v:= .bool eZ) rfl rfl B rfl (yO rfl) ?_
 rcases BL (eZ) with U | U
 refine Sz U (Sz U (Sz U (Sz U (zy (v:= .bool true) rfl rfl B rfl (yN rfl U rfl) (fw (.bool true) (yN rfl B rfl) ?_)))))
 have jX:=fe.pk [0]
 exact cK true _ _ ⟨jX,(show (if r=true then bnd (av a.ae (111:UInt8)) fun ah=>if ah=true then true else decide (((a.ax.ls.length:Nat):Int)=0) else false)=true from et (ip B) (et (aa cZ) (ip U)))⟩ ⟨rfl,rfl,rfl,rfl,rfl,rfl,rfl,rfl,rfl,rfl,rfl,rfl,rfl,rfl,rfl,rfl,rfl,rfl,rfl,trivial⟩
 refine Gz (.pointer (some ⟨b,18,none⟩)) U (Gl (.slice h a.ax.ls.length j) U fe 0 Tryz.isAgg25 (Gz (.int .i64 ((a.ax.ls.length:Nat):Int)) U (Gz (.bool (decide (((a.ax.ls.length:Nat):Int)=0))) U (zy (v:= .bool (decide (((a.ax.ls.length:Nat):Int)=0))) rfl rfl B rfl (yM rfl U rfl) (fw (.bool (decide (((a.ax.ls.length:Nat):Int)=0))) (yN rfl B rfl) ?_)))))
 have jY:=fe.pk [0]
 exact cK (decide (((a.ax.ls.length:Nat):Int)=0)) _ _ ⟨jY,(show (if r=true then bnd (av a.ae (111:UInt8)) fun ah=>if ah=true then true else decide (((a.ax.ls.length:Nat):Int)=0) else false)=decide (((a.ax.ls.length:Nat):Int)=0) from et (ip B) (et (aa cZ) (dz U)))⟩ ⟨rfl,rfl,rfl,rfl,rfl,rfl,rfl,rfl,rfl,rfl,rfl,rfl,rfl,rfl,rfl,rfl,rfl,rfl,rfl,trivial⟩
 refine Sz B (Sz B (Sz B (Sz B (yX rfl rfl rfl (yX rfl rfl rfl (yX rfl rfl rfl (yX rfl rfl rfl (Sz B (fw (.bool false) (yM rfl B rfl) ?_)))))))))
 have jZ:=eY.pk [0]
 exact cK false _ _ ⟨jZ,(show (if r=true then bnd (av a.ae (111:UInt8)) fun ah=>if ah=true then true else decide (((a.ax.ls.length:Nat):Int)=0) else false)=false from dz B)⟩ ⟨rfl,rfl,rfl,rfl,rfl,rfl,rfl,rfl,rfl,rfl,rfl,rfl,rfl,rfl,rfl,rfl,rfl,rfl,rfl,trivial⟩
 rintro G mR ⟨fo,df⟩
 show WL _ _ _ (List.drop 10 _) _ [(79, .bool G),(69, .bool r),(68, .bool r),(58, .bool p),(57, .bool p),(48, .bool g),(47, .bool g),(38, .bool f),(37, .bool f),(28, .bool (decide (a.aQ=0))),(27, .bool (decide (a.aQ=0))),(26, .int .i64 a.aQ),(25, .pointer (some ⟨b,3,none⟩)),(9, .bool false),(8, .int .i64 9),(7, .int .i64 9),(6, .slice d 9 9),(2, .bool false),(1, .pointer (some ⟨b,0,none⟩))] _
 replace df:(if r=true then bnd (av a.ae (111:UInt8)) fun ah=>if ah=true then true else decide (((a.ax.ls.length:Nat):Int)=0) else false)=G:=df
 refine Mz rfl ?_
 refine zz (ι:=Bool) 10 (fun i=> [(90, .bool i),(80, .bool G),(79, .bool G),(69, .bool r),(68, .bool r),(58, .bool p),(57, .bool p),(48, .bool g),(47, .bool g),(38, .bool f),(37, .bool f),(28, .bool (decide (a.aQ=0))),(27, .bool (decide (a.aQ=0))),(26, .int .i64 a.aQ),(25, .pointer (some ⟨b,3,none⟩)),(9, .bool false),(8, .int .i64 9),(7, .int .i64 9),(6, .slice d 9 9),(2, .bool false),(1, .pointer (some ⟨b,0,none⟩))]) (fun i w'=>Own w D w' [blk b (aM a h j l m n o) 29]∧((if G=true then bnd (av a.ae (115:UInt8)) fun ai=>if ai=true then true else decide (((a.ah.ls.length:Nat):Int)=0) else false)=i)) ?_ ?_
 intro dh
 rcases BL (G) with C | C
 refine Gz (.pointer (some ⟨b,0,none⟩)) C (Gl (.int .i64 a.ae) C fo 0 Tryz.isAgg3 ?_)
 obtain⟨fq,di⟩:∃ q,av a.ae (115:UInt8)=q:=⟨_,rfl⟩
 obtain⟨mU,iI,lD,iJ,lF⟩:=yP fo
 refine zC rfl rfl C rfl (zf Tryz.call73 rfl (gM _ _ a.ae (115:UInt8) fq iI di) ?_)
 rintro _ mV ⟨rfl,iK⟩
 have fu:=iJ _ _ iK
 refine zy (v:= .bool fq) rfl rfl C rfl (yO rfl) ?_
 rcases BL (fq) with V | V
 refine Sz V (Sz V (Sz V (Sz V (zy (v:= .bool true) rfl rfl C rfl (yN rfl V rfl) (fw (.bool true) (yN rfl C rfl) ?_)))))
 have j3:=fu.pk [0]
 exact dh true _ _ ⟨j3,(show (if G=true then bnd (av a.ae (115:UInt8)) fun ai=>if ai=true then true else decide (((a.ah.ls.length:Nat):Int)=0) else false)=true from et (ip C) (et (aa di) (ip V)))⟩ ⟨rfl,rfl,rfl,rfl,rfl,rfl,rfl,rfl,rfl,rfl,rfl,rfl,rfl,rfl,rfl,rfl,rfl,rfl,rfl,rfl,rfl,trivial⟩
 refine Gz (.pointer (some ⟨b,19,none⟩)) V (Gl (.slice l a.ah.ls.length m) V fu 0 Tryz.isAgg26 (Gz (.int .i64 ((a.ah.ls.length:Nat):Int)) V (Gz (.bool (decide (((a.ah.ls.length:Nat):Int)=0))) V (zy (v:= .bool (decide (((a.ah.ls.length:Nat):Int)=0))) rfl rfl C rfl (yM rfl V rfl) (fw (.bool (decide (((a.ah.ls.length:Nat):Int)=0))) (yN rfl C rfl) ?_)))))
 have j4:=fu.pk [0]
 exact dh (decide (((a.ah.ls.length:Nat):Int)=0)) _ _ ⟨j4,(show (if G=true then bnd (av a.ae (115:UInt8)) fun ai=>if ai=true then true else decide (((a.ah.ls.length:Nat):Int)=0) else false)=decide (((a.ah.ls.length:Nat):Int)=0) from et (ip C) (et (aa di) (dz V)))⟩ ⟨rfl,rfl,rfl,rfl,rfl,rfl,rfl,rfl,rfl,rfl,rfl,rfl,rfl,rfl,rfl,rfl,rfl,rfl,rfl,rfl,rfl,trivial⟩
 refine Sz C (Sz C (Sz C (Sz C (yX rfl rfl rfl (yX rfl rfl rfl (yX rfl rfl rfl (yX rfl rfl rfl (Sz C (fw (.bool false) (yM rfl C rfl) ?_)))))))))
 have j5:=fo.pk [0]
 exact dh false _ _ ⟨j5,(show (if G=true then bnd (av a.ae (115:UInt8)) fun ai=>if ai=true then true else decide (((a.ah.ls.length:Nat):Int)=0) else false)=false from dz C)⟩ ⟨rfl,rfl,rfl,rfl,rfl,rfl,rfl,rfl,rfl,rfl,rfl,rfl,rfl,rfl,rfl,rfl,rfl,rfl,rfl,rfl,rfl,trivial⟩
 rintro au mW ⟨fA,dm⟩
 show WL _ _ _ (List.drop 10 _) _ [(90, .bool au),(80, .bool G),(79, .bool G),(69, .bool r),(68, .bool r),(58, .bool p),(57, .bool p),(48, .bool g),(47, .bool g),(38, .bool f),(37, .bool f),(28, .bool (decide (a.aQ=0))),(27, .bool (decide (a.aQ=0))),(26, .int .i64 a.aQ),(25, .pointer (some ⟨b,3,none⟩)),(9, .bool false),(8, .int .i64 9),(7, .int .i64 9),(6, .slice d 9 9),(2, .bool false),(1, .pointer (some ⟨b,0,none⟩))] _
 replace dm:(if G=true then bnd (av a.ae (115:UInt8)) fun ai=>if ai=true then true else decide (((a.ah.ls.length:Nat):Int)=0) else false)=au:=dm
 refine Mz rfl ?_
 refine zz (ι:=Bool) 10 (fun i=> [(101, .bool i),(91, .bool au),(90, .bool au),(80, .bool G),(79, .bool G),(69, .bool r),(68, .bool r),(58, .bool p),(57, .bool p),(48, .bool g),(47, .bool g),(38, .bool f),(37, .bool f),(28, .bool (decide (a.aQ=0))),(27, .bool (decide (a.aQ=0))),(26, .int .i64 a.aQ),(25, .pointer (some ⟨b,3,none⟩)),(9, .bool false),(8, .int .i64 9),(7, .int .i64 9),(6, .slice d 9 9),(2, .bool false),(1, .pointer (some ⟨b,0,none⟩))]) (fun i w'=>Own w D w' [blk b (aM a h j l m n o) 29]∧((if au=true then bnd (av a.ae (119:UInt8)) fun aj=>if aj=true then true else decide (((a.ai.ls.length:Nat):Int)=0) else false)=i)) ?_ ?_
 intro dn
 rcases BL (au) with E | E
 refine Gz (.pointer (some ⟨b,0,none⟩)) E (Gl (.int .i64 a.ae) E fA 0 Tryz.isAgg3 ?_)
 obtain⟨fB,dw⟩:∃ q,av a.ae (119:UInt8)=q:=⟨_,rfl⟩
 obtain⟨mX,iL,lG,iM,lH⟩:=yP fA
 refine zC rfl rfl E rfl (zf Tryz.call73 rfl (gM _ _ a.ae (119:UInt8) fB iL dw) ?_)
 rintro _ mY ⟨rfl,iO⟩
 have fC:=iM _ _ iO
 refine zy (v:= .bool fB) rfl rfl E rfl (yO rfl) ?_
 rcases BL (fB) with W | W
 refine Sz W (Sz W (Sz W (Sz W (zy (v:= .bool true) rfl rfl E rfl (yN rfl W rfl) (fw (.bool true) (yN rfl E rfl) ?_)))))
 have j6:=fC.pk [0]
 exact dn true _ _ ⟨j6,(show (if au=true then bnd (av a.ae (119:UInt8)) fun aj=>if aj=true then true else decide (((a.ai.ls.length:Nat):Int)=0) else false)=true from et (ip E) (et (aa dw) (ip W)))⟩ ⟨rfl,rfl,rfl,rfl,rfl,rfl,rfl,rfl,rfl,rfl,rfl,rfl,rfl,rfl,rfl,rfl,rfl,rfl,rfl,rfl,rfl,rfl,rfl,trivial⟩
 refine Gz (.pointer (some ⟨b,20,none⟩)) W (Gl (.slice n a.ai.ls.length o) W fC 0 Tryz.isAgg27 (Gz (.int .i64 ((a.ai.ls.length:Nat):Int)) W (Gz (.bool (decide (((a.ai.ls.length:Nat):Int)=0))) W (zy (v:= .bool (decide (((a.ai.ls.length:Nat):Int)=0))) rfl rfl E rfl (yM rfl W rfl) (fw (.bool (decide (((a.ai.ls.length:Nat):Int)=0))) (yN rfl E rfl) ?_)))))
 have kg:=fC.pk [0]
 exact dn (decide (((a.ai.ls.length:Nat):Int)=0)) _ _ ⟨kg,(show (if au=true then bnd (av a.ae (119:UInt8)) fun aj=>if aj=true then true else decide (((a.ai.ls.length:Nat):Int)=0) else false)=decide (((a.ai.ls.length:Nat):Int)=0) from et (ip E) (et (aa dw) (dz W)))⟩ ⟨rfl,rfl,rfl,rfl,rfl,rfl,rfl,rfl,rfl,rfl,rfl,rfl,rfl,rfl,rfl,rfl,rfl,rfl,rfl,rfl,rfl,rfl,rfl,trivial⟩
 refine Sz E (Sz E (Sz E (Sz E (yX rfl rfl rfl (yX rfl rfl rfl (yX rfl rfl rfl (yX rfl rfl rfl (Sz E (fw (.bool false) (yM rfl E rfl) ?_)))))))))
 have ko:=fA.pk [0]
 exact dn false _ _ ⟨ko,(show (if au=true then bnd (av a.ae (119:UInt8)) fun aj=>if aj=true then true else decide (((a.ai.ls.length:Nat):Int)=0) else false)=false from dz E)⟩ ⟨rfl,rfl,rfl,rfl,rfl,rfl,rfl,rfl,rfl,rfl,rfl,rfl,rfl,rfl,rfl,rfl,rfl,rfl,rfl,rfl,rfl,rfl,rfl,trivial⟩
 rintro fE mZ ⟨kr,dx⟩
 show WL _ _ _ (List.drop 10 _) _ [(101, .bool fE),(91, .bool au),(90, .bool au),(80, .bool G),(79, .bool G),(69, .bool r),(68, .bool r),(58, .bool p),(57, .bool p),(48, .bool g),(47, .bool g),(38, .bool f),(37, .bool f),(28, .bool (decide (a.aQ=0))),(27, .bool (decide (a.aQ=0))),(26, .int .i64 a.aQ),(25, .pointer (some ⟨b,3,none⟩)),(9, .bool false),(8, .int .i64 9),(7, .int .i64 9),(6, .slice d 9 9),(2, .bool false),(1, .pointer (some ⟨b,0,none⟩))] _
 replace dx:(if au=true then bnd (av a.ae (119:UInt8)) fun aj=>if aj=true then true else decide (((a.ai.ls.length:Nat):Int)=0) else false)=fE:=dx
 refine An rfl (rt (rs ?_))
 have ku:=kr.pk []
 obtain rfl:_=fE:=hr.symm.trans (et (aa ax) (et (aa ak) (et (dz aU) (et (aa aH) (et (aa az) (et (dz bq) (et (aa aQ) (et (aa aI) (et (dz bu) (et (aa bg) (et (aa X) (et (dz aJ) (et (aa aO) (et (aa aC) (et (dz aS) (et (aa aY) (et (aa aP) (et (dz bi) (et (aa bv) (et (aa aZ) (et (dz bz) (et (aa bF) (et (aa bA) (et (dz bB) (et (aa bO) (et (aa bG) (et (dz bM) (et (aa bS) (et (aa bV) (et (aa bZ) (et (aa cB) (et (aa df) (et (aa dm) (aa dx))))))))))))))))))))))))))))))))))
 exact⟨rfl,ku⟩
def fV:List aR→Unit ⊕ Bool
  | []=>Sum.inl ()
  | a::c=>bnd (ic a.aL) fun b=>if b=0 then if((a.au.length:Nat):Int) > 16 then Sum.inr (false) else fV c else Sum.inr (false)
def fq:List aP→Unit ⊕ Bool
  | []=>Sum.inl ()
  | a::b=>if((a.au.length:Nat):Int) > 16 then Sum.inr (false) else if((a.ak.ls.length:Nat):Int) > 4 then Sum.inr (false) else rZ (fV a.ak.ls) fun _=>fq b
def il (a:List aP) (b:Int):Bool:=
 if((a.length:Nat):Int) > b then false else lp (fq a) fun _=>true
theorem ko (w:World) (D:Nat→Prop) (p:Option Addr) (n0 M:Nat) (d0:List af) (d:List aP) (O:Int) (r0:Bool) (H:Own w D w []) (P:List.map zh d0=d) (N:Ro w D fun w'=>bD w' 3 p n0 (List.flatMap af.cells d0)) (G:∀ x ∈ d0,Ro w D (fun w'=>bD w' 2 x.ak.A x.ak.ls.length (List.flatMap aR.cells x.ak.ls))∧(x.ak.ls.length≤x.ak.c∧x.ak.ls.length≤9223372036854775807)) (av:n0=d.length) (aS:d.length≤9223372036854775807) (hr:il d O=r0):
    Calls Tryz.prog 31 #[.slice p n0 M, .int .i64 O] w (cO fun v w'=>v= .bool r0∧Own w D w' []):=by
 subst av
 have hdl0:=dG P
 refine yR (args:= [.slice p d.length M, .int .i64 O]) Tryz.func31 rfl rfl rfl ?_
 show Wp _ _ _ [(0, .slice p d.length M),(1, .int .i64 O)] _ _
 refine sr (An rfl (yJ (sr (Mz rfl (Kz (.int .i64 ((d.length:Nat):Int)) (Mz rfl (Kz (.bool (decide (((d.length:Nat):Int) > O))) (nt ?_))))))))
 by_cases n:((d.length:Nat):Int) > O
 refine jT (dT n) (sr (An rfl (rt (tR (rs ?_)))))
 have ax:Own w D w []:=H.pk []
 obtain rfl:_=false:=hr.symm.trans (ip n)
 exact⟨rfl,ax⟩
 refine jF (dF n) (sk (yJ (sr (Mz rfl (Kz (.int .i64 ((d.length:Nat):Int)) (Mn rfl (bo ?_)))))))
 have ay:Own w D w []:=H.pk []
 obtain⟨Q,R⟩:∃ q:Nat→World→Prop,q=fun(i:Nat) w'=>Own w D w' []∧(i≤d.length∧fq d=fq (List.drop i d)):=⟨_,rfl⟩
 have y:∀ {b:Nat} {w':World},Q b w'↔Own w D w' []∧b≤d.length∧fq d=fq (List.drop b d):=by intros; subst R; exact Iff.rfl
 refine Wp.loop (fun i:Nat=> [(4, .bool false),(15, .int .i64 ((i:Nat):Int)),(14, .int .i64 ((d.length:Nat):Int)),(13, .slice p d.length M)]) Q (fun i=>d.length - i) 0 ⟨rfl,rfl,rfl,rfl,trivial⟩ (y.2 ⟨ay,by omega,rfl⟩) ?_
 rintro b aT S
 show Wp _ _ _ [(4, .bool false),(15, .int .i64 ((b:Nat):Int)),(14, .int .i64 ((d.length:Nat):Int)),(13, .slice p d.length M)] _ _
 obtain⟨z,aL,l⟩:=y.1 S
 refine sr (Kz (.bool (decide (((b:Nat):Int) < ((d.length:Nat):Int)))) (nt (yJ ?_)))
 by_cases T:((b:Nat):Int) < ((d.length:Nat):Int)
 obtain⟨a,m⟩:=dV (ls:=d0) (i:=b) af.len (by decide) (z.ro N) (by first | omega | (simp; done) | (simp; omega))
 have U:=mq P m
 have aM:=(G _ (List.mem_of_getElem? m)).2
 have o:=drop_at U
 refine jT (dT T) (sk (yJ (bo (sr (fw (.pointer (some ⟨ab p,ao p+b *3,none⟩)) (yZ (lD) rfl rfl ((z.ro N).addr (i:=b) (by omega)) (by omega)) (fw (.agg (af.cells a).toArray) (y5 rfl (zg (cs:=(af.cells a)) Tryz.isAgg84 Tryz.sizeOf84 ((z.ro N).elem af.len m (by decide)))) ?_))))))
 refine dE [.bool false, .string ⟨List.toArray ([])⟩, .slice none 0 0] 84 z ?_
 intro h aU az
 refine bz (af.cells a) 0 az Tryz.sizeOf84 ?_
 intro aV t
 refine nt (yJ (sr (Kz (.pointer (some ⟨h,1,none⟩)) (Lz (.string ⟨List.toArray a.au⟩) t 0 Tryz.isAgg9 (Kz (.int .i64 ((a.au.length:Nat):Int)) (Kz (.bool (decide (((a.au.length:Nat):Int) > 16))) (Mz rfl ?_)))))))
 by_cases g:((a.au.length:Nat):Int) > 16
 refine Sz (dT g) (Sz (dT g) (Sz (dT g) (Sz (dT g) (fw (.bool true) (yN rfl (dT g) rfl) (nt (jt (sr (An rfl (rt (tR (bR (tR (tR (bR (tR (rs ?_))))))))))))))))
 have aA:=t.pk []
 obtain rfl:_=false:=hr.symm.trans (et (iN n) (iG (et (l) (et (congrArg (fun q=>fq q) o) (ip g)))))
 exact⟨rfl,aA⟩
 refine Gz (.pointer (some ⟨h,2,none⟩)) (dF g) (Gl (.slice a.ak.A a.ak.ls.length a.ak.c) (dF g) t 0 Tryz.isAgg82 (Gz (.int .i64 ((a.ak.ls.length:Nat):Int)) (dF g) (Gz (.bool (decide (((a.ak.ls.length:Nat):Int) > 4))) (dF g) (fw (.bool (decide (((a.ak.ls.length:Nat):Int) > 4))) (yM rfl (dF g) rfl) (nt ?_)))))
 by_cases u:((a.ak.ls.length:Nat):Int) > 4
 refine jT (dT u) (sr (An rfl (rt (tR (bR (tR (tR (bR (tR (rs ?_))))))))))
 have aB:=t.pk []
 obtain rfl:_=false:=hr.symm.trans (et (iN n) (iG (et (l) (et (congrArg (fun q=>fq q) o) (et (iN g) (ip u))))))
 exact⟨rfl,aB⟩
 refine jF (dF u) (sk (sr (Kz (.pointer (some ⟨h,2,none⟩)) (Lz (.slice a.ak.A a.ak.ls.length a.ak.c) t 0 Tryz.isAgg82 (Kz (.int .i64 ((a.ak.ls.length:Nat):Int)) (Mn rfl (bo ?_)))))))
 have aC:=t.pk [0]
 obtain⟨V,W⟩:∃ q:Nat→World→Prop,q=fun(i:Nat) w'=>Own w D w' [blk h (af.cells a) 84]∧(i≤a.ak.ls.length∧fV a.ak.ls=fV (List.drop i a.ak.ls)):=⟨_,rfl⟩
 have B:∀ {f:Nat} {w':World},V f w'↔Own w D w' [blk h (af.cells a) 84]∧f≤a.ak.ls.length∧fV a.ak.ls=fV (List.drop f a.ak.ls):=by intros; subst W; exact Iff.rfl
 refine Wp.loop (fun i:Nat=> [(4, .bool false),(32, .int .i64 ((i:Nat):Int)),(31, .int .i64 ((a.ak.ls.length:Nat):Int)),(30, .slice a.ak.A a.ak.ls.length a.ak.c),(29, .pointer (some ⟨h,2,none⟩)),(28, .bool (decide (((a.ak.ls.length:Nat):Int) > 4))),(27, .bool (decide (((a.ak.ls.length:Nat):Int) > 4))),(26, .int .i64 ((a.ak.ls.length:Nat):Int)),(25, .slice a.ak.A a.ak.ls.length a.ak.c),(24, .pointer (some ⟨h,2,none⟩)),(23, .bool (decide (((a.au.length:Nat):Int) > 16))),(22, .bool (decide (((a.au.length:Nat):Int) > 16))),(21, .int .i64 ((a.au.length:Nat):Int)),(20, .string ⟨List.toArray a.au⟩),(19, .pointer (some ⟨h,1,none⟩)),(6, .pointer (some ⟨h,0,none⟩)),(18, .agg (af.cells a).toArray),(17, .pointer (some ⟨ab p,ao p+b *3,none⟩)),(16, .bool (decide (((b:Nat):Int) < ((d.length:Nat):Int)))),(15, .int .i64 ((b:Nat):Int)),(14, .int .i64 ((d.length:Nat):Int)),(13, .slice p d.length M)]) V (fun i=>a.ak.ls.length - i) 0 ⟨rfl,rfl,rfl,rfl,rfl,rfl,rfl,rfl,rfl,rfl,rfl,rfl,rfl,rfl,rfl,rfl,rfl,rfl,rfl,rfl,rfl,rfl,trivial⟩ (B.2 ⟨aC,by omega,rfl⟩) ?_
 rintro f aW X
 show Wp _ _ _ [(4, .bool false),(32, .int .i64 ((f:Nat):Int)),(31, .int .i64 ((a.ak.ls.length:Nat):Int)),(30, .slice a.ak.A a.ak.ls.length a.ak.c),(29, .pointer (some ⟨h,2,none⟩)),(28, .bool (decide (((a.ak.ls.length:Nat):Int) > 4))),(27, .bool (decide (((a.ak.ls.length:Nat):Int) > 4))),(26, .int .i64 ((a.ak.ls.length:Nat):Int)),(25, .slice a.ak.A a.ak.ls.length a.ak.c),(24, .pointer (some ⟨h,2,none⟩)),(23, .bool (decide (((a.au.length:Nat):Int) > 16))),(22, .bool (decide (((a.au.length:Nat):Int) > 16))),(21, .int .i64 ((a.au.length:Nat):Int)),(20, .string ⟨List.toArray a.au⟩),(19, .pointer (some ⟨h,1,none⟩)),(6, .pointer (some ⟨h,0,none⟩)),(18, .agg (af.cells a).toArray),(17, .pointer (some ⟨ab p,ao p+b *3,none⟩)),(16, .bool (decide (((b:Nat):Int) < ((d.length:Nat):Int)))),(15, .int .i64 ((b:Nat):Int)),(14, .int .i64 ((d.length:Nat):Int)),(13, .slice p d.length M)] _ _
 obtain⟨C,aN,r⟩:=B.1 X
 refine sr (Kz (.bool (decide (((f:Nat):Int) < ((a.ak.ls.length:Nat):Int)))) (nt (yJ ?_)))
 by_cases Y:((f:Nat):Int) < ((a.ak.ls.length:Nat):Int)
 obtain⟨j,K⟩:=dV (ls:=a.ak.ls) (i:=f) aR.len (by decide) (C.ro (G _ (List.mem_of_getElem? m)).1) (by first | omega | (simp; done) | (simp; omega))
 have E:=drop_at K
 refine jT (dT Y) (sk (yJ (bo (sr (fw (.pointer (some ⟨ab a.ak.A,ao a.ak.A+f *2,none⟩)) (yZ (o5) rfl rfl ((C.ro (G _ (List.mem_of_getElem? m)).1).addr (i:=f) (by omega)) (by omega)) (fw (.agg (aR.cells j).toArray) (y5 rfl (zg (cs:=(aR.cells j)) Tryz.isAgg86 Tryz.sizeOf86 ((C.ro (G _ (List.mem_of_getElem? m)).1).elem aR.len K (by decide)))) ?_))))))
 refine dE [.string ⟨List.toArray ([])⟩, .string ⟨List.toArray ([])⟩] 86 C ?_
 intro Z aX aD
 refine bz (aR.cells j) 0 aD Tryz.sizeOf86 ?_
 intro aY ae
 refine ns (Kz (.pointer (some ⟨Z,0,none⟩)) (Lz (.string ⟨List.toArray j.aL⟩) ae 0 Tryz.isAgg9 ?_))
 obtain⟨F,s⟩:∃ q,ic j.aL=q:=⟨_,rfl⟩
 obtain⟨aZ,ag,aO,ah,aQ⟩:=yP ae
 refine cl Tryz.call74 (jP _ _ j.aL F ag s) ?_
 rintro _ bf ⟨rfl,ai,L⟩
 have I:=ah _ _ ai
 replace L: ¬ (F=0)∨(1≤j.aL.length∧j.aL.length≤12):=L
 refine fw (.bool (decide (¬ (F=0)))) (za (e:= !(decide (F=0))) yk decide_not.symm) (Mz rfl ?_)
 by_cases k:F=0
 refine gw (.pointer (some ⟨Z,1,none⟩)) (dF (BK k)) yk (gw (.string ⟨List.toArray j.au⟩) (dF (BK k)) (y5 rfl (bn.one Tryz.isAgg9 (zq (I.cls (i:=0) rfl) rfl))) (gw (.int .i64 ((j.au.length:Nat):Int)) (dF (BK k)) yk (gw (.bool (decide (((j.au.length:Nat):Int) > 16))) (dF (BK k)) yk (fw (.bool (decide (((j.au.length:Nat):Int) > 16))) (yM rfl (dF (BK k)) rfl) (nt ?_)))))
 by_cases J:((j.au.length:Nat):Int) > 16
 refine jT (dT J) (sr (An rfl (rt (bR (tR (tR (bR (bR (tR (tR (bR (tR (rs ?_)))))))))))))
 have aF:=I.pk []
 obtain rfl:_=false:=hr.symm.trans (et (iN n) (iG (et (l) (et (congrArg (fun q=>fq q) o) (et (iN g) (et (iN u) (pQ (et (r) (et (congrArg (fun q=>fV q) E) (et (aa s) (et (ip k) (ip J))))))))))))
 exact⟨rfl,aF⟩
 refine jF (dF J) (zm (bN (yL (yK (fw (.int .i64 ((f+1:Nat):Int)) (yS (e:=IntKind.i64.wrap (((f:Nat):Int)+1)) yk (by rw [BI _ (by omega)]; omega)) (Mz rfl (WL.nil ?_)))))))
 have aG:=I.pk [1]
 exact yY (f+1) ⟨rfl,rfl,rfl,rfl,rfl,rfl,rfl,rfl,rfl,rfl,rfl,rfl,rfl,rfl,rfl,rfl,rfl,rfl,rfl,rfl,rfl,rfl,trivial⟩ (B.2 ⟨aG,by omega,et (r) (et (congrArg (fun q=>fV q) E) (et (aa s) (et (ip k) (iN J))))⟩) (by show a.ak.ls.length - (f+1) < a.ak.ls.length - f; omega)
 refine Sz (dT k) (Sz (dT k) (Sz (dT k) (Sz (dT k) (fw (.bool true) (yN rfl (dT k) rfl) (nt (jt (sr (An rfl (rt (bR (tR (tR (bR (bR (tR (tR (bR (tR (rs ?_)))))))))))))))))))
 have aH:=I.pk []
 obtain rfl:_=false:=hr.symm.trans (et (iN n) (iG (et (l) (et (congrArg (fun q=>fq q) o) (et (iN g) (et (iN u) (pQ (et (r) (et (congrArg (fun q=>fV q) E) (et (aa s) (iN k)))))))))))
 exact⟨rfl,aH⟩
 refine jF (dF Y) (Wp.exit (yV ?_))
 have aj:fV a.ak.ls=Sum.inl ():=et (r) (et (congrArg (fun q=>fV q) (dZ (ls:=a.ak.ls) (i:=f) (by omega))) rfl)
 refine yV (y8 (bN (yL (yK (fw (.int .i64 ((b+1:Nat):Int)) (yS (e:=IntKind.i64.wrap (((b:Nat):Int)+1)) yk (by rw [BI _ (by omega)]; omega)) (Mz rfl (WL.nil ?_)))))))
 have aI:=C.pk []
 exact yY (b+1) ⟨rfl,rfl,rfl,rfl,trivial⟩ (y.2 ⟨aI,by omega,et (l) (et (congrArg (fun q=>fq q) o) (et (iN g) (et (iN u) (rM aj))))⟩) (by show d.length - (b+1) < d.length - b; omega)
 refine jF (dF T) (Wp.exit (yV ?_))
 have ak:fq d=Sum.inl ():=et (l) (et (congrArg (fun q=>fq q) (dZ (ls:=d) (i:=b) (by omega))) rfl)
 refine yV (y8 (yL (sr (An rfl (rt (rs ?_))))))
 have aJ:=z.pk []
 obtain rfl:_=true:=hr.symm.trans (et (iN n) (kG ak))
 exact⟨rfl,aJ⟩
def jQ (a:aB):Bool:=
 if a.ae=2 then true else if a.ae=3 then true else decide (a.ae=5)
theorem rG (w:World) (D:Nat→Prop) (c:aB) (i:Bool) (H:Own w D w []) (hr:jQ c=i):
    Calls Tryz.prog 36 #[.agg (aB.cells c).toArray] w (cO fun v w'=>v= .bool i∧Own w D w' []):=by
 refine yR (args:= [.agg (aB.cells c).toArray]) Tryz.func36 rfl rfl rfl ?_
 show Wp _ _ _ [(0, .agg (aB.cells c).toArray)] _ _
 refine sr ?_
 refine dE (aB.cells c) 64 H ?_
 intro e j d
 refine Ar rfl (Kz (.pointer (some ⟨e,0,none⟩)) (Lz (.int .i64 c.ae) d 0 Tryz.isAgg3 (Kz (.bool (decide (c.ae=2))) (Mz rfl ?_))))
 by_cases a:c.ae=2
 refine Sz (dT a) (Sz (dT a) (Sz (dT a) (fw (.bool true) (yN rfl (dT a) rfl) (Mz rfl (Sz rfl (Sz rfl (Sz rfl (fw (.bool true) (yN rfl rfl rfl) (An rfl (rt (rs ?_)))))))))))
 have f:=d.pk []
 obtain rfl:_=true:=hr.symm.trans (ip a)
 exact⟨rfl,f⟩
 refine Gz (.pointer (some ⟨e,0,none⟩)) (dF a) (Gl (.int .i64 c.ae) (dF a) d 0 Tryz.isAgg3 (Gz (.bool (decide (c.ae=3))) (dF a) (fw (.bool (decide (c.ae=3))) (yM rfl (dF a) rfl) (Mz rfl ?_))))
 by_cases b:c.ae=3
 refine Sz (dT b) (Sz (dT b) (Sz (dT b) (fw (.bool true) (yN rfl (dT b) rfl) (An rfl (rt (rs ?_))))))
 have g:=d.pk []
 obtain rfl:_=true:=hr.symm.trans (et (iN a) (ip b))
 exact⟨rfl,g⟩
 refine Gz (.pointer (some ⟨e,0,none⟩)) (dF b) (Gl (.int .i64 c.ae) (dF b) d 0 Tryz.isAgg3 (Gz (.bool (decide (c.ae=5))) (dF b) (fw (.bool (decide (c.ae=5))) (yM rfl (dF b) rfl) (An rfl (rt (rs ?_))))))
 have h:=d.pk []
 obtain rfl:_=decide (c.ae=5):=hr.symm.trans (et (iN a) (iN b))
 exact⟨rfl,h⟩
def fG:List aB→Bool→Bool
  | [],a=>a
  | d::b,a=>if a=true then bnd (jQ d) fun c=>fG b c else fG b false
def jb:List aB→Unit
  | []=>()
  | b::a=>jb a
def jc:List aB→Unit
  | []=>()
  | b::a=>jc a
def dC (a:bE):Int:=
 bnd (dB a.ae) fun k=>if k=([]) then 180 else bnd (gT a) fun l=>if l=true then bnd (nk a) fun m=>if m=true then if a.ae=1 then bnd (mr a.ax.ls) fun n=>if n=0 then 0 else 180 else if a.ae=2 then if a.bu=1 then bnd (il a.ah.ls 4) fun o=>if o=true then 0 else 180 else if a.bu=2 then bnd (il a.ah.ls 4) fun p=>if p=true then 0 else 180 else 180 else if a.ae=3 then if((a.ax.ls.length:Nat):Int) ≥ 1 then if((a.ax.ls.length:Nat):Int)≤24 then bnd (jo a.ax.ls) fun b=>if b=0 then 0 else 180 else 180 else 180 else if a.ae=4 then if a.bu=3 then bnd (il a.ah.ls 24) fun c=>if c=true then 0 else 180 else if a.bu=4 then bnd (il a.ah.ls 24) fun d=>if d=true then 0 else 180 else if a.bu=5 then bnd (il a.ah.ls 24) fun e=>if e=true then 0 else 180 else 180 else if a.ae=8 then bnd (mD a.ai.ls) fun f=>if f=0 then 0 else 180 else if a.ae=10 then bnd (iU a.bO) fun g=>if g=true then bnd (iD a.aG) fun h=>if h=0 then 0 else 180 else 180 else if a.ae=11 then if((a.ax.ls.length:Nat):Int)≤6 then bnd (jo a.ax.ls) fun i=>if i=0 then bnd (iD a.aG) fun j=>bnd (fG a.ax.ls (decide (j=0))) fun sLrbfbtbtffffffttbtbL=>if sLrbfbtbtffffffttbtbL=true then 0 else 180 else bnd (jb a.ax.ls) fun _=>180 else bnd (jc a.ax.ls) fun _=>180 else 0 else 180 else 180
set_option maxHeartbeats 2000000 in
theorem pu (w:World) (D:Nat→Prop) (a:bE) (b:Option Addr) (dh h:Nat) (s:Option Addr) (di o:Nat) (T:List af) (P:Option Addr) (dm K:Nat) (r0:Int) (H:Own w D w []) (dU:dh=a.ax.ls.length) (t:Ro w D fun w'=>bD w' 6 b a.ax.ls.length (List.flatMap aB.cells a.ax.ls)) (jy:a.ax.ls.length≤h∧a.ax.ls.length≤9223372036854775807) (Q:List.map zh T=a.ah.ls) (dW:di=a.ah.ls.length) (V:Ro w D fun w'=>bD w' 3 s a.ah.ls.length (List.flatMap af.cells T)) (jA:a.ah.ls.length≤o∧a.ah.ls.length≤9223372036854775807) (u:∀ x ∈ T,Ro w D (fun w'=>bD w' 2 x.ak.A x.ak.ls.length (List.flatMap aR.cells x.ak.ls))∧(x.ak.ls.length≤x.ak.c∧x.ak.ls.length≤9223372036854775807)) (dX:dm=a.ai.ls.length) (aJ:Ro w D fun w'=>bD w' 2 P a.ai.ls.length (List.flatMap aA.cells a.ai.ls)) (jB:a.ai.ls.length≤K∧a.ai.ls.length≤9223372036854775807) (hr:dC a=r0):
    Calls Tryz.prog 12 #[.agg (bf a.ae a.bq a.dw a.aQ a.bu a.bO a.bG a.aY a.bF a.bH a.bL a.aV a.bB a.aK a.xN a.bV a.aG.aD a.aG.aH b dh h s di o P dm K).toArray] w (cO fun v w'=>v= .int .i64 r0∧Own w D w' []):=by
 subst dU dW dX
 have hdl0x1:=dG Q
 refine yR (args:= [.agg (aM a b h s o P K).toArray]) Tryz.func12 rfl rfl rfl ?_
 show Wp _ _ _ [(0, .agg (aM a b h s o P K).toArray)] _ _
 refine sr ?_
 refine dE (aM a b h s o P K) 29 H ?_
 intro B lD gz
 refine An rfl (yJ (sr (Kz (.pointer (some ⟨B,0,none⟩)) (Lz (.int .i64 a.ae) gz 0 Tryz.isAgg3 ?_))))
 obtain⟨cu,d⟩:∃ q,dB a.ae=q:=⟨_,rfl⟩
 obtain⟨lF,gB,j6,gD,kg⟩:=yP gz
 refine cl Tryz.call27 (kD _ _ a.ae cu gB d) ?_
 rintro _ lG ⟨rfl,gF,dn⟩
 have dY:=gD _ _ gF
 replace dn:cu.length≤5:=dn
 refine fw (.bool (decide (cu=([])))) (zX rfl rfl) (Mz rfl ?_)
 by_cases j:cu=([])
 refine Sz (dT j) (Sz (dT j) (Sz (dT j) (fw (.bool true) (yN rfl (dT j) rfl) (Mz rfl (Sz rfl (Sz rfl (Sz rfl (fw (.bool true) (yN rfl rfl rfl) (nt (jt (sr (An rfl (rt (tR (rs ?_)))))))))))))))
 have jC:=dY.pk []
 obtain rfl:_=180:=hr.symm.trans (et (aa d) (ip j))
 exact⟨rfl,jC⟩
 refine Ga (aM a b h s o P K) (dF j) dY 0 Tryz.isAgg29 Tryz.sizeOf29 ?_
 obtain⟨cz,f⟩:∃ q,gT a=q:=⟨_,rfl⟩
 obtain⟨lH,gG,aW,gH,kr⟩:=yP dY
 refine jM (dF j) Tryz.call28 (sw _ _ a b a.ax.ls.length h s a.ah.ls.length o T P a.ai.ls.length K cz gG rfl (aW _ t) (show a.ax.ls.length≤h∧a.ax.ls.length≤9223372036854775807 from by omega) Q rfl (aW _ V) (show a.ah.ls.length≤o∧a.ah.ls.length≤9223372036854775807 from by omega) (fun x9 h9=>⟨aW _ (u x9 h9).1,(u x9 h9).2⟩) rfl (aW _ aJ) (show a.ai.ls.length≤K∧a.ai.ls.length≤9223372036854775807 from by omega) f) ?_
 rintro _ lI ⟨rfl,gI⟩
 have d9:=gH _ _ gI
 refine Gz (.bool (!cz)) (dF j) (fw (.bool (!cz)) (yM rfl (dF j) rfl) (Mz rfl ?_))
 rcases BL (cz) with k | k
 refine Ga (aM a b h s o P K) (cn k) d9 0 Tryz.isAgg29 Tryz.sizeOf29 ?_
 obtain⟨cB,g⟩:∃ q,nk a=q:=⟨_,rfl⟩
 obtain⟨lJ,gJ,aX,gK,ku⟩:=yP d9
 refine jM (cn k) Tryz.call29 (sP _ _ a b a.ax.ls.length h s a.ah.ls.length o T P a.ai.ls.length K cB gJ rfl (aX _ t) (show a.ax.ls.length≤h∧a.ax.ls.length≤9223372036854775807 from by omega) Q rfl (aX _ V) (show a.ah.ls.length≤o∧a.ah.ls.length≤9223372036854775807 from by omega) (fun x9 h9=>⟨aX _ (u x9 h9).1,(u x9 h9).2⟩) rfl (aX _ aJ) (show a.ai.ls.length≤K∧a.ai.ls.length≤9223372036854775807 from by omega) g) ?_
 rintro _ lK ⟨rfl,gL⟩
 have l:=gK _ _ gL
 refine Gz (.bool (!cB)) (cn k) (fw (.bool (!cB)) (yM rfl (cn k) rfl) (nt ?_))
 rcases BL (cB) with p | p
 refine jF (cn p) (sk (sr (An rfl (yJ (sr (Kz (.pointer (some ⟨B,0,none⟩)) (Lz (.int .i64 a.ae) l 0 Tryz.isAgg3 (nt (bo (sr (Kz (.bool (decide (a.ae=1))) (An rfl ?_))))))))))))
 by_cases r:a.ae=1
 refine jT (dT r) (yK (Kz (.pointer (some ⟨B,18,none⟩)) (Lz (.slice b a.ax.ls.length h) l 0 Tryz.isAgg25 ?_)))
 obtain⟨bA,bB⟩:∃ q,mr a.ax.ls=q:=⟨_,rfl⟩
 obtain⟨lL,gM,gN,gP,kv⟩:=yP l
 refine cl Tryz.call30 (sj _ _ b a.ax.ls.length h a.ax.ls bA gM (gN _ t) rfl (by omega) bB) ?_
 rintro _ lM ⟨rfl,gQ⟩
 have gU:=gP _ _ gQ
 refine Kz (.bool (decide (bA=0))) (Az rfl (WL.nil (bN (yL (yJ (sr (Mz rfl (fw (.bool (decide (¬ (bA=0)))) (za (e:= !(decide (bA=0))) yk decide_not.symm) (nt ?_)))))))))
 by_cases cK:bA=0
 refine jF (dF (BK cK)) (sk (sr (An rfl (rt (rs ?_)))))
 have jD:=gU.pk []
 obtain rfl:_=0:=hr.symm.trans (et (aa d) (et (iN j) (et (aa f) (et (ip k) (et (aa g) (et (ip p) (et (ip r) (et (aa bB) (ip cK)))))))))
 exact⟨rfl,jD⟩
 refine jT (dT cK) (sr (An rfl (rt (tR (rs ?_)))))
 have jE:=gU.pk []
 obtain rfl:_=180:=hr.symm.trans (et (aa d) (et (iN j) (et (aa f) (et (ip k) (et (aa g) (et (ip p) (et (ip r) (et (aa bB) (iN cK)))))))))
 exact⟨rfl,jE⟩
 refine jF (dF r) (sr (Kz (.bool (decide (a.ae=2))) (An rfl ?_)))
 by_cases z:a.ae=2
 refine jT (dT z) (yK (Kz (.pointer (some ⟨B,4,none⟩)) (Lz (.int .i64 a.bu) l 0 Tryz.isAgg3 (Kz (.bool (decide (a.bu=1))) (Mz rfl ?_)))))
 by_cases X:a.bu=1
 refine Sz (dT X) (Sz (dT X) (Sz (dT X) (fw (.bool true) (yN rfl (dT X) rfl) (Mz rfl (Gz (.pointer (some ⟨B,19,none⟩)) rfl (Gl (.slice s a.ah.ls.length o) rfl l 0 Tryz.isAgg26 ?_))))))
 obtain⟨cZ,bF⟩:∃ q,il a.ah.ls 4=q:=⟨_,rfl⟩
 obtain⟨lN,gV,dw,gW,kw⟩:=yP l
 refine jM rfl Tryz.call31 (ko _ _ s a.ah.ls.length o T a.ah.ls 4 cZ gV Q (dw _ V) (fun x9 h9=>⟨dw _ (u x9 h9).1,(u x9 h9).2⟩) rfl (by omega) bF) ?_
 rintro _ lQ ⟨rfl,gX⟩
 have gY:=gW _ _ gX
 refine fw (.bool cZ) (yN rfl rfl rfl) (Az rfl (WL.nil (bN (yL (yJ (sr (Mz rfl (Kz (.bool (!cZ)) (nt ?_)))))))))
 rcases BL (cZ) with bG | bG
 refine jF (cn bG) (sk (sr (An rfl (rt (rs ?_)))))
 have jG:=gY.pk []
 obtain rfl:_=0:=hr.symm.trans (et (aa d) (et (iN j) (et (aa f) (et (ip k) (et (aa g) (et (ip p) (et (iN r) (et (ip z) (et (ip X) (et (aa bF) (ip bG)))))))))))
 exact⟨rfl,jG⟩
 refine jT (cn bG) (sr (An rfl (rt (tR (rs ?_)))))
 have jH:=gY.pk []
 obtain rfl:_=180:=hr.symm.trans (et (aa d) (et (iN j) (et (aa f) (et (ip k) (et (aa g) (et (ip p) (et (iN r) (et (ip z) (et (ip X) (et (aa bF) (dz bG)))))))))))
 exact⟨rfl,jH⟩
 refine Gz (.pointer (some ⟨B,4,none⟩)) (dF X) (Gl (.int .i64 a.bu) (dF X) l 0 Tryz.isAgg3 (Gz (.bool (decide (a.bu=2))) (dF X) (fw (.bool (decide (a.bu=2))) (yM rfl (dF X) rfl) (Mz rfl ?_))))
 by_cases Z:a.bu=2
 refine Gz (.pointer (some ⟨B,19,none⟩)) (dT Z) (Gl (.slice s a.ah.ls.length o) (dT Z) l 0 Tryz.isAgg26 ?_)
 obtain⟨df,bH⟩:∃ q,il a.ah.ls 4=q:=⟨_,rfl⟩
 obtain⟨lS,gZ,dx,ib,ky⟩:=yP l
 refine jM (dT Z) Tryz.call31 (ko _ _ s a.ah.ls.length o T a.ah.ls 4 df gZ Q (dx _ V) (fun x9 h9=>⟨dx _ (u x9 h9).1,(u x9 h9).2⟩) rfl (by omega) bH) ?_
 rintro _ lT ⟨rfl,ic⟩
 have ig:=ib _ _ ic
 refine fw (.bool df) (yN rfl (dT Z) rfl) (Az rfl (WL.nil (bN (yL (yJ (sr (Mz rfl (Kz (.bool (!df)) (nt ?_)))))))))
 rcases BL (df) with bI | bI
 refine jF (cn bI) (sk (sr (An rfl (rt (rs ?_)))))
 have ik:=ig.pk []
 obtain rfl:_=0:=hr.symm.trans (et (aa d) (et (iN j) (et (aa f) (et (ip k) (et (aa g) (et (ip p) (et (iN r) (et (ip z) (et (iN X) (et (ip Z) (et (aa bH) (ip bI))))))))))))
 exact⟨rfl,ik⟩
 refine jT (cn bI) (sr (An rfl (rt (tR (rs ?_)))))
 have iq:=ig.pk []
 obtain rfl:_=180:=hr.symm.trans (et (aa d) (et (iN j) (et (aa f) (et (ip k) (et (aa g) (et (ip p) (et (iN r) (et (ip z) (et (iN X) (et (ip Z) (et (aa bH) (dz bI))))))))))))
 exact⟨rfl,iq⟩
 refine Sz (dF Z) (Sz (dF Z) (Sz (dF Z) (fw (.bool false) (yM rfl (dF Z) rfl) (Az rfl (WL.nil (bN (yL (yJ (sr (Mz rfl (Kz (.bool true) (nt (jt (sr (An rfl (rt (tR (rs ?_))))))))))))))))))
 have iw:=l.pk []
 obtain rfl:_=180:=hr.symm.trans (et (aa d) (et (iN j) (et (aa f) (et (ip k) (et (aa g) (et (ip p) (et (iN r) (et (ip z) (et (iN X) (iN Z))))))))))
 exact⟨rfl,iw⟩
 refine jF (dF z) (sr (Kz (.bool (decide (a.ae=3))) (An rfl ?_)))
 by_cases m:a.ae=3
 refine jT (dT m) (yK (Kz (.pointer (some ⟨B,18,none⟩)) (Lz (.slice b a.ax.ls.length h) l 0 Tryz.isAgg25 (Kz (.int .i64 ((a.ax.ls.length:Nat):Int)) (Kz (.bool (decide (((a.ax.ls.length:Nat):Int) ≥ 1))) (Mz rfl ?_))))))
 by_cases G:((a.ax.ls.length:Nat):Int) ≥ 1
 refine Gz (.pointer (some ⟨B,18,none⟩)) (dT G) (Gl (.slice b a.ax.ls.length h) (dT G) l 0 Tryz.isAgg25 (Gz (.int .i64 ((a.ax.ls.length:Nat):Int)) (dT G) (Gz (.bool (decide (((a.ax.ls.length:Nat):Int)≤24))) (dT G) (fw (.bool (decide (((a.ax.ls.length:Nat):Int)≤24))) (yN rfl (dT G) rfl) (Mz rfl ?_)))))
 by_cases L:((a.ax.ls.length:Nat):Int)≤24
 refine Gz (.pointer (some ⟨B,18,none⟩)) (dT L) (Gl (.slice b a.ax.ls.length h) (dT L) l 0 Tryz.isAgg25 ?_)
 obtain⟨ai,aK⟩:∃ q,jo a.ax.ls=q:=⟨_,rfl⟩
 obtain⟨kz,ed,ek,eu,jI⟩:=yP l
 refine jM (dT L) Tryz.call32 (oD _ _ b a.ax.ls.length h a.ax.ls ai ed (ek _ t) rfl (by omega) aK) ?_
 rintro _ kC ⟨rfl,eB⟩
 have dA:=eu _ _ eB
 refine Gz (.bool (decide (ai=0))) (dT L) (fw (.bool (decide (ai=0))) (yN rfl (dT L) rfl) (Az rfl (WL.nil (bN (yL (yJ (sr (Mz rfl (fw (.bool (decide (¬ (ai=0)))) (za (e:= !(decide (ai=0))) yk decide_not.symm) (nt ?_))))))))))
 by_cases aY:ai=0
 refine jF (dF (BK aY)) (sk (sr (An rfl (rt (rs ?_)))))
 have iy:=dA.pk []
 obtain rfl:_=0:=hr.symm.trans (et (aa d) (et (iN j) (et (aa f) (et (ip k) (et (aa g) (et (ip p) (et (iN r) (et (iN z) (et (ip m) (et (ip G) (et (ip L) (et (aa aK) (ip aY)))))))))))))
 exact⟨rfl,iy⟩
 refine jT (dT aY) (sr (An rfl (rt (tR (rs ?_)))))
 have iA:=dA.pk []
 obtain rfl:_=180:=hr.symm.trans (et (aa d) (et (iN j) (et (aa f) (et (ip k) (et (aa g) (et (ip p) (et (iN r) (et (iN z) (et (ip m) (et (ip G) (et (ip L) (et (aa aK) (iN aY)))))))))))))
 exact⟨rfl,iA⟩
 refine Sz (dF L) (Sz (dF L) (Sz (dF L) (Sz (dF L) (fw (.bool false) (yM rfl (dF L) rfl) (Az rfl (WL.nil (bN (yL (yJ (sr (Mz rfl (Kz (.bool true) (nt (jt (sr (An rfl (rt (tR (rs ?_)))))))))))))))))))
 have iB:=l.pk []
 obtain rfl:_=180:=hr.symm.trans (et (aa d) (et (iN j) (et (aa f) (et (ip k) (et (aa g) (et (ip p) (et (iN r) (et (iN z) (et (ip m) (et (ip G) (iN L)))))))))))
 exact⟨rfl,iB⟩
 refine Sz (dF G) (Sz (dF G) (Sz (dF G) (Sz (dF G) (fw (.bool false) (yM rfl (dF G) rfl) (Mz rfl (Sz rfl (Sz rfl (Sz rfl (Sz rfl (fw (.bool false) (yM rfl rfl rfl) (Az rfl (WL.nil (bN (yL (yJ (sr (Mz rfl (Kz (.bool true) (nt (jt (sr (An rfl (rt (tR (rs ?_)))))))))))))))))))))))))
 have iC:=l.pk []
 obtain rfl:_=180:=hr.symm.trans (et (aa d) (et (iN j) (et (aa f) (et (ip k) (et (aa g) (et (ip p) (et (iN r) (et (iN z) (et (ip m) (iN G))))))))))
 exact⟨rfl,iC⟩
 refine jF (dF m) (sr (Kz (.bool (decide (a.ae=4))) (An rfl ?_)))
 by_cases y:a.ae=4
 refine jT (dT y) (yK (Kz (.pointer (some ⟨B,4,none⟩)) (Lz (.int .i64 a.bu) l 0 Tryz.isAgg3 (Kz (.bool (decide (a.bu=3))) (Mz rfl ?_)))))
 by_cases F:a.bu=3
 refine Sz (dT F) (Sz (dT F) (Sz (dT F) (fw (.bool true) (yN rfl (dT F) rfl) (Mz rfl (Sz rfl (Sz rfl (Sz rfl (fw (.bool true) (yN rfl rfl rfl) (Mz rfl (Gz (.pointer (some ⟨B,19,none⟩)) rfl (Gl (.slice s a.ah.ls.length o) rfl l 0 Tryz.isAgg26 ?_)))))))))))
 obtain⟨aZ,aL⟩:∃ q,il a.ah.ls 24=q:=⟨_,rfl⟩
 obtain⟨kE,eD,bJ,eF,jJ⟩:=yP l
 refine jM rfl Tryz.call31 (ko _ _ s a.ah.ls.length o T a.ah.ls 24 aZ eD Q (bJ _ V) (fun x9 h9=>⟨bJ _ (u x9 h9).1,(u x9 h9).2⟩) rfl (by omega) aL) ?_
 rintro _ kF ⟨rfl,eG⟩
 have dD:=eF _ _ eG
 refine fw (.bool aZ) (yN rfl rfl rfl) (Az rfl (WL.nil (bN (yL (yJ (sr (Mz rfl (Kz (.bool (!aZ)) (nt ?_)))))))))
 rcases BL (aZ) with az | az
 refine jF (cn az) (sk (sr (An rfl (rt (rs ?_)))))
 have iE:=dD.pk []
 obtain rfl:_=0:=hr.symm.trans (et (aa d) (et (iN j) (et (aa f) (et (ip k) (et (aa g) (et (ip p) (et (iN r) (et (iN z) (et (iN m) (et (ip y) (et (ip F) (et (aa aL) (ip az)))))))))))))
 exact⟨rfl,iE⟩
 refine jT (cn az) (sr (An rfl (rt (tR (rs ?_)))))
 have iF:=dD.pk []
 obtain rfl:_=180:=hr.symm.trans (et (aa d) (et (iN j) (et (aa f) (et (ip k) (et (aa g) (et (ip p) (et (iN r) (et (iN z) (et (iN m) (et (ip y) (et (ip F) (et (aa aL) (dz az)))))))))))))
 exact⟨rfl,iF⟩
 refine Gz (.pointer (some ⟨B,4,none⟩)) (dF F) (Gl (.int .i64 a.bu) (dF F) l 0 Tryz.isAgg3 (Gz (.bool (decide (a.bu=4))) (dF F) (fw (.bool (decide (a.bu=4))) (yM rfl (dF F) rfl) (Mz rfl ?_))))
 by_cases M:a.bu=4
 refine Sz (dT M) (Sz (dT M) (Sz (dT M) (fw (.bool true) (yN rfl (dT M) rfl) (Mz rfl (Gz (.pointer (some ⟨B,19,none⟩)) rfl (Gl (.slice s a.ah.ls.length o) rfl l 0 Tryz.isAgg26 ?_))))))
 obtain⟨bg,aN⟩:∃ q,il a.ah.ls 24=q:=⟨_,rfl⟩
 obtain⟨kG,eH,bK,eO,jK⟩:=yP l
 refine jM rfl Tryz.call31 (ko _ _ s a.ah.ls.length o T a.ah.ls 24 bg eH Q (bK _ V) (fun x9 h9=>⟨bK _ (u x9 h9).1,(u x9 h9).2⟩) rfl (by omega) aN) ?_
 rintro _ kH ⟨rfl,eP⟩
 have dH:=eO _ _ eP
 refine fw (.bool bg) (yN rfl rfl rfl) (Az rfl (WL.nil (bN (yL (yJ (sr (Mz rfl (Kz (.bool (!bg)) (nt ?_)))))))))
 rcases BL (bg) with aC | aC
 refine jF (cn aC) (sk (sr (An rfl (rt (rs ?_)))))
 have iG:=dH.pk []
 obtain rfl:_=0:=hr.symm.trans (et (aa d) (et (iN j) (et (aa f) (et (ip k) (et (aa g) (et (ip p) (et (iN r) (et (iN z) (et (iN m) (et (ip y) (et (iN F) (et (ip M) (et (aa aN) (ip aC))))))))))))))
 exact⟨rfl,iG⟩
 refine jT (cn aC) (sr (An rfl (rt (tR (rs ?_)))))
 have iH:=dH.pk []
 obtain rfl:_=180:=hr.symm.trans (et (aa d) (et (iN j) (et (aa f) (et (ip k) (et (aa g) (et (ip p) (et (iN r) (et (iN z) (et (iN m) (et (ip y) (et (iN F) (et (ip M) (et (aa aN) (dz aC))))))))))))))
 exact⟨rfl,iH⟩
 refine Gz (.pointer (some ⟨B,4,none⟩)) (dF M) (Gl (.int .i64 a.bu) (dF M) l 0 Tryz.isAgg3 (Gz (.bool (decide (a.bu=5))) (dF M) (fw (.bool (decide (a.bu=5))) (yM rfl (dF M) rfl) (Mz rfl ?_))))
 by_cases R:a.bu=5
 refine Gz (.pointer (some ⟨B,19,none⟩)) (dT R) (Gl (.slice s a.ah.ls.length o) (dT R) l 0 Tryz.isAgg26 ?_)
 obtain⟨bi,aO⟩:∃ q,il a.ah.ls 24=q:=⟨_,rfl⟩
 obtain⟨kI,eQ,bL,eT,jL⟩:=yP l
 refine jM (dT R) Tryz.call31 (ko _ _ s a.ah.ls.length o T a.ah.ls 24 bi eQ Q (bL _ V) (fun x9 h9=>⟨bL _ (u x9 h9).1,(u x9 h9).2⟩) rfl (by omega) aO) ?_
 rintro _ kJ ⟨rfl,eU⟩
 have dI:=eT _ _ eU
 refine fw (.bool bi) (yN rfl (dT R) rfl) (Az rfl (WL.nil (bN (yL (yJ (sr (Mz rfl (Kz (.bool (!bi)) (nt ?_)))))))))
 rcases BL (bi) with aD | aD
 refine jF (cn aD) (sk (sr (An rfl (rt (rs ?_)))))
 have iI:=dI.pk []
 obtain rfl:_=0:=hr.symm.trans (et (aa d) (et (iN j) (et (aa f) (et (ip k) (et (aa g) (et (ip p) (et (iN r) (et (iN z) (et (iN m) (et (ip y) (et (iN F) (et (iN M) (et (ip R) (et (aa aO) (ip aD)))))))))))))))
 exact⟨rfl,iI⟩
 refine jT (cn aD) (sr (An rfl (rt (tR (rs ?_)))))
 have iJ:=dI.pk []
 obtain rfl:_=180:=hr.symm.trans (et (aa d) (et (iN j) (et (aa f) (et (ip k) (et (aa g) (et (ip p) (et (iN r) (et (iN z) (et (iN m) (et (ip y) (et (iN F) (et (iN M) (et (ip R) (et (aa aO) (dz aD)))))))))))))))
 exact⟨rfl,iJ⟩
 refine Sz (dF R) (Sz (dF R) (Sz (dF R) (fw (.bool false) (yM rfl (dF R) rfl) (Az rfl (WL.nil (bN (yL (yJ (sr (Mz rfl (Kz (.bool true) (nt (jt (sr (An rfl (rt (tR (rs ?_))))))))))))))))))
 have iK:=l.pk []
 obtain rfl:_=180:=hr.symm.trans (et (aa d) (et (iN j) (et (aa f) (et (ip k) (et (aa g) (et (ip p) (et (iN r) (et (iN z) (et (iN m) (et (ip y) (et (iN F) (et (iN M) (iN R)))))))))))))
 exact⟨rfl,iK⟩
 refine jF (dF y) (sr (Kz (.bool (decide (a.ae=8))) (An rfl ?_)))
 by_cases O:a.ae=8
 refine jT (dT O) (yK (Kz (.pointer (some ⟨B,20,none⟩)) (Lz (.slice P a.ai.ls.length K) l 0 Tryz.isAgg27 ?_)))
 obtain⟨aF,aP⟩:∃ q,mD a.ai.ls=q:=⟨_,rfl⟩
 obtain⟨kK,eX,eY,eZ,jN⟩:=yP l
 refine cl Tryz.call33 (su _ _ P a.ai.ls.length K a.ai.ls aF eX (eY _ aJ) rfl (by omega) aP) ?_
 rintro _ kL ⟨rfl,fe⟩
 have dJ:=eZ _ _ fe
 refine Kz (.bool (decide (aF=0))) (Az rfl (WL.nil (bN (yL (yJ (sr (Mz rfl (fw (.bool (decide (¬ (aF=0)))) (za (e:= !(decide (aF=0))) yk decide_not.symm) (nt ?_)))))))))
 by_cases bn:aF=0
 refine jF (dF (BK bn)) (sk (sr (An rfl (rt (rs ?_)))))
 have iL:=dJ.pk []
 obtain rfl:_=0:=hr.symm.trans (et (aa d) (et (iN j) (et (aa f) (et (ip k) (et (aa g) (et (ip p) (et (iN r) (et (iN z) (et (iN m) (et (iN y) (et (ip O) (et (aa aP) (ip bn)))))))))))))
 exact⟨rfl,iL⟩
 refine jT (dT bn) (sr (An rfl (rt (tR (rs ?_)))))
 have iM:=dJ.pk []
 obtain rfl:_=180:=hr.symm.trans (et (aa d) (et (iN j) (et (aa f) (et (ip k) (et (aa g) (et (ip p) (et (iN r) (et (iN z) (et (iN m) (et (iN y) (et (ip O) (et (aa aP) (iN bn)))))))))))))
 exact⟨rfl,iM⟩
 refine jF (dF O) (sr (Kz (.bool (decide (a.ae=10))) (An rfl ?_)))
 by_cases U:a.ae=10
 refine jT (dT U) (yK (Kz (.pointer (some ⟨B,5,none⟩)) (Lz (.int .i64 a.bO) l 0 Tryz.isAgg3 ?_)))
 obtain⟨dK,av⟩:∃ q,iU a.bO=q:=⟨_,rfl⟩
 obtain⟨kM,fo,jO,fq,jP⟩:=yP l
 refine cl Tryz.call34 (kR _ _ a.bO dK fo av) ?_
 rintro _ kN ⟨rfl,fu⟩
 have bM:=fq _ _ fu
 refine Mz rfl ?_
 rcases BL (dK) with I | I
 refine Gz (.pointer (some ⟨B,16,none⟩)) I (Ga (bC.cells a.aG) I bM 0 Tryz.isAgg24 Tryz.sizeOf24 ?_)
 obtain⟨aj,aQ⟩:∃ q,iD a.aG=q:=⟨_,rfl⟩
 obtain⟨kP,fA,jR,fB,jS⟩:=yP bM
 refine zC rfl rfl I rfl (zf Tryz.call35 rfl (lY _ _ a.aG aj fA aQ) ?_)
 rintro _ kQ ⟨rfl,fC⟩
 have dL:=fB _ _ fC
 refine Gz (.bool (decide (aj=0))) I (fw (.bool (decide (aj=0))) (yN rfl I rfl) (Az rfl (WL.nil (bN (yL (yJ (sr (Mz rfl (fw (.bool (decide (¬ (aj=0)))) (za (e:= !(decide (aj=0))) yk decide_not.symm) (nt ?_))))))))))
 by_cases bq:aj=0
 refine jF (dF (BK bq)) (sk (sr (An rfl (rt (rs ?_)))))
 have iO:=dL.pk []
 obtain rfl:_=0:=hr.symm.trans (et (aa d) (et (iN j) (et (aa f) (et (ip k) (et (aa g) (et (ip p) (et (iN r) (et (iN z) (et (iN m) (et (iN y) (et (iN O) (et (ip U) (et (aa av) (et (ip I) (et (aa aQ) (ip bq))))))))))))))))
 exact⟨rfl,iO⟩
 refine jT (dT bq) (sr (An rfl (rt (tR (rs ?_)))))
 have iP:=dL.pk []
 obtain rfl:_=180:=hr.symm.trans (et (aa d) (et (iN j) (et (aa f) (et (ip k) (et (aa g) (et (ip p) (et (iN r) (et (iN z) (et (iN m) (et (iN y) (et (iN O) (et (ip U) (et (aa av) (et (ip I) (et (aa aQ) (iN bq))))))))))))))))
 exact⟨rfl,iP⟩
 refine Sz I (Sz I (Sz I (Sz I (fw (.bool false) (yM rfl I rfl) (Az rfl (WL.nil (bN (yL (yJ (sr (Mz rfl (Kz (.bool true) (nt (jt (sr (An rfl (rt (tR (rs ?_)))))))))))))))))))
 have iQ:=bM.pk []
 obtain rfl:_=180:=hr.symm.trans (et (aa d) (et (iN j) (et (aa f) (et (ip k) (et (aa g) (et (ip p) (et (iN r) (et (iN z) (et (iN m) (et (iN y) (et (iN O) (et (ip U) (et (aa av) (dz I))))))))))))))
 exact⟨rfl,iQ⟩
 refine jF (dF U) (sr (Kz (.bool (decide (a.ae=11))) (An rfl ?_)))
 by_cases ae:a.ae=11
 refine jT (dT ae) (sr (Kz (.pointer (some ⟨B,18,none⟩)) (Lz (.slice b a.ax.ls.length h) l 0 Tryz.isAgg25 (Kz (.int .i64 ((a.ax.ls.length:Nat):Int)) (Kz (.bool (decide (((a.ax.ls.length:Nat):Int)≤6))) (Mz rfl ?_))))))
 by_cases J:((a.ax.ls.length:Nat):Int)≤6
 refine Gz (.pointer (some ⟨B,18,none⟩)) (dT J) (Gl (.slice b a.ax.ls.length h) (dT J) l 0 Tryz.isAgg25 ?_)
 obtain⟨bu,ax⟩:∃ q,jo a.ax.ls=q:=⟨_,rfl⟩
 obtain⟨kS,fD,fE,fF,jU⟩:=yP l
 refine jM (dT J) Tryz.call32 (oD _ _ b a.ax.ls.length h a.ax.ls bu fD (fE _ t) rfl (by omega) ax) ?_
 rintro _ kT ⟨rfl,fH⟩
 have bv:=fF _ _ fH
 refine Gz (.bool (decide (bu=0))) (dT J) (fw (.bool (decide (bu=0))) (yN rfl (dT J) rfl) (Mz rfl ?_))
 by_cases N:bu=0
 refine Gz (.pointer (some ⟨B,16,none⟩)) (dT N) (Ga (bC.cells a.aG) (dT N) bv 0 Tryz.isAgg24 Tryz.sizeOf24 ?_)
 obtain⟨Y,aS⟩:∃ q,iD a.aG=q:=⟨_,rfl⟩
 obtain⟨kU,fI,jV,fJ,jW⟩:=yP bv
 refine jM (dT N) Tryz.call35 (lY _ _ a.aG Y fI aS) ?_
 rintro _ kV ⟨rfl,fK⟩
 have dM:=fJ _ _ fK
 refine Gz (.bool (decide (Y=0))) (dT N) (fw (.bool (decide (Y=0))) (yN rfl (dT N) rfl) (Ar rfl (Kz (.pointer (some ⟨B,18,none⟩)) (Lz (.slice b a.ax.ls.length h) dM 0 Tryz.isAgg25 (Kz (.int .i64 ((a.ax.ls.length:Nat):Int)) (Mn rfl (bo ?_)))))))
 have iR:=dM.pk []
 obtain⟨dN,fM⟩:∃ q:(Bool × Nat)→World→Prop,q=fun(i:Bool × Nat) w'=>Own w D w' []∧(i.2≤a.ax.ls.length∧fG a.ax.ls (decide (Y=0))=fG (List.drop i.2 a.ax.ls) i.1):=⟨_,rfl⟩
 have ay:∀ {S:Bool} {n:Nat} {w':World},dN (S,n) w'↔Own w D w' []∧n≤a.ax.ls.length∧fG a.ax.ls (decide (Y=0))=fG (List.drop n a.ax.ls) S:=by intros; subst fM; exact Iff.rfl
 refine Wp.loop (fun i:Bool × Nat=> [(3, .bool i.1),(119, .int .i64 ((i.2:Nat):Int)),(118, .int .i64 ((a.ax.ls.length:Nat):Int)),(117, .slice b a.ax.ls.length h),(2, .int .i64 0)]) dN (fun i=>a.ax.ls.length - i.2) (decide (Y=0),0) ⟨rfl,rfl,rfl,rfl,rfl,trivial⟩ (ay.2 ⟨iR,by omega,rfl⟩) ?_
 rintro ⟨S,n⟩ kW fO
 show Wp _ _ _ [(3, .bool S),(119, .int .i64 ((n:Nat):Int)),(118, .int .i64 ((a.ax.ls.length:Nat):Int)),(117, .slice b a.ax.ls.length h),(2, .int .i64 0)] _ _
 obtain⟨ak,jX,aT⟩:=ay.1 fO
 refine sr (Kz (.bool (decide (((n:Nat):Int) < ((a.ax.ls.length:Nat):Int)))) (nt (yJ ?_)))
 by_cases dO:((n:Nat):Int) < ((a.ax.ls.length:Nat):Int)
 obtain⟨au,bO⟩:=dV (ls:=a.ax.ls) (i:=n) aB.len (by decide) (ak.ro t) (by first | omega | (simp; done) | (simp; omega))
 have bP:=drop_at bO
 refine jT (dT dO) (sk (yJ (bo (sr (fw (.pointer (some ⟨ab b,ao b+n *6,none⟩)) (yZ (l8) rfl rfl ((ak.ro t).addr (i:=n) (by omega)) (by omega)) (fw (.agg (aB.cells au).toArray) (y5 rfl (zg (cs:=(aB.cells au)) Tryz.isAgg64 Tryz.sizeOf64 ((ak.ro t).elem aB.len bO (by decide)))) ?_))))))
 refine dE [.int .i64 0, .string ⟨List.toArray ([])⟩, .string ⟨List.toArray ([])⟩, .string ⟨List.toArray ([])⟩, .string ⟨List.toArray ([])⟩, .int .i64 0] 64 ak ?_
 intro kX kY iT
 refine bz (aB.cells au) 0 iT Tryz.sizeOf64 ?_
 intro kZ bQ
 refine nt (yK (Mz rfl (Mz rfl ?_)))
 rcases BL (S) with W | W
 refine Ga (aB.cells au) W bQ 0 Tryz.isAgg64 Tryz.sizeOf64 ?_
 obtain⟨bR,bS⟩:∃ q,jQ au=q:=⟨_,rfl⟩
 obtain⟨lc,fP,jY,fQ,jZ⟩:=yP bQ
 refine zC rfl rfl W rfl (zf Tryz.call36 rfl (rG _ _ au bR fP bS) ?_)
 rintro _ lg ⟨rfl,fT⟩
 have iV:=fQ _ _ fT
 refine fw (.bool bR) (yN rfl W rfl) (Az rfl (WL.nil (bN (yL (yK (fw (.int .i64 ((n+1:Nat):Int)) (yS (e:=IntKind.i64.wrap (((n:Nat):Int)+1)) yk (by rw [BI _ (by omega)]; omega)) (Mz rfl (WL.nil ?_))))))))
 have iW:=iV.pk []
 exact yY (bR,n+1) ⟨rfl,rfl,rfl,rfl,rfl,trivial⟩ (ay.2 ⟨iW,by omega,et (aT) (et (congrArg (fun q=>fG q S) bP) (et (ip W) (aa bS)))⟩) (by show a.ax.ls.length - (n+1) < a.ax.ls.length - n; omega)
 refine Sz W (Sz W (fw (.bool false) (yM rfl W rfl) (Az rfl (WL.nil (bN (yL (yK (fw (.int .i64 ((n+1:Nat):Int)) (yS (e:=IntKind.i64.wrap (((n:Nat):Int)+1)) yk (by rw [BI _ (by omega)]; omega)) (Mz rfl (WL.nil ?_))))))))))
 have iX:=bQ.pk []
 exact yY (false,n+1) ⟨rfl,rfl,rfl,rfl,rfl,trivial⟩ (ay.2 ⟨iX,(show (n+1)≤a.ax.ls.length∧fG a.ax.ls (decide (Y=0))=fG (List.drop (n+1) a.ax.ls) false from ⟨by omega,et (aT) (et (congrArg (fun q=>fG q S) bP) (dz W))⟩)⟩) (by show a.ax.ls.length - (n+1) < a.ax.ls.length - n; omega)
 refine jF (dF dO) (Wp.exit (yV ?_))
 have bT:fG a.ax.ls (decide (Y=0))=S:=et (aT) (et (congrArg (fun q=>fG q S) (dZ (ls:=a.ax.ls) (i:=n) (by omega))) rfl)
 refine yV (y8 (bN (yL (yJ (sr (Mz rfl (Kz (.bool (!S)) (nt ?_))))))))
 rcases BL (S) with aG | aG
 refine jF (cn aG) (sk (sr (An rfl (rt (rs ?_)))))
 have iY:=ak.pk []
 obtain rfl:_=0:=hr.symm.trans (et (aa d) (et (iN j) (et (aa f) (et (ip k) (et (aa g) (et (ip p) (et (iN r) (et (iN z) (et (iN m) (et (iN y) (et (iN O) (et (iN U) (et (ip ae) (et (ip J) (et (aa ax) (et (ip N) (et (aa aS) (et (aa bT) (ip aG)))))))))))))))))))
 exact⟨rfl,iY⟩
 refine jT (cn aG) (sr (An rfl (rt (tR (rs ?_)))))
 have iZ:=ak.pk []
 obtain rfl:_=180:=hr.symm.trans (et (aa d) (et (iN j) (et (aa f) (et (ip k) (et (aa g) (et (ip p) (et (iN r) (et (iN z) (et (iN m) (et (iN y) (et (iN O) (et (iN U) (et (ip ae) (et (ip J) (et (aa ax) (et (ip N) (et (aa aS) (et (aa bT) (dz aG)))))))))))))))))))
 exact⟨rfl,iZ⟩
 refine Sz (dF N) (Sz (dF N) (Sz (dF N) (Sz (dF N) (fw (.bool false) (yM rfl (dF N) rfl) (Ar rfl (Kz (.pointer (some ⟨B,18,none⟩)) (Lz (.slice b a.ax.ls.length h) bv 0 Tryz.isAgg25 (Kz (.int .i64 ((a.ax.ls.length:Nat):Int)) (Mn rfl (bo ?_))))))))))
 have ja:=bv.pk []
 obtain⟨dP,fU⟩:∃ q:Nat→World→Prop,q=fun(i:Nat) w'=>Own w D w' []∧(i≤a.ax.ls.length∧jb a.ax.ls=jb (List.drop i a.ax.ls)):=⟨_,rfl⟩
 have aU:∀ {C:Nat} {w':World},dP C w'↔Own w D w' []∧C≤a.ax.ls.length∧jb a.ax.ls=jb (List.drop C a.ax.ls):=by intros; subst fU; exact Iff.rfl
 refine Wp.loop (fun i:Nat=> [(3, .bool false),(119, .int .i64 ((i:Nat):Int)),(118, .int .i64 ((a.ax.ls.length:Nat):Int)),(117, .slice b a.ax.ls.length h),(2, .int .i64 0)]) dP (fun i=>a.ax.ls.length - i) 0 ⟨rfl,rfl,rfl,rfl,rfl,trivial⟩ (aU.2 ⟨ja,by omega,rfl⟩) ?_
 rintro C lh fV
 show Wp _ _ _ [(3, .bool false),(119, .int .i64 ((C:Nat):Int)),(118, .int .i64 ((a.ax.ls.length:Nat):Int)),(117, .slice b a.ax.ls.length h),(2, .int .i64 0)] _ _
 obtain⟨aH,j3,bU⟩:=aU.1 fV
 refine sr (Kz (.bool (decide (((C:Nat):Int) < ((a.ax.ls.length:Nat):Int)))) (nt (yJ ?_)))
 by_cases dQ:((C:Nat):Int) < ((a.ax.ls.length:Nat):Int)
 obtain⟨bV,bW⟩:=dV (ls:=a.ax.ls) (i:=C) aB.len (by decide) (aH.ro t) (by first | omega | (simp; done) | (simp; omega))
 have fZ:=drop_at bW
 refine jT (dT dQ) (sk (yJ (bo (sr (fw (.pointer (some ⟨ab b,ao b+C *6,none⟩)) (yZ (l8) rfl rfl ((aH.ro t).addr (i:=C) (by omega)) (by omega)) (fw (.agg (aB.cells bV).toArray) (y5 rfl (zg (cs:=(aB.cells bV)) Tryz.isAgg64 Tryz.sizeOf64 ((aH.ro t).elem aB.len bW (by decide)))) ?_))))))
 refine dE [.int .i64 0, .string ⟨List.toArray ([])⟩, .string ⟨List.toArray ([])⟩, .string ⟨List.toArray ([])⟩, .string ⟨List.toArray ([])⟩, .int .i64 0] 64 aH ?_
 intro ll lm jd
 refine bz (aB.cells bV) 0 jd Tryz.sizeOf64 ?_
 intro lq je
 refine nt (yK (Mz rfl (Mz rfl (Sz rfl (Sz rfl (fw (.bool false) (yM rfl rfl rfl) (Az rfl (WL.nil (bN (yL (yK (fw (.int .i64 ((C+1:Nat):Int)) (yS (e:=IntKind.i64.wrap (((C:Nat):Int)+1)) yk (by rw [BI _ (by omega)]; omega)) (Mz rfl (WL.nil ?_))))))))))))))
 have jg:=je.pk []
 exact yY (C+1) ⟨rfl,rfl,rfl,rfl,rfl,trivial⟩ (aU.2 ⟨jg,by omega,et (bU) (et (congrArg (fun q=>jb q) fZ) rfl)⟩) (by show a.ax.ls.length - (C+1) < a.ax.ls.length - C; omega)
 refine jF (dF dQ) (Wp.exit (yV ?_))
 have gm:jb a.ax.ls=():=et (bU) (et (congrArg (fun q=>jb q) (dZ (ls:=a.ax.ls) (i:=C) (by omega))) rfl)
 refine yV (y8 (bN (yL (yJ (sr (Mz rfl (Kz (.bool true) (nt (jt (sr (An rfl (rt (tR (rs ?_))))))))))))))
 have jh:=aH.pk []
 obtain rfl:_=180:=hr.symm.trans (et (aa d) (et (iN j) (et (aa f) (et (ip k) (et (aa g) (et (ip p) (et (iN r) (et (iN z) (et (iN m) (et (iN y) (et (iN O) (et (iN U) (et (ip ae) (et (ip J) (et (aa ax) (et (iN N) (aa gm)))))))))))))))))
 exact⟨rfl,jh⟩
 refine Sz (dF J) (Sz (dF J) (Sz (dF J) (Sz (dF J) (fw (.bool false) (yM rfl (dF J) rfl) (Mz rfl (Sz rfl (Sz rfl (Sz rfl (Sz rfl (fw (.bool false) (yM rfl rfl rfl) (Ar rfl (Kz (.pointer (some ⟨B,18,none⟩)) (Lz (.slice b a.ax.ls.length h) l 0 Tryz.isAgg25 (Kz (.int .i64 ((a.ax.ls.length:Nat):Int)) (Mn rfl (bo ?_))))))))))))))))
 have ji:=l.pk []
 obtain⟨dR,gp⟩:∃ q:Nat→World→Prop,q=fun(i:Nat) w'=>Own w D w' []∧(i≤a.ax.ls.length∧jc a.ax.ls=jc (List.drop i a.ax.ls)):=⟨_,rfl⟩
 have aV:∀ {E:Nat} {w':World},dR E w'↔Own w D w' []∧E≤a.ax.ls.length∧jc a.ax.ls=jc (List.drop E a.ax.ls):=by intros; subst gp; exact Iff.rfl
 refine Wp.loop (fun i:Nat=> [(3, .bool false),(119, .int .i64 ((i:Nat):Int)),(118, .int .i64 ((a.ax.ls.length:Nat):Int)),(117, .slice b a.ax.ls.length h),(2, .int .i64 0)]) dR (fun i=>a.ax.ls.length - i) 0 ⟨rfl,rfl,rfl,rfl,rfl,trivial⟩ (aV.2 ⟨ji,by omega,rfl⟩) ?_
 rintro E lu gq
 show Wp _ _ _ [(3, .bool false),(119, .int .i64 ((E:Nat):Int)),(118, .int .i64 ((a.ax.ls.length:Nat):Int)),(117, .slice b a.ax.ls.length h),(2, .int .i64 0)] _ _
 obtain⟨aI,j4,bX⟩:=aV.1 gq
 refine sr (Kz (.bool (decide (((E:Nat):Int) < ((a.ax.ls.length:Nat):Int)))) (nt (yJ ?_)))
 by_cases dS:((E:Nat):Int) < ((a.ax.ls.length:Nat):Int)
 obtain⟨bY,bZ⟩:=dV (ls:=a.ax.ls) (i:=E) aB.len (by decide) (aI.ro t) (by first | omega | (simp; done) | (simp; omega))
 have gu:=drop_at bZ
 refine jT (dT dS) (sk (yJ (bo (sr (fw (.pointer (some ⟨ab b,ao b+E *6,none⟩)) (yZ (l8) rfl rfl ((aI.ro t).addr (i:=E) (by omega)) (by omega)) (fw (.agg (aB.cells bY).toArray) (y5 rfl (zg (cs:=(aB.cells bY)) Tryz.isAgg64 Tryz.sizeOf64 ((aI.ro t).elem aB.len bZ (by decide)))) ?_))))))
 refine dE [.int .i64 0, .string ⟨List.toArray ([])⟩, .string ⟨List.toArray ([])⟩, .string ⟨List.toArray ([])⟩, .string ⟨List.toArray ([])⟩, .int .i64 0] 64 aI ?_
 intro lv lw jk
 refine bz (aB.cells bY) 0 jk Tryz.sizeOf64 ?_
 intro lC jl
 refine nt (yK (Mz rfl (Mz rfl (Sz rfl (Sz rfl (fw (.bool false) (yM rfl rfl rfl) (Az rfl (WL.nil (bN (yL (yK (fw (.int .i64 ((E+1:Nat):Int)) (yS (e:=IntKind.i64.wrap (((E:Nat):Int)+1)) yk (by rw [BI _ (by omega)]; omega)) (Mz rfl (WL.nil ?_))))))))))))))
 have jm:=jl.pk []
 exact yY (E+1) ⟨rfl,rfl,rfl,rfl,rfl,trivial⟩ (aV.2 ⟨jm,by omega,et (bX) (et (congrArg (fun q=>jc q) gu) rfl)⟩) (by show a.ax.ls.length - (E+1) < a.ax.ls.length - E; omega)
 refine jF (dF dS) (Wp.exit (yV ?_))
 have gy:jc a.ax.ls=():=et (bX) (et (congrArg (fun q=>jc q) (dZ (ls:=a.ax.ls) (i:=E) (by omega))) rfl)
 refine yV (y8 (bN (yL (yJ (sr (Mz rfl (Kz (.bool true) (nt (jt (sr (An rfl (rt (tR (rs ?_))))))))))))))
 have jq:=aI.pk []
 obtain rfl:_=180:=hr.symm.trans (et (aa d) (et (iN j) (et (aa f) (et (ip k) (et (aa g) (et (ip p) (et (iN r) (et (iN z) (et (iN m) (et (iN y) (et (iN O) (et (iN U) (et (ip ae) (et (iN J) (aa gy)))))))))))))))
 exact⟨rfl,jq⟩
 refine jF (dF ae) (zm (bN (yL (yJ (sr (Mz rfl (Kz (.bool false) (nt (jf (sk (sr (An rfl (rt (rs ?_))))))))))))))
 have jr:=l.pk []
 obtain rfl:_=0:=hr.symm.trans (et (aa d) (et (iN j) (et (aa f) (et (ip k) (et (aa g) (et (ip p) (et (iN r) (et (iN z) (et (iN m) (et (iN y) (et (iN O) (et (iN U) (iN ae)))))))))))))
 exact⟨rfl,jr⟩
 refine jT (cn p) (sr (An rfl (rt (tR (rs ?_)))))
 have jv:=l.pk []
 obtain rfl:_=180:=hr.symm.trans (et (aa d) (et (iN j) (et (aa f) (et (ip k) (et (aa g) (dz p))))))
 exact⟨rfl,jv⟩
 refine Sz (cn k) (Sz (cn k) (Sz (cn k) (fw (.bool true) (yN rfl (cn k) rfl) (nt (jt (sr (An rfl (rt (tR (rs ?_))))))))))
 have jw:=d9.pk []
 obtain rfl:_=180:=hr.symm.trans (et (aa d) (et (iN j) (et (aa f) (dz k))))
 exact⟨rfl,jw⟩
end Go.Proofs.YtccjclalngabhaaGreat
