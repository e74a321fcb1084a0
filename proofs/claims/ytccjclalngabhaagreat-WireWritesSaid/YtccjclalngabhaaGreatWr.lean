/-
 wire: the document's answer, which messages may be.
-/
import Derived.Test.YtccjclalngabhaaGreatWiC
namespace Go.Proofs.YtccjclalngabhaaGreat
open Go.RowKit
set_option linter.unusedVariables false
set_option linter.unusedSectionVars false
set_option linter.unusedSimpArgs false
def r02_Check (p0 : RangeD) : Int :=
 if ((p0.xLo.length : Nat) : Int) > 12 then 21 else if ((p0.xHi.length : Nat) : Int) > 12 then 21 else if p0.xHi ≠ ([]) then if p0.xHi ≤ p0.xLo then 21 else 0 else 0
set_option maxRecDepth 100000 in
theorem r02_Check_ok (w : World) (D : Nat → Prop) (p0 : RangeD) (r0 : Int) (H : Own w D w [])  (hr : r02_Check p0 = r0) :
    Calls Tryz.prog 35 #[.agg (RangeD.cells p0).toArray] w (Ret fun v w' => v = .int .i64 r0 ∧ Own w D w' []) := by
 refine Calls.body (args := [.agg (RangeD.cells p0).toArray]) Tryz.func35 rfl rfl rfl ?_
 show Wp _ _ _ [(0, .agg (RangeD.cells p0).toArray)] _ _
 refine sr ?_
 refine npw (RangeD.cells p0) 24 H ?_
 intro g21 w22 H23
 refine An rfl (Wp.seq (sr (Kz (.pointer (some ⟨g21, 0, none⟩)) (Lz (.string ⟨List.toArray p0.xLo⟩) H23 0 Tryz.isAgg9 (Kz (.int .i64 ((p0.xLo.length : Nat) : Int)) (Kz (.bool (decide (((p0.xLo.length : Nat) : Int) > 12))) (Mz rfl ?_)))))))
 by_cases h24 : ((p0.xLo.length : Nat) : Int) > 12
 refine Sz (dT h24) (Sz (dT h24) (Sz (dT h24) (Sz (dT h24) (fw (.bool true) (Yl.pickT rfl (dT h24) rfl) (Mz rfl (Sz rfl (Sz rfl (Sz rfl (Sz rfl (WL.skipU rfl rfl rfl (WL.skipU rfl rfl rfl (WL.skipU rfl rfl rfl (WL.skipU rfl rfl rfl (WL.skipU rfl rfl rfl (Sz rfl (fw (.bool true) (Yl.pickT rfl rfl rfl) (nt (jt (sr (An rfl (rt (tR (rs ?_)))))))))))))))))))))))
 have H25 := H23.pk []
 obtain rfl : _ = 21 := hr.symm.trans (ip h24)
 exact ⟨rfl, H25⟩
 refine Gz (.pointer (some ⟨g21, 1, none⟩)) (dF h24) (Gl (.string ⟨List.toArray p0.xHi⟩) (dF h24) H23 0 Tryz.isAgg9 (Gz (.int .i64 ((p0.xHi.length : Nat) : Int)) (dF h24) (Gz (.bool (decide (((p0.xHi.length : Nat) : Int) > 12))) (dF h24) (fw (.bool (decide (((p0.xHi.length : Nat) : Int) > 12))) (Yl.pickF rfl (dF h24) rfl) (Mz rfl ?_)))))
 by_cases h26 : ((p0.xHi.length : Nat) : Int) > 12
 refine Sz (dT h26) (Sz (dT h26) (Sz (dT h26) (Sz (dT h26) (WL.skipU rfl rfl rfl (WL.skipU rfl rfl rfl (WL.skipU rfl rfl rfl (WL.skipU rfl rfl rfl (WL.skipU rfl rfl rfl (Sz (dT h26) (fw (.bool true) (Yl.pickT rfl (dT h26) rfl) (nt (jt (sr (An rfl (rt (tR (rs ?_)))))))))))))))))
 have H27 := H23.pk []
 obtain rfl : _ = 21 := hr.symm.trans (et (iN h24) (ip h26))
 exact ⟨rfl, H27⟩
 refine Gz (.pointer (some ⟨g21, 1, none⟩)) (dF h26) (Gl (.string ⟨List.toArray p0.xHi⟩) (dF h26) H23 0 Tryz.isAgg9 (gw (.bool (decide (p0.xHi ≠ ([])))) (dF h26) (Yl.strNe rfl rfl) (gw (.bool (decide (p0.xHi ≠ ([])))) (dF h26) (Yl.move rfl) ?_)))
 by_cases h28 : p0.xHi ≠ ([])
 refine Gz (.pointer (some ⟨g21, 0, none⟩)) (dT h28) (Gl (.string ⟨List.toArray p0.xLo⟩) (dT h28) H23 0 Tryz.isAgg9 (Gz (.pointer (some ⟨g21, 1, none⟩)) (dT h28) (Gl (.string ⟨List.toArray p0.xHi⟩) (dT h28) H23 0 Tryz.isAgg9 (gw (.bool (decide (p0.xHi ≤ p0.xLo))) (dT h28) (Yl.bool (e := !(Op.bytesLess p0.xLo p0.xHi)) (Yl.strGe rfl rfl) (bl_ge _ _)) (gw (.bool (decide (p0.xHi ≤ p0.xLo))) (dF h26) (Yl.pickT rfl (dT h28) rfl) (fw (.bool (decide (p0.xHi ≤ p0.xLo))) (Yl.pickF rfl (dF h26) rfl) (nt ?_)))))))
 by_cases h29 : p0.xHi ≤ p0.xLo
 refine jT (dT h29) (sr (An rfl (rt (tR (rs ?_)))))
 have H30 := H23.pk []
 obtain rfl : _ = 21 := hr.symm.trans (et (iN h24) (et (iN h26) (et (ip h28) (ip h29))))
 exact ⟨rfl, H30⟩
 refine jF (dF h29) (sk (sr (An rfl (rt (rs ?_)))))
 have H31 := H23.pk []
 obtain rfl : _ = 0 := hr.symm.trans (et (iN h24) (et (iN h26) (et (ip h28) (iN h29))))
 exact ⟨rfl, H31⟩
 refine Sz (dF h28) (Sz (dF h28) (Sz (dF h28) (Sz (dF h28) (Sz (dF h28) (gw (.bool false) (dF h26) (Yl.pickF rfl (dF h28) rfl) (fw (.bool false) (Yl.pickF rfl (dF h26) rfl) (nt (jf (sk (sr (An rfl (rt (rs ?_)))))))))))))
 have H32 := H23.pk []
 obtain rfl : _ = 0 := hr.symm.trans (et (iN h24) (et (iN h26) (iN h28)))
 exact ⟨rfl, H32⟩
def r02_CheckKey (p0 : List UInt8) : Int :=
 if ((p0.length : Nat) : Int) < 1 then 20 else if ((p0.length : Nat) : Int) > 12 then 20 else 0
set_option maxRecDepth 100000 in
theorem r02_CheckKey_ok (w : World) (D : Nat → Prop) (p0 : List UInt8) (r0 : Int) (H : Own w D w [])  (hr : r02_CheckKey p0 = r0) :
    Calls Tryz.prog 74 #[.string ⟨List.toArray p0⟩] w (Ret fun v w' => v = .int .i64 r0 ∧ Own w D w' [] ∧ (¬ (r0 = 0) ∨ (1 ≤ p0.length ∧ p0.length ≤ 12))) := by
 refine Calls.body (args := [.string ⟨List.toArray p0⟩]) Tryz.func74 rfl rfl rfl ?_
 show Wp _ _ _ [(0, .string ⟨List.toArray p0⟩)] _ _
 refine sr (An rfl (Wp.seq (sr (Mz rfl (Kz (.int .i64 ((p0.length : Nat) : Int)) (Kz (.bool (decide (((p0.length : Nat) : Int) < 1))) (Mz rfl ?_)))))))
 by_cases h21 : ((p0.length : Nat) : Int) < 1
 refine Sz (dT h21) (Sz (dT h21) (Sz (dT h21) (fw (.bool true) (Yl.pickT rfl (dT h21) rfl) (nt (jt (sr (An rfl (rt (tR (rs ?_))))))))))
 have H22 : Own w D w [] := H.pk []
 obtain rfl : _ = 20 := hr.symm.trans (ip h21)
 exact ⟨rfl, H22, (by omega)⟩
 refine gw (.string ⟨List.toArray p0⟩) (dF h21) (Yl.move rfl) (Gz (.int .i64 ((p0.length : Nat) : Int)) (dF h21) (Gz (.bool (decide (((p0.length : Nat) : Int) > 12))) (dF h21) (fw (.bool (decide (((p0.length : Nat) : Int) > 12))) (Yl.pickF rfl (dF h21) rfl) (nt ?_))))
 by_cases h23 : ((p0.length : Nat) : Int) > 12
 refine jT (dT h23) (sr (An rfl (rt (tR (rs ?_)))))
 have H24 : Own w D w [] := H.pk []
 obtain rfl : _ = 20 := hr.symm.trans (et (iN h21) (ip h23))
 exact ⟨rfl, H24, (by omega)⟩
 refine jF (dF h23) (sk (sr (An rfl (rt (rs ?_)))))
 have H25 : Own w D w [] := H.pk []
 obtain rfl : _ = 0 := hr.symm.trans (et (iN h21) (iN h23))
 exact ⟨rfl, H25, (by omega)⟩
def r04_CheckOp (p0 : OpD) : Int :=
 if p0.xKind = 1 then if p0.xLo ≠ ([]) then 40 else if p0.xHi ≠ ([]) then 40 else if p0.xValue ≠ ([]) then 40 else if p0.xMost = 0 then bnd (r02_CheckKey p0.xKey) fun yr41 => if yr41 = 0 then if ((p0.xValue.length : Nat) : Int) > 16 then 2 else 0 else 20 else 40 else if p0.xKind = 2 then if p0.xLo ≠ ([]) then 40 else if p0.xHi ≠ ([]) then 40 else if p0.xMost = 0 then bnd (r02_CheckKey p0.xKey) fun yr68 => if yr68 = 0 then if ((p0.xValue.length : Nat) : Int) > 16 then 2 else 0 else 20 else 40 else if p0.xKind = 4 then if p0.xKey ≠ ([]) then 40 else if p0.xValue ≠ ([]) then 40 else if ((p0.xValue.length : Nat) : Int) > 16 then 2 else bnd (r02_Check (RangeD.mk p0.xLo p0.xHi)) fun yr96 => if yr96 = 0 then if p0.xMost < 1 then 1 else if p0.xMost > 4 then 1 else 0 else 21 else if p0.xKind = 3 then if p0.xLo ≠ ([]) then 40 else if p0.xHi ≠ ([]) then 40 else if p0.xValue ≠ ([]) then 40 else if p0.xMost = 0 then bnd (r02_CheckKey p0.xKey) fun yr124 => if yr124 = 0 then if ((p0.xValue.length : Nat) : Int) > 16 then 2 else 0 else 20 else 40 else if p0.xKind = 5 then if p0.xKey ≠ ([]) then 40 else if p0.xValue ≠ ([]) then 40 else if p0.xMost = 0 then if ((p0.xValue.length : Nat) : Int) > 16 then 2 else bnd (r02_Check (RangeD.mk p0.xLo p0.xHi)) fun yr151 => if yr151 = 0 then 0 else 21 else 40 else 40
set_option maxRecDepth 100000 in
theorem r04_CheckOp_ok (w : World) (D : Nat → Prop) (p0 : OpD) (r0 : Int) (H : Own w D w [])  (hr : r04_CheckOp p0 = r0) :
    Calls Tryz.prog 75 #[.agg (OpD.cells p0).toArray] w (Ret fun v w' => v = .int .i64 r0 ∧ Own w D w' [] ∧ (¬ (r0 = 0) ∨ (1 ≤ p0.xKind ∧ p0.xKind ≤ 5))) := by
 refine Calls.body (args := [.agg (OpD.cells p0).toArray]) Tryz.func75 rfl rfl rfl ?_
 show Wp _ _ _ [(0, .agg (OpD.cells p0).toArray)] _ _
 refine sr ?_
 refine npw (OpD.cells p0) 64 H ?_
 intro g21 w22 H23
 refine Ar rfl (Kz (.pointer (some ⟨g21, 0, none⟩)) (Lz (.int .i64 p0.xKind) H23 0 Tryz.isAgg3 (Kz (.bool (decide (p0.xKind = 1))) (Mz rfl ?_))))
 by_cases h24 : p0.xKind = 1
 refine Sz (dT h24) (Sz (dT h24) (Sz (dT h24) (fw (.bool true) (Yl.pickT rfl (dT h24) rfl) (Mz rfl (Sz rfl (Sz rfl (Sz rfl (fw (.bool true) (Yl.pickT rfl rfl rfl) (Ar rfl (Kz (.pointer (some ⟨g21, 0, none⟩)) (Lz (.int .i64 p0.xKind) H23 0 Tryz.isAgg3 (Kz (.bool (decide (p0.xKind = 4))) (Mz rfl ?_)))))))))))))
 have hb25 : (decide (p0.xKind = 4)) = false := (dF (by omega))
 refine Gz (.pointer (some ⟨g21, 0, none⟩)) hb25 (Gl (.int .i64 p0.xKind) hb25 H23 0 Tryz.isAgg3 (Gz (.bool (decide (p0.xKind = 5))) hb25 (fw (.bool (decide (p0.xKind = 5))) (Yl.pickF rfl hb25 rfl) (An rfl (Wp.seq (sr (Mz rfl (Kz (.bool false) (Mz rfl (Sz rfl (Sz rfl (fw (.bool false) (Yl.pickF rfl rfl rfl) (Mz rfl (gw (.bool true) rfl (Yl.move rfl) (gw (.bool true) rfl (Yl.move rfl) (Gz (.pointer (some ⟨g21, 3, none⟩)) rfl (Gl (.string ⟨List.toArray p0.xLo⟩) rfl H23 0 Tryz.isAgg9 (gw (.bool (decide (p0.xLo ≠ ([])))) rfl (Yl.strNe rfl rfl) (gw (.bool (decide (p0.xLo ≠ ([])))) rfl (Yl.move rfl) ?_)))))))))))))))))))
 by_cases h26 : p0.xLo ≠ ([])
 refine Sz (dT h26) (Sz (dT h26) (Sz (dT h26) (gw (.bool true) rfl (Yl.pickT rfl (dT h26) rfl) (gw (.bool true) rfl (Yl.pickT rfl rfl rfl) (fw (.bool true) (Yl.pickF rfl rfl rfl) (Mz rfl (Sz rfl (Sz rfl (WL.skipU rfl rfl rfl (WL.skipU rfl rfl rfl (WL.skipU rfl rfl rfl (Sz rfl (fw (.bool true) (Yl.pickT rfl rfl rfl) (Mz rfl (Sz rfl (Sz rfl (Sz rfl (Sz rfl (WL.skipU rfl rfl rfl (WL.skipU rfl rfl rfl (WL.skipU rfl rfl rfl (Sz rfl (fw (.bool true) (Yl.pickT rfl rfl rfl) (Mz rfl (Sz rfl (Sz rfl (Sz rfl (Sz rfl (WL.skipU rfl rfl rfl (WL.skipU rfl rfl rfl (WL.skipU rfl rfl rfl (Sz rfl (fw (.bool true) (Yl.pickT rfl rfl rfl) (nt (jt (sr (Az rfl ?_)))))))))))))))))))))))))))))))))))))
 refine nt (rt (tR (rs ?_)))
 have H27 := H23.pk []
 obtain rfl : _ = 40 := hr.symm.trans (et (ip h24) (ip h26))
 exact ⟨rfl, H27, (by omega)⟩
 refine Gz (.pointer (some ⟨g21, 4, none⟩)) (dF h26) (Gl (.string ⟨List.toArray p0.xHi⟩) (dF h26) H23 0 Tryz.isAgg9 (gw (.bool (decide (p0.xHi ≠ ([])))) (dF h26) (Yl.strNe rfl rfl) (gw (.bool (decide (p0.xHi ≠ ([])))) rfl (Yl.pickF rfl (dF h26) rfl) (gw (.bool (decide (p0.xHi ≠ ([])))) rfl (Yl.pickT rfl rfl rfl) (fw (.bool (decide (p0.xHi ≠ ([])))) (Yl.pickF rfl rfl rfl) (Mz rfl ?_))))))
 by_cases h28 : p0.xHi ≠ ([])
 refine Sz (dT h28) (Sz (dT h28) (WL.skipU rfl rfl rfl (WL.skipU rfl rfl rfl (WL.skipU rfl rfl rfl (Sz (dT h28) (fw (.bool true) (Yl.pickT rfl (dT h28) rfl) (Mz rfl (Sz rfl (Sz rfl (Sz rfl (Sz rfl (WL.skipU rfl rfl rfl (WL.skipU rfl rfl rfl (WL.skipU rfl rfl rfl (Sz rfl (fw (.bool true) (Yl.pickT rfl rfl rfl) (Mz rfl (Sz rfl (Sz rfl (Sz rfl (Sz rfl (WL.skipU rfl rfl rfl (WL.skipU rfl rfl rfl (WL.skipU rfl rfl rfl (Sz rfl (fw (.bool true) (Yl.pickT rfl rfl rfl) (nt (jt (sr (An rfl (rt (tR (rs ?_)))))))))))))))))))))))))))))))))
 have H29 := H23.pk []
 obtain rfl : _ = 40 := hr.symm.trans (et (ip h24) (et (iN h26) (ip h28)))
 exact ⟨rfl, H29, (by omega)⟩
 refine gw (.bool (decide (p0.xKind = 5))) (dF h28) (Yl.move rfl) (gw (.bool (decide (p0.xKind = 5))) (dF h28) (Yl.move rfl) ?_)
 have hb30 : (decide (p0.xKind = 5)) = false := (dF (by omega))
 refine Sz hb30 (Sz hb30 (Sz hb30 (gw (.bool false) (dF h28) (Yl.pickF rfl hb30 rfl) (fw (.bool false) (Yl.pickF rfl (dF h28) rfl) (Mz rfl (Gz (.pointer (some ⟨g21, 0, none⟩)) rfl (Gl (.int .i64 p0.xKind) rfl H23 0 Tryz.isAgg3 (gw (.bool (decide (¬ (p0.xKind = 2)))) rfl (Yl.bool (e := !(decide (p0.xKind = 2))) yk decide_not.symm) (gw (.bool (decide (¬ (p0.xKind = 2)))) rfl (Yl.move rfl) ?_)))))))))
 have hb31 : (decide (¬ (p0.xKind = 2))) = true := (dT (by omega))
 refine Gz (.pointer (some ⟨g21, 2, none⟩)) hb31 (Gl (.string ⟨List.toArray p0.xValue⟩) hb31 H23 0 Tryz.isAgg9 (WL.valG (v := .bool (decide (p0.xValue ≠ ([])))) rfl rfl hb31 rfl (Yl.strNe rfl rfl) (gw (.bool (decide (p0.xValue ≠ ([])))) rfl (Yl.pickT rfl hb31 rfl) (fw (.bool (decide (p0.xValue ≠ ([])))) (Yl.pickF rfl rfl rfl) (Mz rfl ?_)))))
 by_cases h32 : p0.xValue ≠ ([])
 refine Sz (dT h32) (Sz (dT h32) (Sz (dT h32) (Sz (dT h32) (WL.skipU rfl rfl rfl (WL.skipU rfl rfl rfl (WL.skipU rfl rfl rfl (Sz (dT h32) (fw (.bool true) (Yl.pickT rfl (dT h32) rfl) (nt (jt (sr (An rfl (rt (tR (rs ?_)))))))))))))))
 have H33 := H23.pk []
 obtain rfl : _ = 40 := hr.symm.trans (et (ip h24) (et (iN h26) (et (iN h28) (ip h32))))
 exact ⟨rfl, H33, (by omega)⟩
 refine Gz (.pointer (some ⟨g21, 0, none⟩)) (dF h32) (Gl (.int .i64 p0.xKind) (dF h32) H23 0 Tryz.isAgg3 (gw (.bool (decide (¬ (p0.xKind = 4)))) (dF h32) (Yl.bool (e := !(decide (p0.xKind = 4))) yk decide_not.symm) (gw (.bool (decide (¬ (p0.xKind = 4)))) (dF h32) (Yl.move rfl) ?_)))
 have hb34 : (decide (¬ (p0.xKind = 4))) = true := (dT (by omega))
 refine Gz (.pointer (some ⟨g21, 5, none⟩)) hb34 (Gl (.int .i64 p0.xMost) hb34 H23 0 Tryz.isAgg3 (WL.valG (v := .bool (decide (¬ (p0.xMost = 0)))) rfl rfl hb34 rfl (Yl.bool (e := !(decide (p0.xMost = 0))) yk decide_not.symm) (gw (.bool (decide (¬ (p0.xMost = 0)))) (dF h32) (Yl.pickT rfl hb34 rfl) (fw (.bool (decide (¬ (p0.xMost = 0)))) (Yl.pickF rfl (dF h32) rfl) (nt ?_)))))
 by_cases h35 : p0.xMost = 0
 refine jF (dF (not_not_intro h35)) (sk (Wp.seq (sr (Mz rfl (Mz rfl (Gz (.pointer (some ⟨g21, 1, none⟩)) rfl (Gl (.string ⟨List.toArray p0.xKey⟩) rfl H23 0 Tryz.isAgg9 ?_)))))))
 obtain ⟨r41, hr42⟩ : ∃ q, r02_CheckKey p0.xKey = q := ⟨_, rfl⟩
 obtain ⟨D36, HP37, ro38, bk39, rr40⟩ := Own.enter0 H23
 refine clG rfl Tryz.call74 (r02_CheckKey_ok _ _ p0.xKey r41 HP37 hr42) ?_
 rintro _ w43 ⟨rfl, HQ44, hk46⟩
 have H45 := bk39 _ _ HQ44
 replace hk46 : ¬ (r41 = 0) ∨ (1 ≤ p0.xKey.length ∧ p0.xKey.length ≤ 12) := hk46
 refine gw (.bool (decide (¬ (r41 = 0)))) rfl (Yl.bool (e := !(decide (r41 = 0))) yk decide_not.symm) (fw (.bool (decide (¬ (r41 = 0)))) (Yl.pickT rfl rfl rfl) (nt ?_))
 by_cases h47 : r41 = 0
 refine jF (dF (not_not_intro h47)) (sk (Wp.seq (sr (Kz (.pointer (some ⟨g21, 2, none⟩)) (Lz (.string ⟨List.toArray p0.xValue⟩) H45 0 Tryz.isAgg9 (Kz (.int .i64 ((p0.xValue.length : Nat) : Int)) (Kz (.bool (decide (((p0.xValue.length : Nat) : Int) > 16))) (nt ?_))))))))
 by_cases h48 : ((p0.xValue.length : Nat) : Int) > 16
 refine jT (dT h48) (sr (An rfl (rt (tR (rs ?_)))))
 have H49 := H45.pk []
 obtain rfl : _ = 2 := hr.symm.trans (et (ip h24) (et (iN h26) (et (iN h28) (et (iN h32) (et (ip h35) (et (bnd_of hr42) (et (ip h47) (ip h48))))))))
 exact ⟨rfl, H49, (by omega)⟩
 refine jF (dF h48) (sk (Wp.seq (sr (Mz rfl (Mz rfl (Sz hb30 (Sz hb30 (Sz hb30 (Sz hb30 (Sz hb30 (Sz hb30 (Sz hb30 (fw (.bool false) (Yl.pickF rfl hb30 rfl) (nt (jf (sk (Wp.seq (sr (Kz (.pointer (some ⟨g21, 0, none⟩)) (Lz (.int .i64 p0.xKind) H45 0 Tryz.isAgg3 (Kz (.bool (decide (p0.xKind = 4))) (Mz rfl (Sz hb25 (Sz hb25 (Sz hb25 (Sz hb25 (WL.skipU rfl rfl rfl (WL.skipU rfl rfl rfl (WL.skipU rfl rfl rfl (Sz hb25 (fw (.bool false) (Yl.pickF rfl hb25 rfl) (nt (jf ?_)))))))))))))))))))))))))))))))))
 refine sk (sr (An rfl (rt (rs ?_))))
 have H50 := H45.pk []
 obtain rfl : _ = 0 := hr.symm.trans (et (ip h24) (et (iN h26) (et (iN h28) (et (iN h32) (et (ip h35) (et (bnd_of hr42) (et (ip h47) (iN h48))))))))
 exact ⟨rfl, H50, (by omega)⟩
 refine jT (dT h47) (sr (An rfl (rt (tR (rs ?_)))))
 have H51 := H45.pk []
 obtain rfl : _ = 20 := hr.symm.trans (et (ip h24) (et (iN h26) (et (iN h28) (et (iN h32) (et (ip h35) (et (bnd_of hr42) (iN h47)))))))
 exact ⟨rfl, H51, (by omega)⟩
 refine jT (dT h35) (sr (An rfl (rt (tR (rs ?_)))))
 have H52 := H23.pk []
 obtain rfl : _ = 40 := hr.symm.trans (et (ip h24) (et (iN h26) (et (iN h28) (et (iN h32) (iN h35)))))
 exact ⟨rfl, H52, (by omega)⟩
 refine Gz (.pointer (some ⟨g21, 0, none⟩)) (dF h24) (Gl (.int .i64 p0.xKind) (dF h24) H23 0 Tryz.isAgg3 (Gz (.bool (decide (p0.xKind = 2))) (dF h24) (fw (.bool (decide (p0.xKind = 2))) (Yl.pickF rfl (dF h24) rfl) (Mz rfl ?_))))
 by_cases h53 : p0.xKind = 2
 refine Sz (dT h53) (Sz (dT h53) (Sz (dT h53) (fw (.bool true) (Yl.pickT rfl (dT h53) rfl) (Ar rfl (Kz (.pointer (some ⟨g21, 0, none⟩)) (Lz (.int .i64 p0.xKind) H23 0 Tryz.isAgg3 (Kz (.bool (decide (p0.xKind = 4))) (Mz rfl ?_))))))))
 have hb54 : (decide (p0.xKind = 4)) = false := (dF (by omega))
 refine Gz (.pointer (some ⟨g21, 0, none⟩)) hb54 (Gl (.int .i64 p0.xKind) hb54 H23 0 Tryz.isAgg3 (Gz (.bool (decide (p0.xKind = 5))) hb54 (fw (.bool (decide (p0.xKind = 5))) (Yl.pickF rfl hb54 rfl) (An rfl (Wp.seq (sr (Mz rfl (Kz (.bool false) (Mz rfl (Sz rfl (Sz rfl (fw (.bool false) (Yl.pickF rfl rfl rfl) (Mz rfl (gw (.bool true) rfl (Yl.move rfl) (gw (.bool true) rfl (Yl.move rfl) (Gz (.pointer (some ⟨g21, 3, none⟩)) rfl (Gl (.string ⟨List.toArray p0.xLo⟩) rfl H23 0 Tryz.isAgg9 (gw (.bool (decide (p0.xLo ≠ ([])))) rfl (Yl.strNe rfl rfl) (gw (.bool (decide (p0.xLo ≠ ([])))) rfl (Yl.move rfl) ?_)))))))))))))))))))
 by_cases h55 : p0.xLo ≠ ([])
 refine Sz (dT h55) (Sz (dT h55) (Sz (dT h55) (gw (.bool true) rfl (Yl.pickT rfl (dT h55) rfl) (gw (.bool true) rfl (Yl.pickT rfl rfl rfl) (fw (.bool true) (Yl.pickF rfl rfl rfl) (Mz rfl (Sz rfl (Sz rfl (WL.skipU rfl rfl rfl (WL.skipU rfl rfl rfl (WL.skipU rfl rfl rfl (Sz rfl (fw (.bool true) (Yl.pickT rfl rfl rfl) (Mz rfl (Sz rfl (Sz rfl (Sz rfl (Sz rfl (WL.skipU rfl rfl rfl (WL.skipU rfl rfl rfl (WL.skipU rfl rfl rfl (Sz rfl (fw (.bool true) (Yl.pickT rfl rfl rfl) (Mz rfl (Sz rfl (Sz rfl (Sz rfl (Sz rfl (WL.skipU rfl rfl rfl (WL.skipU rfl rfl rfl (WL.skipU rfl rfl rfl (Sz rfl (fw (.bool true) (Yl.pickT rfl rfl rfl) (nt (jt (sr (Az rfl ?_)))))))))))))))))))))))))))))))))))))
 refine nt (rt (tR (rs ?_)))
 have H56 := H23.pk []
 obtain rfl : _ = 40 := hr.symm.trans (et (iN h24) (et (ip h53) (ip h55)))
 exact ⟨rfl, H56, (by omega)⟩
 refine Gz (.pointer (some ⟨g21, 4, none⟩)) (dF h55) (Gl (.string ⟨List.toArray p0.xHi⟩) (dF h55) H23 0 Tryz.isAgg9 (gw (.bool (decide (p0.xHi ≠ ([])))) (dF h55) (Yl.strNe rfl rfl) (gw (.bool (decide (p0.xHi ≠ ([])))) rfl (Yl.pickF rfl (dF h55) rfl) (gw (.bool (decide (p0.xHi ≠ ([])))) rfl (Yl.pickT rfl rfl rfl) (fw (.bool (decide (p0.xHi ≠ ([])))) (Yl.pickF rfl rfl rfl) (Mz rfl ?_))))))
 by_cases h57 : p0.xHi ≠ ([])
 refine Sz (dT h57) (Sz (dT h57) (WL.skipU rfl rfl rfl (WL.skipU rfl rfl rfl (WL.skipU rfl rfl rfl (Sz (dT h57) (fw (.bool true) (Yl.pickT rfl (dT h57) rfl) (Mz rfl (Sz rfl (Sz rfl (Sz rfl (Sz rfl (WL.skipU rfl rfl rfl (WL.skipU rfl rfl rfl (WL.skipU rfl rfl rfl (Sz rfl (fw (.bool true) (Yl.pickT rfl rfl rfl) (Mz rfl (Sz rfl (Sz rfl (Sz rfl (Sz rfl (WL.skipU rfl rfl rfl (WL.skipU rfl rfl rfl (WL.skipU rfl rfl rfl (Sz rfl (fw (.bool true) (Yl.pickT rfl rfl rfl) (nt (jt (sr (An rfl (rt (tR (rs ?_)))))))))))))))))))))))))))))))))
 have H58 := H23.pk []
 obtain rfl : _ = 40 := hr.symm.trans (et (iN h24) (et (ip h53) (et (iN h55) (ip h57))))
 exact ⟨rfl, H58, (by omega)⟩
 refine gw (.bool (decide (p0.xKind = 5))) (dF h57) (Yl.move rfl) (gw (.bool (decide (p0.xKind = 5))) (dF h57) (Yl.move rfl) ?_)
 have hb59 : (decide (p0.xKind = 5)) = false := (dF (by omega))
 refine Sz hb59 (Sz hb59 (Sz hb59 (gw (.bool false) (dF h57) (Yl.pickF rfl hb59 rfl) (fw (.bool false) (Yl.pickF rfl (dF h57) rfl) (Mz rfl (Gz (.pointer (some ⟨g21, 0, none⟩)) rfl (Gl (.int .i64 p0.xKind) rfl H23 0 Tryz.isAgg3 (gw (.bool (decide (¬ (p0.xKind = 2)))) rfl (Yl.bool (e := !(decide (p0.xKind = 2))) yk decide_not.symm) (gw (.bool (decide (¬ (p0.xKind = 2)))) rfl (Yl.move rfl) ?_)))))))))
 have hb60 : (decide (¬ (p0.xKind = 2))) = false := (dF (by omega))
 refine Sz hb60 (Sz hb60 (Sz hb60 (gw (.bool false) rfl (Yl.pickF rfl hb60 rfl) (fw (.bool false) (Yl.pickF rfl rfl rfl) (Mz rfl (Gz (.pointer (some ⟨g21, 0, none⟩)) rfl (Gl (.int .i64 p0.xKind) rfl H23 0 Tryz.isAgg3 (gw (.bool (decide (¬ (p0.xKind = 4)))) rfl (Yl.bool (e := !(decide (p0.xKind = 4))) yk decide_not.symm) (gw (.bool (decide (¬ (p0.xKind = 4)))) rfl (Yl.move rfl) ?_)))))))))
 have hb61 : (decide (¬ (p0.xKind = 4))) = true := (dT (by omega))
 refine Gz (.pointer (some ⟨g21, 5, none⟩)) hb61 (Gl (.int .i64 p0.xMost) hb61 H23 0 Tryz.isAgg3 (WL.valG (v := .bool (decide (¬ (p0.xMost = 0)))) rfl rfl hb61 rfl (Yl.bool (e := !(decide (p0.xMost = 0))) yk decide_not.symm) (gw (.bool (decide (¬ (p0.xMost = 0)))) rfl (Yl.pickT rfl hb61 rfl) (fw (.bool (decide (¬ (p0.xMost = 0)))) (Yl.pickF rfl rfl rfl) (nt ?_)))))
 by_cases h62 : p0.xMost = 0
 refine jF (dF (not_not_intro h62)) (sk (Wp.seq (sr (Mz rfl (Mz rfl (Gz (.pointer (some ⟨g21, 1, none⟩)) rfl (Gl (.string ⟨List.toArray p0.xKey⟩) rfl H23 0 Tryz.isAgg9 ?_)))))))
 obtain ⟨r68, hr69⟩ : ∃ q, r02_CheckKey p0.xKey = q := ⟨_, rfl⟩
 obtain ⟨D63, HP64, ro65, bk66, rr67⟩ := Own.enter0 H23
 refine clG rfl Tryz.call74 (r02_CheckKey_ok _ _ p0.xKey r68 HP64 hr69) ?_
 rintro _ w70 ⟨rfl, HQ71, hk73⟩
 have H72 := bk66 _ _ HQ71
 replace hk73 : ¬ (r68 = 0) ∨ (1 ≤ p0.xKey.length ∧ p0.xKey.length ≤ 12) := hk73
 refine gw (.bool (decide (¬ (r68 = 0)))) rfl (Yl.bool (e := !(decide (r68 = 0))) yk decide_not.symm) (fw (.bool (decide (¬ (r68 = 0)))) (Yl.pickT rfl rfl rfl) (nt ?_))
 by_cases h74 : r68 = 0
 refine jF (dF (not_not_intro h74)) (sk (Wp.seq (sr (Kz (.pointer (some ⟨g21, 2, none⟩)) (Lz (.string ⟨List.toArray p0.xValue⟩) H72 0 Tryz.isAgg9 (Kz (.int .i64 ((p0.xValue.length : Nat) : Int)) (Kz (.bool (decide (((p0.xValue.length : Nat) : Int) > 16))) (nt ?_))))))))
 by_cases h75 : ((p0.xValue.length : Nat) : Int) > 16
 refine jT (dT h75) (sr (An rfl (rt (tR (rs ?_)))))
 have H76 := H72.pk []
 obtain rfl : _ = 2 := hr.symm.trans (et (iN h24) (et (ip h53) (et (iN h55) (et (iN h57) (et (ip h62) (et (bnd_of hr69) (et (ip h74) (ip h75))))))))
 exact ⟨rfl, H76, (by omega)⟩
 refine jF (dF h75) (sk (Wp.seq (sr (Mz rfl (Mz rfl (Sz hb59 (Sz hb59 (Sz hb59 (Sz hb59 (Sz hb59 (Sz hb59 (Sz hb59 (fw (.bool false) (Yl.pickF rfl hb59 rfl) (nt (jf (sk (Wp.seq (sr (Kz (.pointer (some ⟨g21, 0, none⟩)) (Lz (.int .i64 p0.xKind) H72 0 Tryz.isAgg3 (Kz (.bool (decide (p0.xKind = 4))) (Mz rfl (Sz hb54 (Sz hb54 (Sz hb54 (Sz hb54 (WL.skipU rfl rfl rfl (WL.skipU rfl rfl rfl (WL.skipU rfl rfl rfl (Sz hb54 (fw (.bool false) (Yl.pickF rfl hb54 rfl) (nt (jf ?_)))))))))))))))))))))))))))))))))
 refine sk (sr (An rfl (rt (rs ?_))))
 have H77 := H72.pk []
 obtain rfl : _ = 0 := hr.symm.trans (et (iN h24) (et (ip h53) (et (iN h55) (et (iN h57) (et (ip h62) (et (bnd_of hr69) (et (ip h74) (iN h75))))))))
 exact ⟨rfl, H77, (by omega)⟩
 refine jT (dT h74) (sr (An rfl (rt (tR (rs ?_)))))
 have H78 := H72.pk []
 obtain rfl : _ = 20 := hr.symm.trans (et (iN h24) (et (ip h53) (et (iN h55) (et (iN h57) (et (ip h62) (et (bnd_of hr69) (iN h74)))))))
 exact ⟨rfl, H78, (by omega)⟩
 refine jT (dT h62) (sr (An rfl (rt (tR (rs ?_)))))
 have H79 := H23.pk []
 obtain rfl : _ = 40 := hr.symm.trans (et (iN h24) (et (ip h53) (et (iN h55) (et (iN h57) (iN h62)))))
 exact ⟨rfl, H79, (by omega)⟩
 refine Gz (.pointer (some ⟨g21, 0, none⟩)) (dF h53) (Gl (.int .i64 p0.xKind) (dF h53) H23 0 Tryz.isAgg3 (Gz (.bool (decide (p0.xKind = 3))) (dF h53) (fw (.bool (decide (p0.xKind = 3))) (Yl.pickF rfl (dF h53) rfl) (Ar rfl (Kz (.pointer (some ⟨g21, 0, none⟩)) (Lz (.int .i64 p0.xKind) H23 0 Tryz.isAgg3 (Kz (.bool (decide (p0.xKind = 4))) (Mz rfl ?_))))))))
 by_cases h80 : p0.xKind = 4
 refine Sz (dT h80) (Sz (dT h80) (Sz (dT h80) (fw (.bool true) (Yl.pickT rfl (dT h80) rfl) (An rfl (Wp.seq (sr (Mz rfl (fw (.bool (decide (¬ (p0.xKind = 3)))) (Yl.bool (e := !(decide (p0.xKind = 3))) yk decide_not.symm) (Mz rfl ?_)))))))))
 have hb81 : (decide (¬ (p0.xKind = 3))) = true := (dT (by omega))
 refine WL.valG (v := .bool true) rfl rfl hb81 rfl (Yl.move rfl) (Gz (.bool false) hb81 (fw (.bool false) (Yl.pickT rfl hb81 rfl) (Mz rfl (gw (.bool (decide (p0.xKind = 3))) rfl (Yl.move rfl) (gw (.bool (decide (p0.xKind = 3))) rfl (Yl.move rfl) ?_)))))
 have hb82 : (decide (p0.xKind = 3)) = false := (dF (by omega))
 refine Sz hb82 (Sz hb82 (Sz hb82 (Sz hb82 (WL.skipU rfl rfl rfl (WL.skipU rfl rfl rfl (WL.skipU rfl rfl rfl (Sz hb82 (gw (.bool false) rfl (Yl.pickF rfl hb82 rfl) (fw (.bool false) (Yl.pickF rfl rfl rfl) (Mz rfl (gw (.bool true) rfl (Yl.move rfl) (gw (.bool true) rfl (Yl.move rfl) (Gz (.pointer (some ⟨g21, 1, none⟩)) rfl (Gl (.string ⟨List.toArray p0.xKey⟩) rfl H23 0 Tryz.isAgg9 (gw (.bool (decide (p0.xKey ≠ ([])))) rfl (Yl.strNe rfl rfl) (gw (.bool (decide (p0.xKey ≠ ([])))) rfl (Yl.pickT rfl rfl rfl) (fw (.bool (decide (p0.xKey ≠ ([])))) (Yl.pickF rfl rfl rfl) (Mz rfl ?_))))))))))))))))))
 by_cases h83 : p0.xKey ≠ ([])
 refine Sz (dT h83) (Sz (dT h83) (Sz (dT h83) (Sz (dT h83) (WL.skipU rfl rfl rfl (WL.skipU rfl rfl rfl (WL.skipU rfl rfl rfl (Sz (dT h83) (fw (.bool true) (Yl.pickT rfl (dT h83) rfl) (Mz rfl (Sz rfl (Sz rfl (Sz rfl (Sz rfl (WL.skipU rfl rfl rfl (WL.skipU rfl rfl rfl (WL.skipU rfl rfl rfl (Sz rfl (fw (.bool true) (Yl.pickT rfl rfl rfl) (nt (jt (sr (An rfl (rt (tR (rs ?_)))))))))))))))))))))))))
 have H84 := H23.pk []
 obtain rfl : _ = 40 := hr.symm.trans (et (iN h24) (et (iN h53) (et (ip h80) (ip h83))))
 exact ⟨rfl, H84, (by omega)⟩
 refine Gz (.pointer (some ⟨g21, 0, none⟩)) (dF h83) (Gl (.int .i64 p0.xKind) (dF h83) H23 0 Tryz.isAgg3 (gw (.bool (decide (¬ (p0.xKind = 2)))) (dF h83) (Yl.bool (e := !(decide (p0.xKind = 2))) yk decide_not.symm) (gw (.bool (decide (¬ (p0.xKind = 2)))) (dF h83) (Yl.move rfl) ?_)))
 have hb85 : (decide (¬ (p0.xKind = 2))) = true := (dT (by omega))
 refine Gz (.pointer (some ⟨g21, 2, none⟩)) hb85 (Gl (.string ⟨List.toArray p0.xValue⟩) hb85 H23 0 Tryz.isAgg9 (WL.valG (v := .bool (decide (p0.xValue ≠ ([])))) rfl rfl hb85 rfl (Yl.strNe rfl rfl) (gw (.bool (decide (p0.xValue ≠ ([])))) (dF h83) (Yl.pickT rfl hb85 rfl) (fw (.bool (decide (p0.xValue ≠ ([])))) (Yl.pickF rfl (dF h83) rfl) (Mz rfl ?_)))))
 by_cases h86 : p0.xValue ≠ ([])
 refine Sz (dT h86) (Sz (dT h86) (Sz (dT h86) (Sz (dT h86) (WL.skipU rfl rfl rfl (WL.skipU rfl rfl rfl (WL.skipU rfl rfl rfl (Sz (dT h86) (fw (.bool true) (Yl.pickT rfl (dT h86) rfl) (nt (jt (sr (An rfl (rt (tR (rs ?_)))))))))))))))
 have H87 := H23.pk []
 obtain rfl : _ = 40 := hr.symm.trans (et (iN h24) (et (iN h53) (et (ip h80) (et (iN h83) (ip h86)))))
 exact ⟨rfl, H87, (by omega)⟩
 refine Gz (.pointer (some ⟨g21, 0, none⟩)) (dF h86) (Gl (.int .i64 p0.xKind) (dF h86) H23 0 Tryz.isAgg3 (gw (.bool (decide (¬ (p0.xKind = 4)))) (dF h86) (Yl.bool (e := !(decide (p0.xKind = 4))) yk decide_not.symm) (gw (.bool (decide (¬ (p0.xKind = 4)))) (dF h86) (Yl.move rfl) ?_)))
 have hb88 : (decide (¬ (p0.xKind = 4))) = false := (dF (by omega))
 refine Sz hb88 (Sz hb88 (Sz hb88 (gw (.bool false) (dF h86) (Yl.pickF rfl hb88 rfl) (fw (.bool false) (Yl.pickF rfl (dF h86) rfl) (nt (jf (sk (Wp.seq (sr (Mz rfl (Mz rfl (Sz hb82 (Sz hb82 (Sz hb82 (Sz hb82 (fw (.bool false) (Yl.pickF rfl hb82 rfl) (nt (jf (sk (Wp.seq (sr (Kz (.pointer (some ⟨g21, 2, none⟩)) (Lz (.string ⟨List.toArray p0.xValue⟩) H23 0 Tryz.isAgg9 (Kz (.int .i64 ((p0.xValue.length : Nat) : Int)) (Kz (.bool (decide (((p0.xValue.length : Nat) : Int) > 16))) (nt ?_))))))))))))))))))))))))))
 by_cases h89 : ((p0.xValue.length : Nat) : Int) > 16
 refine jT (dT h89) (sr (An rfl (rt (tR (rs ?_)))))
 have H90 := H23.pk []
 obtain rfl : _ = 2 := hr.symm.trans (et (iN h24) (et (iN h53) (et (ip h80) (et (iN h83) (et (iN h86) (ip h89))))))
 exact ⟨rfl, H90, (by omega)⟩
 refine jF (dF h89) (sk (Wp.seq (sr (Mz rfl (Mz rfl (Gz (.pointer (some ⟨g21, 3, none⟩)) rfl (Gl (.string ⟨List.toArray p0.xLo⟩) rfl H23 0 Tryz.isAgg9 (Gz (.pointer (some ⟨g21, 4, none⟩)) rfl (Gl (.string ⟨List.toArray p0.xHi⟩) rfl H23 0 Tryz.isAgg9 (Gz (.agg #[.string ⟨List.toArray p0.xLo⟩, .string ⟨List.toArray p0.xHi⟩]) rfl ?_))))))))))
 obtain ⟨r96, hr97⟩ : ∃ q, r02_Check (RangeD.mk p0.xLo p0.xHi) = q := ⟨_, rfl⟩
 obtain ⟨D91, HP92, ro93, bk94, rr95⟩ := Own.enter0 H23
 refine clG rfl Tryz.call35 (r02_Check_ok _ _ (RangeD.mk p0.xLo p0.xHi) r96 HP92 hr97) ?_
 rintro _ w98 ⟨rfl, HQ99⟩
 have H100 := bk94 _ _ HQ99
 refine gw (.bool (decide (¬ (r96 = 0)))) rfl (Yl.bool (e := !(decide (r96 = 0))) yk decide_not.symm) (fw (.bool (decide (¬ (r96 = 0)))) (Yl.pickT rfl rfl rfl) (nt ?_))
 by_cases h101 : r96 = 0
 refine jF (dF (not_not_intro h101)) (sk (Wp.seq (sr (Kz (.pointer (some ⟨g21, 0, none⟩)) (Lz (.int .i64 p0.xKind) H100 0 Tryz.isAgg3 (Kz (.bool (decide (p0.xKind = 4))) (Mz rfl (Gz (.pointer (some ⟨g21, 5, none⟩)) (dT h80) (Gl (.int .i64 p0.xMost) (dT h80) H100 0 Tryz.isAgg3 (Gz (.bool (decide (p0.xMost < 1))) (dT h80) (gw (.bool (decide (p0.xMost < 1))) (dT h80) (Yl.move rfl) ?_)))))))))))
 by_cases h102 : p0.xMost < 1
 refine Sz (dT h102) (Sz (dT h102) (Sz (dT h102) (gw (.bool true) (dT h80) (Yl.pickT rfl (dT h102) rfl) (fw (.bool true) (Yl.pickT rfl (dT h80) rfl) (nt (jt (sr (An rfl (rt (tR (rs ?_)))))))))))
 have H103 := H100.pk []
 obtain rfl : _ = 1 := hr.symm.trans (et (iN h24) (et (iN h53) (et (ip h80) (et (iN h83) (et (iN h86) (et (iN h89) (et (bnd_of hr97) (et (ip h101) (ip h102)))))))))
 exact ⟨rfl, H103, (by omega)⟩
 refine Gz (.pointer (some ⟨g21, 5, none⟩)) (dF h102) (Gl (.int .i64 p0.xMost) (dF h102) H100 0 Tryz.isAgg3 (Gz (.bool (decide (p0.xMost > 4))) (dF h102) (gw (.bool (decide (p0.xMost > 4))) (dT h80) (Yl.pickF rfl (dF h102) rfl) (fw (.bool (decide (p0.xMost > 4))) (Yl.pickT rfl (dT h80) rfl) (nt ?_)))))
 by_cases h104 : p0.xMost > 4
 refine jT (dT h104) (sr (An rfl (rt (tR (rs ?_)))))
 have H105 := H100.pk []
 obtain rfl : _ = 1 := hr.symm.trans (et (iN h24) (et (iN h53) (et (ip h80) (et (iN h83) (et (iN h86) (et (iN h89) (et (bnd_of hr97) (et (ip h101) (et (iN h102) (ip h104))))))))))
 exact ⟨rfl, H105, (by omega)⟩
 refine jF (dF h104) (sk (sr (An rfl (rt (rs ?_)))))
 have H106 := H100.pk []
 obtain rfl : _ = 0 := hr.symm.trans (et (iN h24) (et (iN h53) (et (ip h80) (et (iN h83) (et (iN h86) (et (iN h89) (et (bnd_of hr97) (et (ip h101) (et (iN h102) (iN h104))))))))))
 exact ⟨rfl, H106, (by omega)⟩
 refine jT (dT h101) (sr (An rfl (rt (tR (rs ?_)))))
 have H107 := H100.pk []
 obtain rfl : _ = 21 := hr.symm.trans (et (iN h24) (et (iN h53) (et (ip h80) (et (iN h83) (et (iN h86) (et (iN h89) (et (bnd_of hr97) (iN h101))))))))
 exact ⟨rfl, H107, (by omega)⟩
 refine Gz (.pointer (some ⟨g21, 0, none⟩)) (dF h80) (Gl (.int .i64 p0.xKind) (dF h80) H23 0 Tryz.isAgg3 (Gz (.bool (decide (p0.xKind = 5))) (dF h80) (fw (.bool (decide (p0.xKind = 5))) (Yl.pickF rfl (dF h80) rfl) (An rfl (Wp.seq (sr (Mz rfl (fw (.bool (decide (¬ (p0.xKind = 3)))) (Yl.bool (e := !(decide (p0.xKind = 3))) yk decide_not.symm) (Mz rfl ?_)))))))))
 by_cases h108 : p0.xKind = 3
 refine Sk rfl rfl (dF (not_not_intro h108)) rfl (Sk rfl rfl (dF (not_not_intro h108)) rfl (fw (.bool false) (Yl.pickF rfl (dF (not_not_intro h108)) rfl) (Mz rfl (gw (.bool (decide (p0.xKind = 3))) rfl (Yl.move rfl) (gw (.bool (decide (p0.xKind = 3))) rfl (Yl.move rfl) (Gz (.pointer (some ⟨g21, 3, none⟩)) (dT h108) (Gl (.string ⟨List.toArray p0.xLo⟩) (dT h108) H23 0 Tryz.isAgg9 (gw (.bool (decide (p0.xLo ≠ ([])))) (dT h108) (Yl.strNe rfl rfl) (gw (.bool (decide (p0.xLo ≠ ([])))) (dT h108) (Yl.move rfl) ?_)))))))))
 by_cases h109 : p0.xLo ≠ ([])
 refine Sz (dT h109) (Sz (dT h109) (Sz (dT h109) (gw (.bool true) (dT h108) (Yl.pickT rfl (dT h109) rfl) (gw (.bool true) rfl (Yl.pickT rfl (dT h108) rfl) (fw (.bool true) (Yl.pickF rfl rfl rfl) (Mz rfl (Sz rfl (Sz rfl (WL.skipU rfl rfl rfl (WL.skipU rfl rfl rfl (WL.skipU rfl rfl rfl (Sz rfl (fw (.bool true) (Yl.pickT rfl rfl rfl) (Mz rfl (Sz rfl (Sz rfl (Sz rfl (Sz rfl (WL.skipU rfl rfl rfl (WL.skipU rfl rfl rfl (WL.skipU rfl rfl rfl (Sz rfl (fw (.bool true) (Yl.pickT rfl rfl rfl) (Mz rfl (Sz rfl (Sz rfl (Sz rfl (Sz rfl (WL.skipU rfl rfl rfl (WL.skipU rfl rfl rfl (WL.skipU rfl rfl rfl (Sz rfl (fw (.bool true) (Yl.pickT rfl rfl rfl) (nt (jt (sr (Az rfl ?_)))))))))))))))))))))))))))))))))))))
 refine nt (rt (tR (rs ?_)))
 have H110 := H23.pk []
 obtain rfl : _ = 40 := hr.symm.trans (et (iN h24) (et (iN h53) (et (iN h80) (et (ip h108) (ip h109)))))
 exact ⟨rfl, H110, (by omega)⟩
 refine Gz (.pointer (some ⟨g21, 4, none⟩)) (dF h109) (Gl (.string ⟨List.toArray p0.xHi⟩) (dF h109) H23 0 Tryz.isAgg9 (gw (.bool (decide (p0.xHi ≠ ([])))) (dF h109) (Yl.strNe rfl rfl) (gw (.bool (decide (p0.xHi ≠ ([])))) (dT h108) (Yl.pickF rfl (dF h109) rfl) (gw (.bool (decide (p0.xHi ≠ ([])))) rfl (Yl.pickT rfl (dT h108) rfl) (fw (.bool (decide (p0.xHi ≠ ([])))) (Yl.pickF rfl rfl rfl) (Mz rfl ?_))))))
 by_cases h111 : p0.xHi ≠ ([])
 refine Sz (dT h111) (Sz (dT h111) (WL.skipU rfl rfl rfl (WL.skipU rfl rfl rfl (WL.skipU rfl rfl rfl (Sz (dT h111) (fw (.bool true) (Yl.pickT rfl (dT h111) rfl) (Mz rfl (Sz rfl (Sz rfl (Sz rfl (Sz rfl (WL.skipU rfl rfl rfl (WL.skipU rfl rfl rfl (WL.skipU rfl rfl rfl (Sz rfl (fw (.bool true) (Yl.pickT rfl rfl rfl) (Mz rfl (Sz rfl (Sz rfl (Sz rfl (Sz rfl (WL.skipU rfl rfl rfl (WL.skipU rfl rfl rfl (WL.skipU rfl rfl rfl (Sz rfl (fw (.bool true) (Yl.pickT rfl rfl rfl) (nt (jt (sr (An rfl (rt (tR (rs ?_)))))))))))))))))))))))))))))))))
 have H112 := H23.pk []
 obtain rfl : _ = 40 := hr.symm.trans (et (iN h24) (et (iN h53) (et (iN h80) (et (ip h108) (et (iN h109) (ip h111))))))
 exact ⟨rfl, H112, (by omega)⟩
 refine gw (.bool (decide (p0.xKind = 5))) (dF h111) (Yl.move rfl) (gw (.bool (decide (p0.xKind = 5))) (dF h111) (Yl.move rfl) ?_)
 have hb113 : (decide (p0.xKind = 5)) = false := (dF (by omega))
 refine Sz hb113 (Sz hb113 (Sz hb113 (gw (.bool false) (dF h111) (Yl.pickF rfl hb113 rfl) (fw (.bool false) (Yl.pickF rfl (dF h111) rfl) (Mz rfl (Gz (.pointer (some ⟨g21, 0, none⟩)) rfl (Gl (.int .i64 p0.xKind) rfl H23 0 Tryz.isAgg3 (gw (.bool (decide (¬ (p0.xKind = 2)))) rfl (Yl.bool (e := !(decide (p0.xKind = 2))) yk decide_not.symm) (gw (.bool (decide (¬ (p0.xKind = 2)))) rfl (Yl.move rfl) ?_)))))))))
 have hb114 : (decide (¬ (p0.xKind = 2))) = true := (dT (by omega))
 refine Gz (.pointer (some ⟨g21, 2, none⟩)) hb114 (Gl (.string ⟨List.toArray p0.xValue⟩) hb114 H23 0 Tryz.isAgg9 (WL.valG (v := .bool (decide (p0.xValue ≠ ([])))) rfl rfl hb114 rfl (Yl.strNe rfl rfl) (gw (.bool (decide (p0.xValue ≠ ([])))) rfl (Yl.pickT rfl hb114 rfl) (fw (.bool (decide (p0.xValue ≠ ([])))) (Yl.pickF rfl rfl rfl) (Mz rfl ?_)))))
 by_cases h115 : p0.xValue ≠ ([])
 refine Sz (dT h115) (Sz (dT h115) (Sz (dT h115) (Sz (dT h115) (WL.skipU rfl rfl rfl (WL.skipU rfl rfl rfl (WL.skipU rfl rfl rfl (Sz (dT h115) (fw (.bool true) (Yl.pickT rfl (dT h115) rfl) (nt (jt (sr (An rfl (rt (tR (rs ?_)))))))))))))))
 have H116 := H23.pk []
 obtain rfl : _ = 40 := hr.symm.trans (et (iN h24) (et (iN h53) (et (iN h80) (et (ip h108) (et (iN h109) (et (iN h111) (ip h115)))))))
 exact ⟨rfl, H116, (by omega)⟩
 refine Gz (.pointer (some ⟨g21, 0, none⟩)) (dF h115) (Gl (.int .i64 p0.xKind) (dF h115) H23 0 Tryz.isAgg3 (gw (.bool (decide (¬ (p0.xKind = 4)))) (dF h115) (Yl.bool (e := !(decide (p0.xKind = 4))) yk decide_not.symm) (gw (.bool (decide (¬ (p0.xKind = 4)))) (dF h115) (Yl.move rfl) ?_)))
 have hb117 : (decide (¬ (p0.xKind = 4))) = true := (dT (by omega))
 refine Gz (.pointer (some ⟨g21, 5, none⟩)) hb117 (Gl (.int .i64 p0.xMost) hb117 H23 0 Tryz.isAgg3 (WL.valG (v := .bool (decide (¬ (p0.xMost = 0)))) rfl rfl hb117 rfl (Yl.bool (e := !(decide (p0.xMost = 0))) yk decide_not.symm) (gw (.bool (decide (¬ (p0.xMost = 0)))) (dF h115) (Yl.pickT rfl hb117 rfl) (fw (.bool (decide (¬ (p0.xMost = 0)))) (Yl.pickF rfl (dF h115) rfl) (nt ?_)))))
 by_cases h118 : p0.xMost = 0
 refine jF (dF (not_not_intro h118)) (sk (Wp.seq (sr (Mz rfl (Mz rfl (Gz (.pointer (some ⟨g21, 1, none⟩)) (dT h108) (Gl (.string ⟨List.toArray p0.xKey⟩) (dT h108) H23 0 Tryz.isAgg9 ?_)))))))
 obtain ⟨r124, hr125⟩ : ∃ q, r02_CheckKey p0.xKey = q := ⟨_, rfl⟩
 obtain ⟨D119, HP120, ro121, bk122, rr123⟩ := Own.enter0 H23
 refine clG (dT h108) Tryz.call74 (r02_CheckKey_ok _ _ p0.xKey r124 HP120 hr125) ?_
 rintro _ w126 ⟨rfl, HQ127, hk129⟩
 have H128 := bk122 _ _ HQ127
 replace hk129 : ¬ (r124 = 0) ∨ (1 ≤ p0.xKey.length ∧ p0.xKey.length ≤ 12) := hk129
 refine gw (.bool (decide (¬ (r124 = 0)))) (dT h108) (Yl.bool (e := !(decide (r124 = 0))) yk decide_not.symm) (fw (.bool (decide (¬ (r124 = 0)))) (Yl.pickT rfl (dT h108) rfl) (nt ?_))
 by_cases h130 : r124 = 0
 refine jF (dF (not_not_intro h130)) (sk (Wp.seq (sr (Kz (.pointer (some ⟨g21, 2, none⟩)) (Lz (.string ⟨List.toArray p0.xValue⟩) H128 0 Tryz.isAgg9 (Kz (.int .i64 ((p0.xValue.length : Nat) : Int)) (Kz (.bool (decide (((p0.xValue.length : Nat) : Int) > 16))) (nt ?_))))))))
 by_cases h131 : ((p0.xValue.length : Nat) : Int) > 16
 refine jT (dT h131) (sr (An rfl (rt (tR (rs ?_)))))
 have H132 := H128.pk []
 obtain rfl : _ = 2 := hr.symm.trans (et (iN h24) (et (iN h53) (et (iN h80) (et (ip h108) (et (iN h109) (et (iN h111) (et (iN h115) (et (ip h118) (et (bnd_of hr125) (et (ip h130) (ip h131)))))))))))
 exact ⟨rfl, H132, (by omega)⟩
 refine jF (dF h131) (sk (Wp.seq (sr (Mz rfl (Mz rfl (Sz hb113 (Sz hb113 (Sz hb113 (Sz hb113 (Sz hb113 (Sz hb113 (Sz hb113 (fw (.bool false) (Yl.pickF rfl hb113 rfl) (nt (jf (sk (Wp.seq (sr (Kz (.pointer (some ⟨g21, 0, none⟩)) (Lz (.int .i64 p0.xKind) H128 0 Tryz.isAgg3 (Kz (.bool (decide (p0.xKind = 4))) (Mz rfl (Sz (dF h80) (Sz (dF h80) (Sz (dF h80) (Sz (dF h80) (WL.skipU rfl rfl rfl (WL.skipU rfl rfl rfl (WL.skipU rfl rfl rfl (Sz (dF h80) (fw (.bool false) (Yl.pickF rfl (dF h80) rfl) (nt (jf ?_)))))))))))))))))))))))))))))))))
 refine sk (sr (An rfl (rt (rs ?_))))
 have H133 := H128.pk []
 obtain rfl : _ = 0 := hr.symm.trans (et (iN h24) (et (iN h53) (et (iN h80) (et (ip h108) (et (iN h109) (et (iN h111) (et (iN h115) (et (ip h118) (et (bnd_of hr125) (et (ip h130) (iN h131)))))))))))
 exact ⟨rfl, H133, (by omega)⟩
 refine jT (dT h130) (sr (An rfl (rt (tR (rs ?_)))))
 have H134 := H128.pk []
 obtain rfl : _ = 20 := hr.symm.trans (et (iN h24) (et (iN h53) (et (iN h80) (et (ip h108) (et (iN h109) (et (iN h111) (et (iN h115) (et (ip h118) (et (bnd_of hr125) (iN h130))))))))))
 exact ⟨rfl, H134, (by omega)⟩
 refine jT (dT h118) (sr (An rfl (rt (tR (rs ?_)))))
 have H135 := H23.pk []
 obtain rfl : _ = 40 := hr.symm.trans (et (iN h24) (et (iN h53) (et (iN h80) (et (ip h108) (et (iN h109) (et (iN h111) (et (iN h115) (iN h118))))))))
 exact ⟨rfl, H135, (by omega)⟩
 refine gw (.bool (decide (p0.xKind = 5))) (dT h108) (Yl.move rfl) (gw (.bool (decide (¬ (p0.xKind = 5)))) (dT h108) (Yl.bool (e := !(decide (p0.xKind = 5))) yk decide_not.symm) (fw (.bool (decide (¬ (p0.xKind = 5)))) (Yl.pickT rfl (dT h108) rfl) (Mz rfl ?_)))
 by_cases h136 : p0.xKind = 5
 refine gw (.bool (decide (p0.xKind = 3))) (dF (not_not_intro h136)) (Yl.move rfl) (gw (.bool (decide (p0.xKind = 3))) (dF (not_not_intro h136)) (Yl.move rfl) (Sz (dF h108) (Sz (dF h108) (Sz (dF h108) (Sz (dF h108) (WL.skipU rfl rfl rfl (WL.skipU rfl rfl rfl (WL.skipU rfl rfl rfl (Sz (dF h108) (gw (.bool false) (dF (not_not_intro h136)) (Yl.pickF rfl (dF h108) rfl) (fw (.bool false) (Yl.pickF rfl (dF (not_not_intro h136)) rfl) (Mz rfl (gw (.bool (decide (p0.xKind = 5))) rfl (Yl.move rfl) (gw (.bool (decide (p0.xKind = 5))) rfl (Yl.move rfl) (Gz (.pointer (some ⟨g21, 1, none⟩)) (dT h136) (Gl (.string ⟨List.toArray p0.xKey⟩) (dT h136) H23 0 Tryz.isAgg9 (gw (.bool (decide (p0.xKey ≠ ([])))) (dT h136) (Yl.strNe rfl rfl) (gw (.bool (decide (p0.xKey ≠ ([])))) rfl (Yl.pickT rfl (dT h136) rfl) (fw (.bool (decide (p0.xKey ≠ ([])))) (Yl.pickF rfl rfl rfl) (Mz rfl ?_))))))))))))))))))))
 by_cases h137 : p0.xKey ≠ ([])
 refine Sz (dT h137) (Sz (dT h137) (Sz (dT h137) (Sz (dT h137) (WL.skipU rfl rfl rfl (WL.skipU rfl rfl rfl (WL.skipU rfl rfl rfl (Sz (dT h137) (fw (.bool true) (Yl.pickT rfl (dT h137) rfl) (Mz rfl (Sz rfl (Sz rfl (Sz rfl (Sz rfl (WL.skipU rfl rfl rfl (WL.skipU rfl rfl rfl (WL.skipU rfl rfl rfl (Sz rfl (fw (.bool true) (Yl.pickT rfl rfl rfl) (nt (jt (sr (An rfl (rt (tR (rs ?_)))))))))))))))))))))))))
 have H138 := H23.pk []
 obtain rfl : _ = 40 := hr.symm.trans (et (iN h24) (et (iN h53) (et (iN h80) (et (iN h108) (et (ip h136) (ip h137))))))
 exact ⟨rfl, H138, (by omega)⟩
 refine Gz (.pointer (some ⟨g21, 0, none⟩)) (dF h137) (Gl (.int .i64 p0.xKind) (dF h137) H23 0 Tryz.isAgg3 (gw (.bool (decide (¬ (p0.xKind = 2)))) (dF h137) (Yl.bool (e := !(decide (p0.xKind = 2))) yk decide_not.symm) (gw (.bool (decide (¬ (p0.xKind = 2)))) (dF h137) (Yl.move rfl) ?_)))
 have hb139 : (decide (¬ (p0.xKind = 2))) = true := (dT (by omega))
 refine Gz (.pointer (some ⟨g21, 2, none⟩)) hb139 (Gl (.string ⟨List.toArray p0.xValue⟩) hb139 H23 0 Tryz.isAgg9 (WL.valG (v := .bool (decide (p0.xValue ≠ ([])))) rfl rfl hb139 rfl (Yl.strNe rfl rfl) (gw (.bool (decide (p0.xValue ≠ ([])))) (dF h137) (Yl.pickT rfl hb139 rfl) (fw (.bool (decide (p0.xValue ≠ ([])))) (Yl.pickF rfl (dF h137) rfl) (Mz rfl ?_)))))
 by_cases h140 : p0.xValue ≠ ([])
 refine Sz (dT h140) (Sz (dT h140) (Sz (dT h140) (Sz (dT h140) (WL.skipU rfl rfl rfl (WL.skipU rfl rfl rfl (WL.skipU rfl rfl rfl (Sz (dT h140) (fw (.bool true) (Yl.pickT rfl (dT h140) rfl) (nt (jt (sr (An rfl (rt (tR (rs ?_)))))))))))))))
 have H141 := H23.pk []
 obtain rfl : _ = 40 := hr.symm.trans (et (iN h24) (et (iN h53) (et (iN h80) (et (iN h108) (et (ip h136) (et (iN h137) (ip h140)))))))
 exact ⟨rfl, H141, (by omega)⟩
 refine Gz (.pointer (some ⟨g21, 0, none⟩)) (dF h140) (Gl (.int .i64 p0.xKind) (dF h140) H23 0 Tryz.isAgg3 (gw (.bool (decide (¬ (p0.xKind = 4)))) (dF h140) (Yl.bool (e := !(decide (p0.xKind = 4))) yk decide_not.symm) (gw (.bool (decide (¬ (p0.xKind = 4)))) (dF h140) (Yl.move rfl) ?_)))
 have hb142 : (decide (¬ (p0.xKind = 4))) = true := (dT (by omega))
 refine Gz (.pointer (some ⟨g21, 5, none⟩)) hb142 (Gl (.int .i64 p0.xMost) hb142 H23 0 Tryz.isAgg3 (WL.valG (v := .bool (decide (¬ (p0.xMost = 0)))) rfl rfl hb142 rfl (Yl.bool (e := !(decide (p0.xMost = 0))) yk decide_not.symm) (gw (.bool (decide (¬ (p0.xMost = 0)))) (dF h140) (Yl.pickT rfl hb142 rfl) (fw (.bool (decide (¬ (p0.xMost = 0)))) (Yl.pickF rfl (dF h140) rfl) (nt ?_)))))
 by_cases h143 : p0.xMost = 0
 refine jF (dF (not_not_intro h143)) (sk (Wp.seq (sr (Mz rfl (Mz rfl (Sz (dF h108) (Sz (dF h108) (Sz (dF h108) (Sz (dF h108) (fw (.bool false) (Yl.pickF rfl (dF h108) rfl) (nt (jf (sk (Wp.seq (sr (Kz (.pointer (some ⟨g21, 2, none⟩)) (Lz (.string ⟨List.toArray p0.xValue⟩) H23 0 Tryz.isAgg9 (Kz (.int .i64 ((p0.xValue.length : Nat) : Int)) (Kz (.bool (decide (((p0.xValue.length : Nat) : Int) > 16))) (nt ?_))))))))))))))))))))
 by_cases h144 : ((p0.xValue.length : Nat) : Int) > 16
 refine jT (dT h144) (sr (An rfl (rt (tR (rs ?_)))))
 have H145 := H23.pk []
 obtain rfl : _ = 2 := hr.symm.trans (et (iN h24) (et (iN h53) (et (iN h80) (et (iN h108) (et (ip h136) (et (iN h137) (et (iN h140) (et (ip h143) (ip h144)))))))))
 exact ⟨rfl, H145, (by omega)⟩
 refine jF (dF h144) (sk (Wp.seq (sr (Mz rfl (Mz rfl (Gz (.pointer (some ⟨g21, 3, none⟩)) (dT h136) (Gl (.string ⟨List.toArray p0.xLo⟩) (dT h136) H23 0 Tryz.isAgg9 (Gz (.pointer (some ⟨g21, 4, none⟩)) (dT h136) (Gl (.string ⟨List.toArray p0.xHi⟩) (dT h136) H23 0 Tryz.isAgg9 (Gz (.agg #[.string ⟨List.toArray p0.xLo⟩, .string ⟨List.toArray p0.xHi⟩]) (dT h136) ?_))))))))))
 obtain ⟨r151, hr152⟩ : ∃ q, r02_Check (RangeD.mk p0.xLo p0.xHi) = q := ⟨_, rfl⟩
 obtain ⟨D146, HP147, ro148, bk149, rr150⟩ := Own.enter0 H23
 refine clG (dT h136) Tryz.call35 (r02_Check_ok _ _ (RangeD.mk p0.xLo p0.xHi) r151 HP147 hr152) ?_
 rintro _ w153 ⟨rfl, HQ154⟩
 have H155 := bk149 _ _ HQ154
 refine gw (.bool (decide (¬ (r151 = 0)))) (dT h136) (Yl.bool (e := !(decide (r151 = 0))) yk decide_not.symm) (fw (.bool (decide (¬ (r151 = 0)))) (Yl.pickT rfl (dT h136) rfl) (nt ?_))
 by_cases h156 : r151 = 0
 refine jF (dF (not_not_intro h156)) (sk (Wp.seq (sr (Kz (.pointer (some ⟨g21, 0, none⟩)) (Lz (.int .i64 p0.xKind) H155 0 Tryz.isAgg3 (Kz (.bool (decide (p0.xKind = 4))) (Mz rfl (Sz (dF h80) (Sz (dF h80) (Sz (dF h80) (Sz (dF h80) (WL.skipU rfl rfl rfl (WL.skipU rfl rfl rfl (WL.skipU rfl rfl rfl (Sz (dF h80) (fw (.bool false) (Yl.pickF rfl (dF h80) rfl) (nt (jf (sk (sr (An rfl (rt (rs ?_)))))))))))))))))))))))
 have H157 := H155.pk []
 obtain rfl : _ = 0 := hr.symm.trans (et (iN h24) (et (iN h53) (et (iN h80) (et (iN h108) (et (ip h136) (et (iN h137) (et (iN h140) (et (ip h143) (et (iN h144) (et (bnd_of hr152) (ip h156)))))))))))
 exact ⟨rfl, H157, (by omega)⟩
 refine jT (dT h156) (sr (An rfl (rt (tR (rs ?_)))))
 have H158 := H155.pk []
 obtain rfl : _ = 21 := hr.symm.trans (et (iN h24) (et (iN h53) (et (iN h80) (et (iN h108) (et (ip h136) (et (iN h137) (et (iN h140) (et (ip h143) (et (iN h144) (et (bnd_of hr152) (iN h156)))))))))))
 exact ⟨rfl, H158, (by omega)⟩
 refine jT (dT h143) (sr (An rfl (rt (tR (rs ?_)))))
 have H159 := H23.pk []
 obtain rfl : _ = 40 := hr.symm.trans (et (iN h24) (et (iN h53) (et (iN h80) (et (iN h108) (et (ip h136) (et (iN h137) (et (iN h140) (iN h143))))))))
 exact ⟨rfl, H159, (by omega)⟩
 refine Sz (dT h136) (Sz (dT h136) (WL.skipU rfl rfl rfl (WL.skipU rfl rfl rfl (WL.skipU rfl rfl rfl (WL.skipU rfl rfl rfl (WL.skipU rfl rfl rfl (WL.skipU rfl rfl rfl (WL.skipU rfl rfl rfl (WL.skipU rfl rfl rfl (Sz (dT h136) (fw (.bool true) (Yl.pickT rfl (dT h136) rfl) (Mz rfl (Sz rfl (Sz rfl (WL.skipU rfl rfl rfl (WL.skipU rfl rfl rfl (WL.skipU rfl rfl rfl (Sz rfl (fw (.bool true) (Yl.pickT rfl rfl rfl) (Mz rfl (Sz rfl (Sz rfl (Sz rfl (Sz rfl (WL.skipU rfl rfl rfl (WL.skipU rfl rfl rfl (WL.skipU rfl rfl rfl (Sz rfl (fw (.bool true) (Yl.pickT rfl rfl rfl) (Mz rfl (Sz rfl (Sz rfl (Sz rfl (Sz rfl (WL.skipU rfl rfl rfl (WL.skipU rfl rfl rfl (WL.skipU rfl rfl rfl (Sz rfl (fw (.bool true) (Yl.pickT rfl rfl rfl) ?_)))))))))))))))))))))))))))))))))))))))
 refine nt (jt (sr (An rfl (rt (tR (rs ?_))))))
 have H160 := H23.pk []
 obtain rfl : _ = 40 := hr.symm.trans (et (iN h24) (et (iN h53) (et (iN h80) (et (iN h108) (iN h136)))))
 exact ⟨rfl, H160, (by omega)⟩
def r04_All_L0 : List OpD → Unit ⊕ Int
  | [] => Sum.inl ()
  | x33 :: q22 => bnd (r04_CheckOp x33) fun yr46 => if yr46 = 0 then r04_All_L0 q22 else Sum.inr (yr46)
def r04_All (l0 : List OpD) : Int :=
 lp (r04_All_L0 l0) fun _ => 0
set_option maxRecDepth 100000 in
theorem r04_All_ok (w : World) (D : Nat → Prop) (A0 : Option Addr) (n0 c0 : Nat) (l0 : List OpD) (r0 : Int) (H : Own w D w []) (hx0 : Ro w D fun w' => Rds w' 6 A0 n0 (List.flatMap OpD.cells l0)) (hn0 : n0 = l0.length) (hl0 : l0.length ≤ 9223372036854775807) (hr : r04_All l0 = r0) :
    Calls Tryz.prog 32 #[.slice A0 n0 c0] w (Ret fun v w' => v = .int .i64 r0 ∧ Own w D w' []) := by
 subst hn0
 refine Calls.body (args := [.slice A0 l0.length c0]) Tryz.func32 rfl rfl rfl ?_
 show Wp _ _ _ [(0, .slice A0 l0.length c0)] _ _
 refine sr (An rfl (Wp.seq (sr (Mz rfl (Kz (.int .i64 ((l0.length : Nat) : Int)) (Mn rfl (bo ?_)))))))
 have H23 : Own w D w [] := H.pk []
 obtain ⟨I27, hI28⟩ : ∃ q : Nat → World → Prop, q = fun (i : Nat) w' => Own w D w' [] ∧ (i ≤ l0.length ∧ r04_All_L0 l0 = r04_All_L0 (List.drop i l0)) := ⟨_, rfl⟩
 have dm29 : ∀ {k21 : Nat} {w' : World}, I27 k21 w' ↔ Own w D w' [] ∧ k21 ≤ l0.length ∧ r04_All_L0 l0 = r04_All_L0 (List.drop k21 l0) := by intros; subst hI28; exact Iff.rfl
 refine Wp.loop (fun i : Nat => [(2, .int .i64 0), (8, .int .i64 ((i : Nat) : Int)), (7, .int .i64 ((l0.length : Nat) : Int)), (6, .slice A0 l0.length c0)]) I27 (fun i => l0.length - i) 0 ⟨rfl, rfl, rfl, rfl, trivial⟩ (dm29.2 ⟨H23, by omega, rfl⟩) ?_
 rintro k21 w24 hf26
 show Wp _ _ _ [(2, .int .i64 0), (8, .int .i64 ((k21 : Nat) : Int)), (7, .int .i64 ((l0.length : Nat) : Int)), (6, .slice A0 l0.length c0)] _ _
 obtain ⟨H25, hi31, hq30⟩ := dm29.1 hf26
 refine sr (Kz (.bool (decide (((k21 : Nat) : Int) < ((l0.length : Nat) : Int)))) (nt (Wp.seq ?_)))
 by_cases h32 : ((k21 : Nat) : Int) < ((l0.length : Nat) : Int)
 obtain ⟨x33, hx34⟩ := rds_at (ls := l0) (i := k21) OpD.len (by decide) (H25.ro hx0) (by first | omega | (simp; done) | (simp; omega))
 have hd35 := drop_at hx34
 refine jT (dT h32) (sk (Wp.seq (bo (sr (fw (.pointer (some ⟨ab A0, ao A0 + k21 * 6, none⟩)) (Yl.indexAddr (El25) rfl rfl ((H25.ro hx0).addr (i := k21) (by omega)) (by omega)) (fw (.agg (OpD.cells x33).toArray) (Yl.load rfl (Lds.agg (cs := (OpD.cells x33)) Tryz.isAgg64 Tryz.sizeOf64 ((H25.ro hx0).elem OpD.len hx34 (by decide)))) ?_))))))
 refine npw [.int .i64 0, .string ⟨List.toArray ([])⟩, .string ⟨List.toArray ([])⟩, .string ⟨List.toArray ([])⟩, .string ⟨List.toArray ([])⟩, .int .i64 0] 64 H25 ?_
 intro g36 w37 H38
 refine sto (OpD.cells x33) 0 H38 Tryz.sizeOf64 ?_
 intro w39 H40
 refine ns (La (OpD.cells x33) H40 0 Tryz.isAgg64 Tryz.sizeOf64 ?_)
 obtain ⟨r46, hr47⟩ : ∃ q, r04_CheckOp x33 = q := ⟨_, rfl⟩
 obtain ⟨D41, HP42, ro43, bk44, rr45⟩ := Own.enter0 H40
 refine cl Tryz.call75 (r04_CheckOp_ok _ _ x33 r46 HP42 hr47) ?_
 rintro _ w48 ⟨rfl, HQ49, hk51⟩
 have H50 := bk44 _ _ HQ49
 replace hk51 : ¬ (r46 = 0) ∨ (1 ≤ x33.xKind ∧ x33.xKind ≤ 5) := hk51
 refine Ar rfl (Mz rfl (fw (.bool (decide (¬ (r46 = 0)))) (Yl.bool (e := !(decide (r46 = 0))) yk decide_not.symm) (nt ?_)))
 by_cases h52 : r46 = 0
 refine jF (dF (not_not_intro h52)) (Wp.skip (bN (Fin.then (Wp.region (fw (.int .i64 ((k21 + 1 : Nat) : Int)) (Yl.int (e := IntKind.i64.wrap (((k21 : Nat) : Int) + 1)) yk (by rw [IntWalk.i64_in _ (by omega)]; omega)) (Mz rfl (WL.nil ?_)))))))
 have H53 := H50.pk []
 exact Fin.round (k21 + 1) ⟨rfl, rfl, rfl, rfl, trivial⟩ (dm29.2 ⟨H53, by omega, et (hq30) (et (congrArg (fun q => r04_All_L0 q) hd35) (et (bnd_of hr47) (ip h52)))⟩) (by show l0.length - (k21 + 1) < l0.length - k21; omega)
 refine jT (dT h52) (sr (Mz rfl (An rfl (rt (bR (tR (tR (bR (tR (rs ?_))))))))))
 have H54 := H50.pk []
 obtain rfl : _ = r46 := hr.symm.trans (lp_r (et (hq30) (et (congrArg (fun q => r04_All_L0 q) hd35) (et (bnd_of hr47) (iN h52)))))
 exact ⟨rfl, H54⟩
 refine jF (dF h32) (Wp.exit (Fin.thenX ?_))
 have hL55 : r04_All_L0 l0 = Sum.inl () := et (hq30) (et (congrArg (fun q => r04_All_L0 q) (drop_end (ls := l0) (i := k21) (by omega))) rfl)
 refine Fin.thenX (Fin.blockX (Fin.then (sr (An rfl (rt (rs ?_))))))
 have H56 := H25.pk []
 obtain rfl : _ = 0 := hr.symm.trans (lp_l hL55)
 exact ⟨rfl, H56⟩
def r04_Check (l0 : List OpD) : Int :=
 if ((l0.length : Nat) : Int) < 1 then 3 else if ((l0.length : Nat) : Int) > 4 then 3 else bnd (r04_All l0) fun yr30 => yr30
set_option maxRecDepth 100000 in
theorem r04_Check_ok (w : World) (D : Nat → Prop) (A0 : Option Addr) (n0 c0 : Nat) (l0 : List OpD) (r0 : Int) (H : Own w D w []) (hx0 : Ro w D fun w' => Rds w' 6 A0 n0 (List.flatMap OpD.cells l0)) (hn0 : n0 = l0.length) (hl0 : l0.length ≤ 9223372036854775807) (hr : r04_Check l0 = r0) :
    Calls Tryz.prog 30 #[.slice A0 n0 c0] w (Ret fun v w' => v = .int .i64 r0 ∧ Own w D w' []) := by
 subst hn0
 refine Calls.body (args := [.slice A0 l0.length c0]) Tryz.func30 rfl rfl rfl ?_
 show Wp _ _ _ [(0, .slice A0 l0.length c0)] _ _
 refine sr (An rfl (Wp.seq (sr (Mz rfl (Kz (.int .i64 ((l0.length : Nat) : Int)) (Kz (.bool (decide (((l0.length : Nat) : Int) < 1))) (Mz rfl ?_)))))))
 by_cases h21 : ((l0.length : Nat) : Int) < 1
 refine Sz (dT h21) (Sz (dT h21) (Sz (dT h21) (fw (.bool true) (Yl.pickT rfl (dT h21) rfl) (nt (jt (sr (An rfl (rt (tR (rs ?_))))))))))
 have H22 : Own w D w [] := H.pk []
 obtain rfl : _ = 3 := hr.symm.trans (ip h21)
 exact ⟨rfl, H22⟩
 refine gw (.slice A0 l0.length c0) (dF h21) (Yl.move rfl) (Gz (.int .i64 ((l0.length : Nat) : Int)) (dF h21) (Gz (.bool (decide (((l0.length : Nat) : Int) > 4))) (dF h21) (fw (.bool (decide (((l0.length : Nat) : Int) > 4))) (Yl.pickF rfl (dF h21) rfl) (nt ?_))))
 by_cases h23 : ((l0.length : Nat) : Int) > 4
 refine jT (dT h23) (sr (An rfl (rt (tR (rs ?_)))))
 have H24 : Own w D w [] := H.pk []
 obtain rfl : _ = 3 := hr.symm.trans (et (iN h21) (ip h23))
 exact ⟨rfl, H24⟩
 refine jF (dF h23) (sk (sr (Mz rfl ?_)))
 obtain ⟨r30, hr31⟩ : ∃ q, r04_All l0 = q := ⟨_, rfl⟩
 obtain ⟨D25, HP26, ro27, bk28, rr29⟩ := Own.enter0 H
 refine cl Tryz.call32 (r04_All_ok _ _ A0 l0.length c0 l0 r30 HP26 (ro27 _ hx0) rfl (by omega) hr31) ?_
 rintro _ w32 ⟨rfl, HQ33⟩
 have H34 := bk28 _ _ HQ33
 refine An rfl (rt (rs ?_))
 have H35 := H34.pk []
 obtain rfl : _ = r30 := hr.symm.trans (et (iN h21) (et (iN h23) (bnd_of hr31)))
 exact ⟨rfl, H35⟩
def r17_Check_L0 (l0 : List OwnerD) : List OwnerD → Nat → Unit ⊕ Int
  | [], k29 => Sum.inl ()
  | x41 :: q30, k29 => if x41.xShard < 1 then Sum.inr (170) else if x41.xShard > 4 then Sum.inr (170) else if ((k29 : Nat) : Int) > 0 then bnd (r02_CheckKey x41.xLo) fun yr61 => if yr61 = 0 then bnd (List.getD l0 (k29 - 1) default) fun yx68 => if x41.xLo ≤ yx68.xLo then Sum.inr (170) else r17_Check_L0 l0 q30 (k29 + 1) else Sum.inr (170) else r17_Check_L0 l0 q30 (k29 + 1)
def r17_Check (l0 : List OwnerD) : Int :=
 if ((l0.length : Nat) : Int) < 1 then 170 else if ((l0.length : Nat) : Int) > 6 then 170 else bnd (List.getD l0 0 default) fun yx25 => if yx25.xLo ≠ ([]) then 170 else lp (r17_Check_L0 l0 l0 0) fun _ => 0
set_option maxRecDepth 100000 in
theorem r17_Check_ok (w : World) (D : Nat → Prop) (A0 : Option Addr) (n0 c0 : Nat) (l0 : List OwnerD) (r0 : Int) (H : Own w D w []) (hx0 : Ro w D fun w' => Rds w' 2 A0 n0 (List.flatMap OwnerD.cells l0)) (hn0 : n0 = l0.length) (hl0 : l0.length ≤ 9223372036854775807) (hr : r17_Check l0 = r0) :
    Calls Tryz.prog 33 #[.slice A0 n0 c0] w (Ret fun v w' => v = .int .i64 r0 ∧ Own w D w' []) := by
 subst hn0
 refine Calls.body (args := [.slice A0 l0.length c0]) Tryz.func33 rfl rfl rfl ?_
 show Wp _ _ _ [(0, .slice A0 l0.length c0)] _ _
 refine sr (An rfl (Wp.seq (sr (Mz rfl (Kz (.int .i64 ((l0.length : Nat) : Int)) (Kz (.bool (decide (((l0.length : Nat) : Int) < 1))) (Mz rfl ?_)))))))
 by_cases h21 : ((l0.length : Nat) : Int) < 1
 refine Sz (dT h21) (Sz (dT h21) (Sz (dT h21) (fw (.bool true) (Yl.pickT rfl (dT h21) rfl) (Mz rfl (Sz rfl (Sz rfl (Sz rfl (Sz rfl (Sz rfl (fw (.bool true) (Yl.pickT rfl rfl rfl) (nt (jt (sr (An rfl (rt (tR (rs ?_)))))))))))))))))
 have H22 : Own w D w [] := H.pk []
 obtain rfl : _ = 170 := hr.symm.trans (ip h21)
 exact ⟨rfl, H22⟩
 refine gw (.slice A0 l0.length c0) (dF h21) (Yl.move rfl) (Gz (.int .i64 ((l0.length : Nat) : Int)) (dF h21) (Gz (.bool (decide (((l0.length : Nat) : Int) > 6))) (dF h21) (fw (.bool (decide (((l0.length : Nat) : Int) > 6))) (Yl.pickF rfl (dF h21) rfl) (Mz rfl ?_))))
 by_cases h23 : ((l0.length : Nat) : Int) > 6
 refine Sz (dT h23) (Sz (dT h23) (Sz (dT h23) (Sz (dT h23) (Sz (dT h23) (fw (.bool true) (Yl.pickT rfl (dT h23) rfl) (nt (jt (sr (An rfl (rt (tR (rs ?_))))))))))))
 have H24 : Own w D w [] := H.pk []
 obtain rfl : _ = 170 := hr.symm.trans (et (iN h21) (ip h23))
 exact ⟨rfl, H24⟩
 refine gw (.slice A0 l0.length c0) (dF h23) (Yl.move rfl) ?_
 obtain ⟨x25, hx26⟩ := rds_at (ls := l0) (i := 0) OwnerD.len (by decide) (H.ro hx0) (by first | omega | (simp; done) | (simp; omega))
 refine gw (.pointer (some ⟨ab A0, ao A0 + 0 * 2, none⟩)) (dF h23) (Yl.indexAddr (El27) rfl rfl ((H.ro hx0).addr (i := 0) (by omega)) (by omega)) (Gz (.pointer (some ⟨ab A0, ao A0 + 0 * 2, none⟩)) (dF h23) (gw (.string ⟨List.toArray x25.xLo⟩) (dF h23) (Yl.load rfl (Lds.one Tryz.isAgg9 (((H.ro hx0).elem OwnerD.len hx26 (by decide)).at_ (k := 0) rfl))) (gw (.bool (decide (x25.xLo ≠ ([])))) (dF h23) (Yl.strNe rfl rfl) (fw (.bool (decide (x25.xLo ≠ ([])))) (Yl.pickF rfl (dF h23) rfl) (nt ?_)))))
 by_cases h27 : x25.xLo ≠ ([])
 refine jT (dT h27) (sr (An rfl (rt (tR (rs ?_)))))
 have H28 : Own w D w [] := H.pk []
 obtain rfl : _ = 170 := hr.symm.trans (et (iN h21) (et (iN h23) (et (bnd_of (getD_of hx26)) (ip h27))))
 exact ⟨rfl, H28⟩
 refine jF (dF h27) (sk (Wp.seq (sr (Mz rfl (Kz (.int .i64 ((l0.length : Nat) : Int)) (Mn rfl (bo ?_)))))))
 have H31 : Own w D w [] := H.pk []
 obtain ⟨I35, hI36⟩ : ∃ q : Nat → World → Prop, q = fun (i : Nat) w' => Own w D w' [] ∧ (i ≤ l0.length ∧ r17_Check_L0 l0 l0 0 = r17_Check_L0 l0 (List.drop i l0) i) := ⟨_, rfl⟩
 have dm37 : ∀ {k29 : Nat} {w' : World}, I35 k29 w' ↔ Own w D w' [] ∧ k29 ≤ l0.length ∧ r17_Check_L0 l0 l0 0 = r17_Check_L0 l0 (List.drop k29 l0) k29 := by intros; subst hI36; exact Iff.rfl
 refine Wp.loop (fun i : Nat => [(2, .int .i64 0), (22, .int .i64 ((i : Nat) : Int)), (21, .int .i64 ((l0.length : Nat) : Int)), (20, .slice A0 l0.length c0), (0, .slice A0 l0.length c0)]) I35 (fun i => l0.length - i) 0 ⟨rfl, rfl, rfl, rfl, rfl, trivial⟩ (dm37.2 ⟨H31, by omega, rfl⟩) ?_
 rintro k29 w32 hf34
 show Wp _ _ _ [(2, .int .i64 0), (22, .int .i64 ((k29 : Nat) : Int)), (21, .int .i64 ((l0.length : Nat) : Int)), (20, .slice A0 l0.length c0), (0, .slice A0 l0.length c0)] _ _
 obtain ⟨H33, hi39, hq38⟩ := dm37.1 hf34
 refine sr (Kz (.bool (decide (((k29 : Nat) : Int) < ((l0.length : Nat) : Int)))) (nt (Wp.seq ?_)))
 by_cases h40 : ((k29 : Nat) : Int) < ((l0.length : Nat) : Int)
 obtain ⟨x41, hx42⟩ := rds_at (ls := l0) (i := k29) OwnerD.len (by decide) (H33.ro hx0) (by first | omega | (simp; done) | (simp; omega))
 have hd43 := drop_at hx42
 refine jT (dT h40) (sk (Wp.seq (bo (sr (Mz rfl (fw (.pointer (some ⟨ab A0, ao A0 + k29 * 2, none⟩)) (Yl.indexAddr (El27) rfl rfl ((H33.ro hx0).addr (i := k29) (by omega)) (by omega)) (fw (.agg (OwnerD.cells x41).toArray) (Yl.load rfl (Lds.agg (cs := (OwnerD.cells x41)) Tryz.isAgg88 Tryz.sizeOf88 ((H33.ro hx0).elem OwnerD.len hx42 (by decide)))) ?_)))))))
 refine npw [.string ⟨List.toArray ([])⟩, .int .i64 0] 88 H33 ?_
 intro g44 w45 H46
 refine Az rfl ?_
 refine sto (OwnerD.cells x41) 0 H46 Tryz.sizeOf88 ?_
 intro w47 H48
 refine nt (Wp.seq ?_)
 have H50 := H48.drew
 refine Wp.drawnX [] (fun W => ∃ L', Own w D W ([blk g44 (OwnerD.cells x41) 88] ++ L')) (by kernel_rfl) (by kernel_rfl) (NoP.then (NoP.block (NoP.then (NoP.then (NoP.block (NoP.then NoP.base)))))) ⟨_, H50⟩ ?_
 revert H50
 generalize World.drew w47 = w49
 intro H50
 refine GX.take (v := .pointer (some ⟨g44, 1, none⟩)) (rs := []) 0 rfl (by kernel_rfl) (fun _ _ => yk) (GX.take (v := .int .i64 x41.xShard) (rs := []) 1 rfl (by kernel_rfl) (fun _ ⟨_, H9⟩ => Yl.load rfl (Lds.one Tryz.isAgg3 (Cls.of (H9.cls (i := 0) rfl) rfl))) (GX.take (v := .bool (decide (x41.xShard < 1))) (rs := []) 2 rfl (by kernel_rfl) (fun _ _ => yk) (GX.take (v := .bool (decide (x41.xShard < 1))) (rs := []) 3 rfl (by kernel_rfl) (fun _ _ => Yl.move rfl) ?_)))
 by_cases h51 : x41.xShard < 1
 refine GX.skipG (rs := []) 4 rfl rfl rfl (dT h51) (by kernel_rfl) (GX.skipG (rs := []) 5 rfl rfl rfl (dT h51) (by kernel_rfl) (GX.skipG (rs := []) 6 rfl rfl rfl (dT h51) (by kernel_rfl) (GX.take (v := .bool true) (rs := []) 7 rfl (by kernel_rfl) (fun _ _ => Yl.pickT rfl (dT h51) rfl) (GX.take (v := .bool true) (rs := []) 8 rfl (by kernel_rfl) (fun _ _ => Yl.move rfl) (GX.skipG (rs := []) 9 rfl rfl rfl rfl (by kernel_rfl) (GX.skipG (rs := []) 10 rfl rfl rfl rfl (by kernel_rfl) (GX.skipG (rs := []) 11 rfl rfl rfl rfl (by kernel_rfl) (GX.skipUG (rs := []) 12 rfl rfl rfl (by kernel_rfl) (GX.skipUG (rs := []) 13 rfl rfl rfl (by kernel_rfl) (GX.skipUG (rs := []) 14 rfl rfl rfl (by kernel_rfl) (GX.skipUG (rs := []) 15 rfl rfl rfl (by kernel_rfl) (GX.skipUG (rs := []) 16 rfl rfl rfl (by kernel_rfl) (GX.skipUG (rs := []) 17 rfl rfl rfl (by kernel_rfl) (GX.skipUG (rs := []) 18 rfl rfl rfl (by kernel_rfl) (GX.skipUG (rs := []) 19 rfl rfl rfl (by kernel_rfl) (GX.skipUG (rs := []) 20 rfl rfl rfl (by kernel_rfl) (GX.skipUG (rs := []) 21 rfl rfl rfl (by kernel_rfl) (GX.skipUG (rs := []) 22 rfl rfl rfl (by kernel_rfl) (GX.skipUG (rs := []) 23 rfl rfl rfl (by kernel_rfl) (GX.skipUG (rs := []) 24 rfl rfl rfl (by kernel_rfl) (GX.skipUG (rs := []) 25 rfl rfl rfl (by kernel_rfl) (GX.skipUG (rs := []) 26 rfl rfl rfl (by kernel_rfl) (GX.skipG (rs := []) 27 rfl rfl rfl rfl (by kernel_rfl) (GX.take (v := .bool true) (rs := []) 28 rfl (by kernel_rfl) (fun _ _ => Yl.pickT rfl rfl rfl) (GX.done (by kernel_rfl) (Fin.then (jt (sr (An rfl (rt (bR (tR (tR (bR (tR (rs ?_))))))))))))))))))))))))))))))))))))
 have H52 := H50.pk []
 obtain rfl : _ = 170 := hr.symm.trans (et (iN h21) (et (iN h23) (et (bnd_of (getD_of hx26)) (et (iN h27) (lp_r (et (hq38) (et (congrArg (fun q => r17_Check_L0 l0 q k29) hd43) (ip h51))))))))
 exact ⟨rfl, H52⟩
 refine GX.takeG (v := .pointer (some ⟨g44, 1, none⟩)) (rs := []) 4 rfl rfl rfl (dF h51) (by kernel_rfl) (fun _ _ => yk) (GX.takeG (v := .int .i64 x41.xShard) (rs := []) 5 rfl rfl rfl (dF h51) (by kernel_rfl) (fun _ ⟨_, H9⟩ => Yl.load rfl (Lds.one Tryz.isAgg3 (Cls.of (H9.cls (i := 0) rfl) rfl))) (GX.takeG (v := .bool (decide (x41.xShard > 4))) (rs := []) 6 rfl rfl rfl (dF h51) (by kernel_rfl) (fun _ _ => yk) (GX.take (v := .bool (decide (x41.xShard > 4))) (rs := []) 7 rfl (by kernel_rfl) (fun _ _ => Yl.pickF rfl (dF h51) rfl) (GX.take (v := .bool (decide (x41.xShard > 4))) (rs := []) 8 rfl (by kernel_rfl) (fun _ _ => Yl.move rfl) ?_))))
 by_cases h53 : x41.xShard > 4
 refine GX.skipG (rs := []) 9 rfl rfl rfl (dT h53) (by kernel_rfl) (GX.skipG (rs := []) 10 rfl rfl rfl (dT h53) (by kernel_rfl) (GX.skipG (rs := []) 11 rfl rfl rfl (dT h53) (by kernel_rfl) (GX.skipUG (rs := []) 12 rfl rfl rfl (by kernel_rfl) (GX.skipUG (rs := []) 13 rfl rfl rfl (by kernel_rfl) (GX.skipUG (rs := []) 14 rfl rfl rfl (by kernel_rfl) (GX.skipUG (rs := []) 15 rfl rfl rfl (by kernel_rfl) (GX.skipUG (rs := []) 16 rfl rfl rfl (by kernel_rfl) (GX.skipUG (rs := []) 17 rfl rfl rfl (by kernel_rfl) (GX.skipUG (rs := []) 18 rfl rfl rfl (by kernel_rfl) (GX.skipUG (rs := []) 19 rfl rfl rfl (by kernel_rfl) (GX.skipUG (rs := []) 20 rfl rfl rfl (by kernel_rfl) (GX.skipUG (rs := []) 21 rfl rfl rfl (by kernel_rfl) (GX.skipUG (rs := []) 22 rfl rfl rfl (by kernel_rfl) (GX.skipUG (rs := []) 23 rfl rfl rfl (by kernel_rfl) (GX.skipUG (rs := []) 24 rfl rfl rfl (by kernel_rfl) (GX.skipUG (rs := []) 25 rfl rfl rfl (by kernel_rfl) (GX.skipUG (rs := []) 26 rfl rfl rfl (by kernel_rfl) (GX.skipG (rs := []) 27 rfl rfl rfl (dT h53) (by kernel_rfl) (GX.take (v := .bool true) (rs := []) 28 rfl (by kernel_rfl) (fun _ _ => Yl.pickT rfl (dT h53) rfl) (GX.done (by kernel_rfl) (Fin.then (jt (sr (An rfl (rt (bR (tR (tR (bR (tR (rs ?_)))))))))))))))))))))))))))))))
 have H54 := H50.pk []
 obtain rfl : _ = 170 := hr.symm.trans (et (iN h21) (et (iN h23) (et (bnd_of (getD_of hx26)) (et (iN h27) (lp_r (et (hq38) (et (congrArg (fun q => r17_Check_L0 l0 q k29) hd43) (et (iN h51) (ip h53)))))))))
 exact ⟨rfl, H54⟩
 refine GX.takeG (v := .int .i64 ((k29 : Nat) : Int)) (rs := []) 9 rfl rfl rfl (dF h53) (by kernel_rfl) (fun _ _ => Yl.move rfl) (GX.takeG (v := .bool (decide (((k29 : Nat) : Int) > 0))) (rs := []) 10 rfl rfl rfl (dF h53) (by kernel_rfl) (fun _ _ => yk) (GX.takeG (v := .bool (decide (((k29 : Nat) : Int) > 0))) (rs := []) 11 rfl rfl rfl (dF h53) (by kernel_rfl) (fun _ _ => Yl.move rfl) ?_))
 by_cases h55 : ((k29 : Nat) : Int) > 0
 refine GX.takeG (v := .pointer (some ⟨g44, 0, none⟩)) (rs := []) 12 rfl rfl rfl (dT h55) (by kernel_rfl) (fun _ _ => yk) (GX.takeG (v := .string ⟨List.toArray x41.xLo⟩) (rs := []) 13 rfl rfl rfl (dT h55) (by kernel_rfl) (fun _ ⟨_, H9⟩ => Yl.load rfl (Lds.one Tryz.isAgg9 (Cls.of (H9.cls (i := 0) rfl) rfl))) ?_)
 obtain ⟨r61, hr62⟩ : ∃ q, r02_CheckKey x41.xLo = q := ⟨_, rfl⟩
 obtain ⟨D56, HP57, ro58, bk59, rr60⟩ := Own.enter0 H50
 refine GX.doG 14 rfl rfl rfl (dT h55) (by kernel_rfl) (Do.call Tryz.call74 rfl (r02_CheckKey_ok _ _ x41.xLo r61 HP57 hr62) ?_)
 rintro _ w63 ⟨rfl, HQ64, hk66⟩
 have H65 := bk59 _ _ HQ64
 replace hk66 : ¬ (r61 = 0) ∨ (1 ≤ x41.xLo.length ∧ x41.xLo.length ≤ 12) := hk66
 refine ⟨.inr ⟨_, H65⟩, ?_⟩
 refine GX.takeG (v := .bool (decide (¬ (r61 = 0)))) (rs := []) 15 rfl rfl rfl (dT h55) (by kernel_rfl) (fun _ _ => Yl.bool (e := !(decide (r61 = 0))) yk decide_not.symm) (GX.takeG (v := .bool (decide (¬ (r61 = 0)))) (rs := []) 16 rfl rfl rfl (dT h55) (by kernel_rfl) (fun _ _ => Yl.move rfl) ?_)
 by_cases h67 : r61 = 0
 refine GX.takeG (v := .slice A0 l0.length c0) (rs := []) 17 rfl rfl rfl (dF (not_not_intro h67)) (by kernel_rfl) (fun _ _ => Yl.move rfl) (GX.takeG (v := .int .i64 ((k29 : Nat) : Int)) (rs := []) 18 rfl rfl rfl (dF (not_not_intro h67)) (by kernel_rfl) (fun _ _ => Yl.move rfl) (GX.takeG (v := .int .i64 ((k29 - 1 : Nat) : Int)) (rs := []) 19 rfl rfl rfl (dF (not_not_intro h67)) (by kernel_rfl) (fun _ _ => Yl.int (e := IntKind.i64.wrap (((k29 : Nat) : Int) - 1)) yk (by rw [IntWalk.i64_in _ (by omega)]; omega)) ?_))
 obtain ⟨x68, hx69⟩ := at_of (ls := l0) (i := k29 - 1) (by first | omega | (simp; done) | (simp; omega))
 refine GX.takeG (v := .pointer (some ⟨ab A0, ao A0 + (k29 - 1) * 2, none⟩)) (rs := []) 20 rfl rfl rfl (dF (not_not_intro h67)) (by kernel_rfl) (fun _ ⟨_, H9⟩ => Yl.indexAddr (El27) rfl rfl ((H9.ro hx0).addr (i := k29 - 1) (by omega)) (by omega)) (GX.takeG (v := .pointer (some ⟨ab A0, ao A0 + (k29 - 1) * 2, none⟩)) (rs := []) 21 rfl rfl rfl (dF (not_not_intro h67)) (by kernel_rfl) (fun _ _ => yk) (GX.takeG (v := .string ⟨List.toArray x68.xLo⟩) (rs := []) 22 rfl rfl rfl (dF (not_not_intro h67)) (by kernel_rfl) (fun _ ⟨_, H9⟩ => Yl.load rfl (Lds.one Tryz.isAgg9 (((H9.ro hx0).elem OwnerD.len hx69 (by decide)).at_ (k := 0) rfl))) (GX.takeG (v := .pointer (some ⟨g44, 0, none⟩)) (rs := []) 23 rfl rfl rfl (dF (not_not_intro h67)) (by kernel_rfl) (fun _ _ => yk) (GX.takeG (v := .string ⟨List.toArray x41.xLo⟩) (rs := []) 24 rfl rfl rfl (dF (not_not_intro h67)) (by kernel_rfl) (fun _ ⟨_, H9⟩ => Yl.load rfl (Lds.one Tryz.isAgg9 (Cls.of (H9.cls (i := 0) rfl) rfl))) (GX.takeG (v := .bool (decide (x41.xLo ≤ x68.xLo))) (rs := []) 25 rfl rfl rfl (dF (not_not_intro h67)) (by kernel_rfl) (fun _ _ => Yl.bool (e := !(Op.bytesLess x68.xLo x41.xLo)) (Yl.strGe rfl rfl) (bl_ge _ _)) (GX.takeG (v := .bool (decide (x41.xLo ≤ x68.xLo))) (rs := []) 26 rfl rfl rfl (dT h55) (by kernel_rfl) (fun _ _ => Yl.pickF rfl (dF (not_not_intro h67)) rfl) (GX.takeG (v := .bool (decide (x41.xLo ≤ x68.xLo))) (rs := []) 27 rfl rfl rfl (dF h53) (by kernel_rfl) (fun _ _ => Yl.pickT rfl (dT h55) rfl) (GX.take (v := .bool (decide (x41.xLo ≤ x68.xLo))) (rs := []) 28 rfl (by kernel_rfl) (fun _ _ => Yl.pickF rfl (dF h53) rfl) (GX.done (by kernel_rfl) (Fin.then ?_))))))))))
 by_cases h70 : x41.xLo ≤ x68.xLo
 refine jT (dT h70) (sr (An rfl (rt (bR (tR (tR (bR (tR (rs ?_)))))))))
 have H71 := H65.pk []
 obtain rfl : _ = 170 := hr.symm.trans (et (iN h21) (et (iN h23) (et (bnd_of (getD_of hx26)) (et (iN h27) (lp_r (et (hq38) (et (congrArg (fun q => r17_Check_L0 l0 q k29) hd43) (et (iN h51) (et (iN h53) (et (ip h55) (et (bnd_of hr62) (et (ip h67) (et (bnd_of (getD_of hx69)) (ip h70))))))))))))))
 exact ⟨rfl, H71⟩
 refine jF (dF h70) (Wp.skip (bN (Fin.then (Wp.region (fw (.int .i64 ((k29 + 1 : Nat) : Int)) (Yl.int (e := IntKind.i64.wrap (((k29 : Nat) : Int) + 1)) yk (by rw [IntWalk.i64_in _ (by omega)]; omega)) (Mz rfl (WL.nil ?_)))))))
 have H72 := H65.pk []
 exact Fin.round (k29 + 1) ⟨rfl, rfl, rfl, rfl, rfl, trivial⟩ (dm37.2 ⟨H72, by omega, et (hq38) (et (congrArg (fun q => r17_Check_L0 l0 q k29) hd43) (et (iN h51) (et (iN h53) (et (ip h55) (et (bnd_of hr62) (et (ip h67) (et (bnd_of (getD_of hx69)) (iN h70))))))))⟩) (by show l0.length - (k29 + 1) < l0.length - k29; omega)
 refine GX.skipG (rs := []) 17 rfl rfl rfl (dT h67) (by kernel_rfl) (GX.skipG (rs := []) 18 rfl rfl rfl (dT h67) (by kernel_rfl) (GX.skipG (rs := []) 19 rfl rfl rfl (dT h67) (by kernel_rfl) (GX.skipG (rs := []) 20 rfl rfl rfl (dT h67) (by kernel_rfl) (GX.skipG (rs := []) 21 rfl rfl rfl (dT h67) (by kernel_rfl) (GX.skipG (rs := []) 22 rfl rfl rfl (dT h67) (by kernel_rfl) (GX.skipG (rs := []) 23 rfl rfl rfl (dT h67) (by kernel_rfl) (GX.skipG (rs := []) 24 rfl rfl rfl (dT h67) (by kernel_rfl) (GX.skipG (rs := []) 25 rfl rfl rfl (dT h67) (by kernel_rfl) (GX.takeG (v := .bool true) (rs := []) 26 rfl rfl rfl (dT h55) (by kernel_rfl) (fun _ _ => Yl.pickT rfl (dT h67) rfl) (GX.takeG (v := .bool true) (rs := []) 27 rfl rfl rfl (dF h53) (by kernel_rfl) (fun _ _ => Yl.pickT rfl (dT h55) rfl) (GX.take (v := .bool true) (rs := []) 28 rfl (by kernel_rfl) (fun _ _ => Yl.pickF rfl (dF h53) rfl) (GX.done (by kernel_rfl) (Fin.then (jt (sr (An rfl (rt (bR (tR (tR (bR (tR (rs ?_)))))))))))))))))))))))
 have H73 := H65.pk []
 obtain rfl : _ = 170 := hr.symm.trans (et (iN h21) (et (iN h23) (et (bnd_of (getD_of hx26)) (et (iN h27) (lp_r (et (hq38) (et (congrArg (fun q => r17_Check_L0 l0 q k29) hd43) (et (iN h51) (et (iN h53) (et (ip h55) (et (bnd_of hr62) (iN h67))))))))))))
 exact ⟨rfl, H73⟩
 refine GX.skipG (rs := []) 12 rfl rfl rfl (dF h55) (by kernel_rfl) (GX.skipG (rs := []) 13 rfl rfl rfl (dF h55) (by kernel_rfl) (GX.skipG (rs := []) 14 rfl rfl rfl (dF h55) (by kernel_rfl) (GX.skipG (rs := []) 15 rfl rfl rfl (dF h55) (by kernel_rfl) (GX.skipG (rs := []) 16 rfl rfl rfl (dF h55) (by kernel_rfl) (GX.skipUG (rs := []) 17 rfl rfl rfl (by kernel_rfl) (GX.skipUG (rs := []) 18 rfl rfl rfl (by kernel_rfl) (GX.skipUG (rs := []) 19 rfl rfl rfl (by kernel_rfl) (GX.skipUG (rs := []) 20 rfl rfl rfl (by kernel_rfl) (GX.skipUG (rs := []) 21 rfl rfl rfl (by kernel_rfl) (GX.skipUG (rs := []) 22 rfl rfl rfl (by kernel_rfl) (GX.skipUG (rs := []) 23 rfl rfl rfl (by kernel_rfl) (GX.skipUG (rs := []) 24 rfl rfl rfl (by kernel_rfl) (GX.skipUG (rs := []) 25 rfl rfl rfl (by kernel_rfl) (GX.skipG (rs := []) 26 rfl rfl rfl (dF h55) (by kernel_rfl) (GX.takeG (v := .bool false) (rs := []) 27 rfl rfl rfl (dF h53) (by kernel_rfl) (fun _ _ => Yl.pickF rfl (dF h55) rfl) (GX.take (v := .bool false) (rs := []) 28 rfl (by kernel_rfl) (fun _ _ => Yl.pickF rfl (dF h53) rfl) (GX.done (by kernel_rfl) (Fin.then (jf (Wp.skip (bN (Fin.then (Wp.region (fw (.int .i64 ((k29 + 1 : Nat) : Int)) (Yl.int (e := IntKind.i64.wrap (((k29 : Nat) : Int) + 1)) yk (by rw [IntWalk.i64_in _ (by omega)]; omega)) (Mz rfl (WL.nil ?_))))))))))))))))))))))))))
 have H74 := H50.pk []
 exact Fin.round (k29 + 1) ⟨rfl, rfl, rfl, rfl, rfl, trivial⟩ (dm37.2 ⟨H74, by omega, et (hq38) (et (congrArg (fun q => r17_Check_L0 l0 q k29) hd43) (et (iN h51) (et (iN h53) (iN h55))))⟩) (by show l0.length - (k29 + 1) < l0.length - k29; omega)
 refine jF (dF h40) (Wp.exit (Fin.thenX ?_))
 have hL75 : r17_Check_L0 l0 l0 0 = Sum.inl () := et (hq38) (et (congrArg (fun q => r17_Check_L0 l0 q k29) (drop_end (ls := l0) (i := k29) (by omega))) rfl)
 refine Fin.thenX (Fin.blockX (Fin.then (sr (An rfl (rt (rs ?_))))))
 have H76 := H33.pk []
 obtain rfl : _ = 0 := hr.symm.trans (et (iN h21) (et (iN h23) (et (bnd_of (getD_of hx26)) (et (iN h27) (lp_l hL75)))))
 exact ⟨rfl, H76⟩
def r18_fields (p0 : Int) : (List UInt8) :=
 if p0 = 1 then [113, 98, 111] else if p0 = 2 then [113, 98, 99, 115] else if p0 = 3 then [116, 108, 101, 111] else if p0 = 4 then [116, 99, 115] else if p0 = 5 then [116, 102] else bnd (if p0 = 6 then decide (p0 = 6) else decide (p0 = 7)) fun sJrfffffJ => if sJrfffffJ = true then [116] else if p0 = 8 then [118, 101, 109, 119] else if p0 = 9 then [118] else if p0 = 10 then [118, 109, 112, 102, 114] else if p0 = 11 then [109, 97, 110, 114, 111] else if p0 = 12 then [109, 97, 110] else if p0 = 13 then [109] else if p0 = 14 then [109] else []
set_option maxRecDepth 100000 in
theorem r18_fields_ok (w : World) (D : Nat → Prop) (p0 : Int) (r0 : List UInt8) (H : Own w D w [])  (hr : r18_fields p0 = r0) :
    Calls Tryz.prog 27 #[.int .i64 p0] w (Ret fun v w' => v = .string ⟨List.toArray r0⟩ ∧ Own w D w' [] ∧ (r0.length ≤ 5)) := by
 refine Calls.body (args := [.int .i64 p0]) Tryz.func27 rfl rfl rfl ?_
 show Wp _ _ _ [(0, .int .i64 p0)] _ _
 refine sr (An rfl (Wp.seq (sr (Mn rfl (bo (sr (Kz (.bool (decide (p0 = 1))) (An rfl ?_))))))))
 by_cases h21 : p0 = 1
 refine jT (dT h21) (sr (An rfl (rt (bR (tR (rs ?_))))))
 have H22 : Own w D w [] := H.pk []
 obtain rfl : _ = [113, 98, 111] := hr.symm.trans (ip h21)
 exact ⟨rfl, H22, (by exact Nat.le_of_ble_eq_true rfl)⟩
 refine jF (dF h21) (sr (Kz (.bool (decide (p0 = 2))) (An rfl ?_)))
 by_cases h23 : p0 = 2
 refine jT (dT h23) (sr (An rfl (rt (bR (tR (rs ?_))))))
 have H24 : Own w D w [] := H.pk []
 obtain rfl : _ = [113, 98, 99, 115] := hr.symm.trans (et (iN h21) (ip h23))
 exact ⟨rfl, H24, (by exact Nat.le_of_ble_eq_true rfl)⟩
 refine jF (dF h23) (sr (Kz (.bool (decide (p0 = 3))) (An rfl ?_)))
 by_cases h25 : p0 = 3
 refine jT (dT h25) (sr (An rfl (rt (bR (tR (rs ?_))))))
 have H26 : Own w D w [] := H.pk []
 obtain rfl : _ = [116, 108, 101, 111] := hr.symm.trans (et (iN h21) (et (iN h23) (ip h25)))
 exact ⟨rfl, H26, (by exact Nat.le_of_ble_eq_true rfl)⟩
 refine jF (dF h25) (sr (Kz (.bool (decide (p0 = 4))) (An rfl ?_)))
 by_cases h27 : p0 = 4
 refine jT (dT h27) (sr (An rfl (rt (bR (tR (rs ?_))))))
 have H28 : Own w D w [] := H.pk []
 obtain rfl : _ = [116, 99, 115] := hr.symm.trans (et (iN h21) (et (iN h23) (et (iN h25) (ip h27))))
 exact ⟨rfl, H28, (by exact Nat.le_of_ble_eq_true rfl)⟩
 refine jF (dF h27) (sr (Kz (.bool (decide (p0 = 5))) (An rfl ?_)))
 by_cases h29 : p0 = 5
 refine jT (dT h29) (sr (An rfl (rt (bR (tR (rs ?_))))))
 have H30 : Own w D w [] := H.pk []
 obtain rfl : _ = [116, 102] := hr.symm.trans (et (iN h21) (et (iN h23) (et (iN h25) (et (iN h27) (ip h29)))))
 exact ⟨rfl, H30, (by exact Nat.le_of_ble_eq_true rfl)⟩
 refine jF (dF h29) (Wp.seq (sr (Kz (.bool (decide (p0 = 6))) (An rfl ?_))))
 obtain ⟨I32, hI33⟩ : ∃ q : Bool → World → Prop, q = fun (i : Bool) w' => Own w D w' [] ∧ ((if p0 = 6 then decide (p0 = 6) else decide (p0 = 7)) = i) := ⟨_, rfl⟩
 have dm34 : ∀ {b31 : Bool} {w' : World}, I32 b31 w' ↔ Own w D w' [] ∧ (if p0 = 6 then decide (p0 = 6) else decide (p0 = 7)) = b31 := by intros; subst hI33; exact Iff.rfl
 refine Wp.joinT (fun i : Bool => [(14, .bool i), (3, .int .i64 p0), (2, .string ⟨List.toArray ([])⟩)]) I32 ?_ ?_
 by_cases h35 : p0 = 6
 refine jT (dT h35) (Wp.skip ?_)
 have H36 : Own w D w [] := H.pk []
 exact Fin.join (decide (p0 = 6)) ⟨rfl, rfl, rfl, trivial⟩ (dm34.2 ⟨H36, ip h35⟩)
 refine jF (dF h35) (Wp.region (Kz (.bool (decide (p0 = 7))) (Az rfl (WL.nil ?_))))
 have H37 : Own w D w [] := H.pk []
 exact Fin.join (decide (p0 = 7)) ⟨rfl, rfl, rfl, trivial⟩ (dm34.2 ⟨H37, iN h35⟩)
 rintro b31 w38 hf40
 show Wp _ _ _ [(14, .bool b31), (3, .int .i64 p0), (2, .string ⟨List.toArray ([])⟩)] _ _
 obtain ⟨H39, hj41⟩ := dm34.1 hf40
 rcases Bool.eq_false_or_eq_true (b31) with h42 | h42
 refine jT h42 (sr (An rfl (rt (bR (tR (rs ?_))))))
 have H43 := H39.pk []
 obtain rfl : _ = [116] := hr.symm.trans (et (iN h21) (et (iN h23) (et (iN h25) (et (iN h27) (et (iN h29) (et (bnd_of hj41) (ip h42)))))))
 exact ⟨rfl, H43, (by exact Nat.le_of_ble_eq_true rfl)⟩
 refine jF h42 (sr (Kz (.bool (decide (p0 = 8))) (An rfl ?_)))
 by_cases h44 : p0 = 8
 refine jT (dT h44) (sr (An rfl (rt (bR (tR (rs ?_))))))
 have H45 := H39.pk []
 obtain rfl : _ = [118, 101, 109, 119] := hr.symm.trans (et (iN h21) (et (iN h23) (et (iN h25) (et (iN h27) (et (iN h29) (et (bnd_of hj41) (et (ifF h42) (ip h44))))))))
 exact ⟨rfl, H45, (by exact Nat.le_of_ble_eq_true rfl)⟩
 refine jF (dF h44) (sr (Kz (.bool (decide (p0 = 9))) (An rfl ?_)))
 by_cases h46 : p0 = 9
 refine jT (dT h46) (sr (An rfl (rt (bR (tR (rs ?_))))))
 have H47 := H39.pk []
 obtain rfl : _ = [118] := hr.symm.trans (et (iN h21) (et (iN h23) (et (iN h25) (et (iN h27) (et (iN h29) (et (bnd_of hj41) (et (ifF h42) (et (iN h44) (ip h46)))))))))
 exact ⟨rfl, H47, (by exact Nat.le_of_ble_eq_true rfl)⟩
 refine jF (dF h46) (sr (Kz (.bool (decide (p0 = 10))) (An rfl ?_)))
 by_cases h48 : p0 = 10
 refine jT (dT h48) (sr (An rfl (rt (bR (tR (rs ?_))))))
 have H49 := H39.pk []
 obtain rfl : _ = [118, 109, 112, 102, 114] := hr.symm.trans (et (iN h21) (et (iN h23) (et (iN h25) (et (iN h27) (et (iN h29) (et (bnd_of hj41) (et (ifF h42) (et (iN h44) (et (iN h46) (ip h48))))))))))
 exact ⟨rfl, H49, (by exact Nat.le_of_ble_eq_true rfl)⟩
 refine jF (dF h48) (sr (Kz (.bool (decide (p0 = 11))) (An rfl ?_)))
 by_cases h50 : p0 = 11
 refine jT (dT h50) (sr (An rfl (rt (bR (tR (rs ?_))))))
 have H51 := H39.pk []
 obtain rfl : _ = [109, 97, 110, 114, 111] := hr.symm.trans (et (iN h21) (et (iN h23) (et (iN h25) (et (iN h27) (et (iN h29) (et (bnd_of hj41) (et (ifF h42) (et (iN h44) (et (iN h46) (et (iN h48) (ip h50)))))))))))
 exact ⟨rfl, H51, (by exact Nat.le_of_ble_eq_true rfl)⟩
 refine jF (dF h50) (sr (Kz (.bool (decide (p0 = 12))) (An rfl ?_)))
 by_cases h52 : p0 = 12
 refine jT (dT h52) (sr (An rfl (rt (bR (tR (rs ?_))))))
 have H53 := H39.pk []
 obtain rfl : _ = [109, 97, 110] := hr.symm.trans (et (iN h21) (et (iN h23) (et (iN h25) (et (iN h27) (et (iN h29) (et (bnd_of hj41) (et (ifF h42) (et (iN h44) (et (iN h46) (et (iN h48) (et (iN h50) (ip h52))))))))))))
 exact ⟨rfl, H53, (by exact Nat.le_of_ble_eq_true rfl)⟩
 refine jF (dF h52) (Wp.seq (sr (Kz (.bool (decide (p0 = 13))) (An rfl ?_))))
 by_cases h54 : p0 = 13
 refine jT (dT h54) (sk (jT (dT h54) (sr (An rfl (rt (bR (tR (rs ?_))))))))
 have H55 := H39.pk []
 obtain rfl : _ = [109] := hr.symm.trans (et (iN h21) (et (iN h23) (et (iN h25) (et (iN h27) (et (iN h29) (et (bnd_of hj41) (et (ifF h42) (et (iN h44) (et (iN h46) (et (iN h48) (et (iN h50) (et (iN h52) (ip h54)))))))))))))
 exact ⟨rfl, H55, (by exact Nat.le_of_ble_eq_true rfl)⟩
 refine jF (dF h54) (Wp.region (Kz (.bool (decide (p0 = 14))) (An rfl ?_)))
 by_cases h56 : p0 = 14
 refine jT (dT h56) (sr (An rfl (rt (bR (tR (rs ?_))))))
 have H57 := H39.pk []
 obtain rfl : _ = [109] := hr.symm.trans (et (iN h21) (et (iN h23) (et (iN h25) (et (iN h27) (et (iN h29) (et (bnd_of hj41) (et (ifF h42) (et (iN h44) (et (iN h46) (et (iN h48) (et (iN h50) (et (iN h52) (et (iN h54) (ip h56))))))))))))))
 exact ⟨rfl, H57, (by exact Nat.le_of_ble_eq_true rfl)⟩
 refine jF (dF h56) (Wp.skip (bN (Fin.then (sr (An rfl (rt (rs ?_)))))))
 have H58 := H39.pk []
 obtain rfl : _ = [] := hr.symm.trans (et (iN h21) (et (iN h23) (et (iN h25) (et (iN h27) (et (iN h29) (et (bnd_of hj41) (et (ifF h42) (et (iN h44) (et (iN h46) (et (iN h48) (et (iN h50) (et (iN h52) (et (iN h54) (iN h56))))))))))))))
 exact ⟨rfl, H58, (by exact Nat.le_of_ble_eq_true rfl)⟩
def r18_client (p0 : Int) : Bool :=
 if p0 ≥ 11 then decide (p0 ≤ 14) else false
set_option maxRecDepth 100000 in
theorem r18_client_ok (w : World) (D : Nat → Prop) (p0 : Int) (r0 : Bool) (H : Own w D w [])  (hr : r18_client p0 = r0) :
    Calls Tryz.prog 72 #[.int .i64 p0] w (Ret fun v w' => v = .bool r0 ∧ Own w D w' []) := by
 refine Calls.body (args := [.int .i64 p0]) Tryz.func72 rfl rfl rfl ?_
 show Wp _ _ _ [(0, .int .i64 p0)] _ _
 refine sr (Ar rfl (Mz rfl (Kz (.bool (decide (p0 ≥ 11))) (Mz rfl ?_))))
 by_cases h21 : p0 ≥ 11
 refine gw (.int .i64 p0) (dT h21) (Yl.move rfl) (Gz (.bool (decide (p0 ≤ 14))) (dT h21) (fw (.bool (decide (p0 ≤ 14))) (Yl.pickT rfl (dT h21) rfl) (An rfl (rt (rs ?_)))))
 have H22 : Own w D w [] := H.pk []
 obtain rfl : _ = decide (p0 ≤ 14) := hr.symm.trans (ip h21)
 exact ⟨rfl, H22⟩
 refine Sz (dF h21) (Sz (dF h21) (fw (.bool false) (Yl.pickF rfl (dF h21) rfl) (An rfl (rt (rs ?_)))))
 have H23 : Own w D w [] := H.pk []
 obtain rfl : _ = false := hr.symm.trans (iN h21)
 exact ⟨rfl, H23⟩
def r18_shard (p0 : Int) : Bool :=
 if p0 ≥ 1 then decide (p0 ≤ 4) else false
set_option maxRecDepth 100000 in
theorem r18_shard_ok (w : World) (D : Nat → Prop) (p0 : Int) (r0 : Bool) (H : Own w D w [])  (hr : r18_shard p0 = r0) :
    Calls Tryz.prog 34 #[.int .i64 p0] w (Ret fun v w' => v = .bool r0 ∧ Own w D w' []) := by
 refine Calls.body (args := [.int .i64 p0]) Tryz.func34 rfl rfl rfl ?_
 show Wp _ _ _ [(0, .int .i64 p0)] _ _
 refine sr (Ar rfl (Mz rfl (Kz (.bool (decide (p0 ≥ 1))) (Mz rfl ?_))))
 by_cases h21 : p0 ≥ 1
 refine gw (.int .i64 p0) (dT h21) (Yl.move rfl) (Gz (.bool (decide (p0 ≤ 4))) (dT h21) (fw (.bool (decide (p0 ≤ 4))) (Yl.pickT rfl (dT h21) rfl) (An rfl (rt (rs ?_)))))
 have H22 : Own w D w [] := H.pk []
 obtain rfl : _ = decide (p0 ≤ 4) := hr.symm.trans (ip h21)
 exact ⟨rfl, H22⟩
 refine Sz (dF h21) (Sz (dF h21) (fw (.bool false) (Yl.pickF rfl (dF h21) rfl) (An rfl (rt (rs ?_)))))
 have H23 : Own w D w [] := H.pk []
 obtain rfl : _ = false := hr.symm.trans (iN h21)
 exact ⟨rfl, H23⟩
def r18_nodes (p0 : MsgT) : Bool :=
 if p0.xKind = 1 then bnd (r18_client p0.xFrom) fun yr30 => if yr30 = true then decide (p0.xTo = 0) else false else if p0.xKind = 2 then if p0.xFrom = 0 then bnd (r18_client p0.xTo) fun yr45 => yr45 else false else bnd (if p0.xKind = 3 then decide (p0.xKind = 3) else if p0.xKind = 5 then decide (p0.xKind = 5) else if p0.xKind = 8 then decide (p0.xKind = 8) else decide (p0.xKind = 10)) fun sJrffJ => if sJrffJ = true then if p0.xFrom = 0 then bnd (r18_shard p0.xTo) fun yr74 => yr74 else false else bnd (if p0.xKind = 11 then decide (p0.xKind = 11) else decide (p0.xKind = 12)) fun sJrffJafJ => if sJrffJafJ = true then bnd (r18_shard p0.xFrom) fun yr98 => if yr98 = true then bnd (r18_shard p0.xTo) fun yr109 => if yr109 = true then decide (¬ (p0.xFrom = p0.xTo)) else false else false else bnd (r18_shard p0.xFrom) fun yr123 => if yr123 = true then decide (p0.xTo = 0) else false
set_option maxRecDepth 100000 in
theorem r18_nodes_ok (w : World) (D : Nat → Prop) (p0 : MsgT) (A0x0 : Option Addr) (n0x0 c0x0 : Nat) (A0x1 : Option Addr) (n0x1 c0x1 : Nat) (d0x1 : List ResultD) (A0x2 : Option Addr) (n0x2 c0x2 : Nat) (r0 : Bool) (H : Own w D w []) (hn0x0 : n0x0 = p0.xOps.ls.length) (hx0x0 : Ro w D fun w' => Rds w' 6 A0x0 p0.xOps.ls.length (List.flatMap OpD.cells p0.xOps.ls)) (hb0x0 : p0.xOps.ls.length ≤ c0x0 ∧ p0.xOps.ls.length ≤ 9223372036854775807) (hd0x1 : List.map ResultD.abs d0x1 = p0.xResults.ls) (hn0x1 : n0x1 = p0.xResults.ls.length) (hx0x1 : Ro w D fun w' => Rds w' 3 A0x1 p0.xResults.ls.length (List.flatMap ResultD.cells d0x1)) (hb0x1 : p0.xResults.ls.length ≤ c0x1 ∧ p0.xResults.ls.length ≤ 9223372036854775807) (hm0x1 : ∀ x ∈ d0x1, Ro w D (fun w' => Rds w' 2 x.xPairs.A x.xPairs.ls.length (List.flatMap PairD.cells x.xPairs.ls)) ∧ (x.xPairs.ls.length ≤ x.xPairs.c ∧ x.xPairs.ls.length ≤ 9223372036854775807)) (hn0x2 : n0x2 = p0.xOwners.ls.length) (hx0x2 : Ro w D fun w' => Rds w' 2 A0x2 p0.xOwners.ls.length (List.flatMap OwnerD.cells p0.xOwners.ls)) (hb0x2 : p0.xOwners.ls.length ≤ c0x2 ∧ p0.xOwners.ls.length ≤ 9223372036854775807) (hr : r18_nodes p0 = r0) :
    Calls Tryz.prog 28 #[.agg (MsgC p0.xKind p0.xFrom p0.xTo p0.xClient p0.xCode p0.xPeer p0.xReq p0.xBoot p0.xTxn p0.xLow p0.xVer p0.xEpoch p0.xMove p0.xAttempt p0.xN p0.xFlag p0.xRange.xLo p0.xRange.xHi A0x0 n0x0 c0x0 A0x1 n0x1 c0x1 A0x2 n0x2 c0x2).toArray] w (Ret fun v w' => v = .bool r0 ∧ Own w D w' []) := by
 subst hn0x0 hn0x1 hn0x2
 have hdl0x1 := abs_len hd0x1
 refine Calls.body (args := [.agg (MsgP p0 A0x0 c0x0 A0x1 c0x1 A0x2 c0x2).toArray]) Tryz.func28 rfl rfl rfl ?_
 show Wp _ _ _ [(0, .agg (MsgP p0 A0x0 c0x0 A0x1 c0x1 A0x2 c0x2).toArray)] _ _
 refine sr ?_
 refine npw (MsgP p0 A0x0 c0x0 A0x1 c0x1 A0x2 c0x2) 29 H ?_
 intro g21 w22 H23
 refine An rfl (Wp.seq (sr (Kz (.pointer (some ⟨g21, 0, none⟩)) (Lz (.int .i64 p0.xKind) H23 0 Tryz.isAgg3 (nt (bo (sr (Kz (.bool (decide (p0.xKind = 1))) (An rfl ?_)))))))))
 by_cases h24 : p0.xKind = 1
 refine jT (dT h24) (sr (Kz (.pointer (some ⟨g21, 1, none⟩)) (Lz (.int .i64 p0.xFrom) H23 0 Tryz.isAgg3 ?_)))
 obtain ⟨r30, hr31⟩ : ∃ q, r18_client p0.xFrom = q := ⟨_, rfl⟩
 obtain ⟨D25, HP26, ro27, bk28, rr29⟩ := Own.enter0 H23
 refine cl Tryz.call72 (r18_client_ok _ _ p0.xFrom r30 HP26 hr31) ?_
 rintro _ w32 ⟨rfl, HQ33⟩
 have H34 := bk28 _ _ HQ33
 refine Mz rfl ?_
 rcases Bool.eq_false_or_eq_true (r30) with h35 | h35
 refine Gz (.pointer (some ⟨g21, 2, none⟩)) h35 (Gl (.int .i64 p0.xTo) h35 H34 0 Tryz.isAgg3 (Gz (.bool (decide (p0.xTo = 0))) h35 (fw (.bool (decide (p0.xTo = 0))) (Yl.pickT rfl h35 rfl) (An rfl (rt (bR (tR (rs ?_))))))))
 have H36 := H34.pk []
 obtain rfl : _ = decide (p0.xTo = 0) := hr.symm.trans (et (ip h24) (et (bnd_of hr31) (ip h35)))
 exact ⟨rfl, H36⟩
 refine Sz h35 (Sz h35 (Sz h35 (fw (.bool false) (Yl.pickF rfl h35 rfl) (An rfl (rt (bR (tR (rs ?_))))))))
 have H37 := H34.pk []
 obtain rfl : _ = false := hr.symm.trans (et (ip h24) (et (bnd_of hr31) (ifF h35)))
 exact ⟨rfl, H37⟩
 refine jF (dF h24) (sr (Kz (.bool (decide (p0.xKind = 2))) (An rfl ?_)))
 by_cases h38 : p0.xKind = 2
 refine jT (dT h38) (sr (Kz (.pointer (some ⟨g21, 1, none⟩)) (Lz (.int .i64 p0.xFrom) H23 0 Tryz.isAgg3 (Kz (.bool (decide (p0.xFrom = 0))) (Mz rfl ?_)))))
 by_cases h39 : p0.xFrom = 0
 refine Gz (.pointer (some ⟨g21, 2, none⟩)) (dT h39) (Gl (.int .i64 p0.xTo) (dT h39) H23 0 Tryz.isAgg3 ?_)
 obtain ⟨r45, hr46⟩ : ∃ q, r18_client p0.xTo = q := ⟨_, rfl⟩
 obtain ⟨D40, HP41, ro42, bk43, rr44⟩ := Own.enter0 H23
 refine clG (dT h39) Tryz.call72 (r18_client_ok _ _ p0.xTo r45 HP41 hr46) ?_
 rintro _ w47 ⟨rfl, HQ48⟩
 have H49 := bk43 _ _ HQ48
 refine fw (.bool r45) (Yl.pickT rfl (dT h39) rfl) (An rfl (rt (bR (tR (rs ?_)))))
 have H50 := H49.pk []
 obtain rfl : _ = r45 := hr.symm.trans (et (iN h24) (et (ip h38) (et (ip h39) (bnd_of hr46))))
 exact ⟨rfl, H50⟩
 refine Sz (dF h39) (Sz (dF h39) (Sz (dF h39) (fw (.bool false) (Yl.pickF rfl (dF h39) rfl) (An rfl (rt (bR (tR (rs ?_))))))))
 have H51 := H23.pk []
 obtain rfl : _ = false := hr.symm.trans (et (iN h24) (et (ip h38) (iN h39)))
 exact ⟨rfl, H51⟩
 refine jF (dF h38) (Wp.seq (sr (Kz (.bool (decide (p0.xKind = 3))) (An rfl ?_))))
 obtain ⟨I53, hI54⟩ : ∃ q : Bool → World → Prop, q = fun (i : Bool) w' => Own w D w' [blk g21 (MsgP p0 A0x0 c0x0 A0x1 c0x1 A0x2 c0x2) 29] ∧ ((if p0.xKind = 3 then decide (p0.xKind = 3) else if p0.xKind = 5 then decide (p0.xKind = 5) else if p0.xKind = 8 then decide (p0.xKind = 8) else decide (p0.xKind = 10)) = i) := ⟨_, rfl⟩
 have dm55 : ∀ {b52 : Bool} {w' : World}, I53 b52 w' ↔ Own w D w' [blk g21 (MsgP p0 A0x0 c0x0 A0x1 c0x1 A0x2 c0x2) 29] ∧ (if p0.xKind = 3 then decide (p0.xKind = 3) else if p0.xKind = 5 then decide (p0.xKind = 5) else if p0.xKind = 8 then decide (p0.xKind = 8) else decide (p0.xKind = 10)) = b52 := by intros; subst hI54; exact Iff.rfl
 refine Wp.joinT (fun i : Bool => [(25, .bool i), (4, .int .i64 p0.xKind), (2, .bool false), (1, .pointer (some ⟨g21, 0, none⟩))]) I53 ?_ ?_
 by_cases h56 : p0.xKind = 3
 refine jT (dT h56) (Wp.skip ?_)
 have H57 := H23.pk [0]
 exact Fin.join (decide (p0.xKind = 3)) ⟨rfl, rfl, rfl, rfl, trivial⟩ (dm55.2 ⟨H57, ip h56⟩)
 refine jF (dF h56) (sr (Kz (.bool (decide (p0.xKind = 5))) (An rfl ?_)))
 by_cases h58 : p0.xKind = 5
 refine jT (dT h58) (Wp.skip ?_)
 have H59 := H23.pk [0]
 exact Fin.join (decide (p0.xKind = 5)) ⟨rfl, rfl, rfl, rfl, trivial⟩ (dm55.2 ⟨H59, et (iN h56) (ip h58)⟩)
 refine jF (dF h58) (sr (Kz (.bool (decide (p0.xKind = 8))) (An rfl ?_)))
 by_cases h60 : p0.xKind = 8
 refine jT (dT h60) (Wp.skip ?_)
 have H61 := H23.pk [0]
 exact Fin.join (decide (p0.xKind = 8)) ⟨rfl, rfl, rfl, rfl, trivial⟩ (dm55.2 ⟨H61, et (iN h56) (et (iN h58) (ip h60))⟩)
 refine jF (dF h60) (Wp.region (Kz (.bool (decide (p0.xKind = 10))) (Az rfl (WL.nil ?_))))
 have H62 := H23.pk [0]
 exact Fin.join (decide (p0.xKind = 10)) ⟨rfl, rfl, rfl, rfl, trivial⟩ (dm55.2 ⟨H62, et (iN h56) (et (iN h58) (iN h60))⟩)
 rintro b52 w63 hf65
 show Wp _ _ _ [(25, .bool b52), (4, .int .i64 p0.xKind), (2, .bool false), (1, .pointer (some ⟨g21, 0, none⟩))] _ _
 obtain ⟨H64, hj66⟩ := dm55.1 hf65
 rcases Bool.eq_false_or_eq_true (b52) with h67 | h67
 refine jT h67 (sr (Kz (.pointer (some ⟨g21, 1, none⟩)) (Lz (.int .i64 p0.xFrom) H64 0 Tryz.isAgg3 (Kz (.bool (decide (p0.xFrom = 0))) (Mz rfl ?_)))))
 by_cases h68 : p0.xFrom = 0
 refine Gz (.pointer (some ⟨g21, 2, none⟩)) (dT h68) (Gl (.int .i64 p0.xTo) (dT h68) H64 0 Tryz.isAgg3 ?_)
 obtain ⟨r74, hr75⟩ : ∃ q, r18_shard p0.xTo = q := ⟨_, rfl⟩
 obtain ⟨D69, HP70, ro71, bk72, rr73⟩ := Own.enter0 H64
 refine clG (dT h68) Tryz.call34 (r18_shard_ok _ _ p0.xTo r74 HP70 hr75) ?_
 rintro _ w76 ⟨rfl, HQ77⟩
 have H78 := bk72 _ _ HQ77
 refine fw (.bool r74) (Yl.pickT rfl (dT h68) rfl) (An rfl (rt (bR (tR (rs ?_)))))
 have H79 := H78.pk []
 obtain rfl : _ = r74 := hr.symm.trans (et (iN h24) (et (iN h38) (et (bnd_of hj66) (et (ip h67) (et (ip h68) (bnd_of hr75))))))
 exact ⟨rfl, H79⟩
 refine Sz (dF h68) (Sz (dF h68) (Sz (dF h68) (fw (.bool false) (Yl.pickF rfl (dF h68) rfl) (An rfl (rt (bR (tR (rs ?_))))))))
 have H80 := H64.pk []
 obtain rfl : _ = false := hr.symm.trans (et (iN h24) (et (iN h38) (et (bnd_of hj66) (et (ip h67) (iN h68)))))
 exact ⟨rfl, H80⟩
 refine jF h67 (Wp.seq (sr (Kz (.bool (decide (p0.xKind = 11))) (An rfl ?_))))
 obtain ⟨I82, hI83⟩ : ∃ q : Bool → World → Prop, q = fun (i : Bool) w' => Own w D w' [blk g21 (MsgP p0 A0x0 c0x0 A0x1 c0x1 A0x2 c0x2) 29] ∧ ((if p0.xKind = 11 then decide (p0.xKind = 11) else decide (p0.xKind = 12)) = i) := ⟨_, rfl⟩
 have dm84 : ∀ {b81 : Bool} {w' : World}, I82 b81 w' ↔ Own w D w' [blk g21 (MsgP p0 A0x0 c0x0 A0x1 c0x1 A0x2 c0x2) 29] ∧ (if p0.xKind = 11 then decide (p0.xKind = 11) else decide (p0.xKind = 12)) = b81 := by intros; subst hI83; exact Iff.rfl
 refine Wp.joinT (fun i : Bool => [(38, .bool i), (2, .bool false), (1, .pointer (some ⟨g21, 0, none⟩))]) I82 ?_ ?_
 by_cases h85 : p0.xKind = 11
 refine jT (dT h85) (Wp.skip ?_)
 have H86 := H64.pk [0]
 exact Fin.join (decide (p0.xKind = 11)) ⟨rfl, rfl, rfl, trivial⟩ (dm84.2 ⟨H86, ip h85⟩)
 refine jF (dF h85) (Wp.region (Kz (.bool (decide (p0.xKind = 12))) (Az rfl (WL.nil ?_))))
 have H87 := H64.pk [0]
 exact Fin.join (decide (p0.xKind = 12)) ⟨rfl, rfl, rfl, trivial⟩ (dm84.2 ⟨H87, iN h85⟩)
 rintro b81 w88 hf90
 show Wp _ _ _ [(38, .bool b81), (2, .bool false), (1, .pointer (some ⟨g21, 0, none⟩))] _ _
 obtain ⟨H89, hj91⟩ := dm84.1 hf90
 rcases Bool.eq_false_or_eq_true (b81) with h92 | h92
 refine jT h92 (sr (Kz (.pointer (some ⟨g21, 1, none⟩)) (Lz (.int .i64 p0.xFrom) H89 0 Tryz.isAgg3 ?_)))
 obtain ⟨r98, hr99⟩ : ∃ q, r18_shard p0.xFrom = q := ⟨_, rfl⟩
 obtain ⟨D93, HP94, ro95, bk96, rr97⟩ := Own.enter0 H89
 refine cl Tryz.call34 (r18_shard_ok _ _ p0.xFrom r98 HP94 hr99) ?_
 rintro _ w100 ⟨rfl, HQ101⟩
 have H102 := bk96 _ _ HQ101
 refine Mz rfl ?_
 rcases Bool.eq_false_or_eq_true (r98) with h103 | h103
 refine Gz (.pointer (some ⟨g21, 2, none⟩)) h103 (Gl (.int .i64 p0.xTo) h103 H102 0 Tryz.isAgg3 ?_)
 obtain ⟨r109, hr110⟩ : ∃ q, r18_shard p0.xTo = q := ⟨_, rfl⟩
 obtain ⟨D104, HP105, ro106, bk107, rr108⟩ := Own.enter0 H102
 refine WL.doG rfl rfl h103 rfl (Do.call Tryz.call34 rfl (r18_shard_ok _ _ p0.xTo r109 HP105 hr110) ?_)
 rintro _ w111 ⟨rfl, HQ112⟩
 have H113 := bk107 _ _ HQ112
 refine fw (.bool r109) (Yl.pickT rfl h103 rfl) (Mz rfl ?_)
 rcases Bool.eq_false_or_eq_true (r109) with h114 | h114
 refine Gz (.pointer (some ⟨g21, 1, none⟩)) h114 (Gl (.int .i64 p0.xFrom) h114 H113 0 Tryz.isAgg3 (Gz (.pointer (some ⟨g21, 2, none⟩)) h114 (Gl (.int .i64 p0.xTo) h114 H113 0 Tryz.isAgg3 (WL.valG (v := .bool (decide (¬ (p0.xFrom = p0.xTo)))) rfl rfl h114 rfl (Yl.bool (e := !(decide (p0.xFrom = p0.xTo))) yk decide_not.symm) (fw (.bool (decide (¬ (p0.xFrom = p0.xTo)))) (Yl.pickT rfl h114 rfl) (An rfl (rt (bR (tR (rs ?_))))))))))
 have H115 := H113.pk []
 obtain rfl : _ = decide (¬ (p0.xFrom = p0.xTo)) := hr.symm.trans (et (iN h24) (et (iN h38) (et (bnd_of hj66) (et (ifF h67) (et (bnd_of hj91) (et (ip h92) (et (bnd_of hr99) (et (ip h103) (et (bnd_of hr110) (ip h114))))))))))
 exact ⟨rfl, H115⟩
 refine Sz h114 (Sz h114 (Sz h114 (Sz h114 (Sz h114 (fw (.bool false) (Yl.pickF rfl h114 rfl) (An rfl (rt (bR (tR (rs ?_))))))))))
 have H116 := H113.pk []
 obtain rfl : _ = false := hr.symm.trans (et (iN h24) (et (iN h38) (et (bnd_of hj66) (et (ifF h67) (et (bnd_of hj91) (et (ip h92) (et (bnd_of hr99) (et (ip h103) (et (bnd_of hr110) (ifF h114))))))))))
 exact ⟨rfl, H116⟩
 refine Sz h103 (Sz h103 (Sz h103 (fw (.bool false) (Yl.pickF rfl h103 rfl) (Mz rfl (Sz rfl (Sz rfl (Sz rfl (Sz rfl (Sz rfl (fw (.bool false) (Yl.pickF rfl rfl rfl) (An rfl (rt (bR (tR (rs ?_)))))))))))))))
 have H117 := H102.pk []
 obtain rfl : _ = false := hr.symm.trans (et (iN h24) (et (iN h38) (et (bnd_of hj66) (et (ifF h67) (et (bnd_of hj91) (et (ip h92) (et (bnd_of hr99) (ifF h103))))))))
 exact ⟨rfl, H117⟩
 refine jF h92 (Wp.skip (bN (Fin.then (sr (Kz (.pointer (some ⟨g21, 1, none⟩)) (Lz (.int .i64 p0.xFrom) H89 0 Tryz.isAgg3 ?_))))))
 obtain ⟨r123, hr124⟩ : ∃ q, r18_shard p0.xFrom = q := ⟨_, rfl⟩
 obtain ⟨D118, HP119, ro120, bk121, rr122⟩ := Own.enter0 H89
 refine cl Tryz.call34 (r18_shard_ok _ _ p0.xFrom r123 HP119 hr124) ?_
 rintro _ w125 ⟨rfl, HQ126⟩
 have H127 := bk121 _ _ HQ126
 refine Mz rfl ?_
 rcases Bool.eq_false_or_eq_true (r123) with h128 | h128
 refine Gz (.pointer (some ⟨g21, 2, none⟩)) h128 (Gl (.int .i64 p0.xTo) h128 H127 0 Tryz.isAgg3 (Gz (.bool (decide (p0.xTo = 0))) h128 (fw (.bool (decide (p0.xTo = 0))) (Yl.pickT rfl h128 rfl) (An rfl (rt (rs ?_))))))
 have H129 := H127.pk []
 obtain rfl : _ = decide (p0.xTo = 0) := hr.symm.trans (et (iN h24) (et (iN h38) (et (bnd_of hj66) (et (ifF h67) (et (bnd_of hj91) (et (ifF h92) (et (bnd_of hr124) (ip h128))))))))
 exact ⟨rfl, H129⟩
 refine Sz h128 (Sz h128 (Sz h128 (fw (.bool false) (Yl.pickF rfl h128 rfl) (An rfl (rt (rs ?_))))))
 have H130 := H127.pk []
 obtain rfl : _ = false := hr.symm.trans (et (iN h24) (et (iN h38) (et (bnd_of hj66) (et (ifF h67) (et (bnd_of hj91) (et (ifF h92) (et (bnd_of hr124) (ifF h128))))))))
 exact ⟨rfl, H130⟩
def r18_has_L0 (p1 : UInt8) : List UInt8 → Unit ⊕ Bool
  | [] => Sum.inl ()
  | x44 :: q33 => if ((x44.toNat : Nat) : Int) = ((p1.toNat : Nat) : Int) then Sum.inr (true) else r18_has_L0 p1 q33
def r18_has (p0 : Int) (p1 : UInt8) : Bool :=
 bnd (r18_fields p0) fun yr26 => lp (r18_has_L0 p1 yr26) fun _ => false
set_option maxRecDepth 100000 in
theorem r18_has_ok (w : World) (D : Nat → Prop) (p0 : Int) (p1 : UInt8) (r0 : Bool) (H : Own w D w [])  (hr : r18_has p0 p1 = r0) :
    Calls Tryz.prog 73 #[.int .i64 p0, .int .u8 ((p1.toNat : Nat) : Int)] w (Ret fun v w' => v = .bool r0 ∧ Own w D w' []) := by
 refine Calls.body (args := [.int .i64 p0, .int .u8 ((p1.toNat : Nat) : Int)]) Tryz.func73 rfl rfl rfl ?_
 show Wp _ _ _ [(0, .int .i64 p0), (1, .int .u8 ((p1.toNat : Nat) : Int))] _ _
 refine sr (Ar rfl (Mz rfl ?_))
 obtain ⟨r26, hr27⟩ : ∃ q, r18_fields p0 = q := ⟨_, rfl⟩
 obtain ⟨D21, HP22, ro23, bk24, rr25⟩ := Own.enter0 H
 refine cl Tryz.call27 (r18_fields_ok _ _ p0 r26 HP22 hr27) ?_
 rintro _ w28 ⟨rfl, HQ29, hk31⟩
 have H30 := bk24 _ _ HQ29
 replace hk31 : r26.length ≤ 5 := hk31
 refine An rfl (Wp.seq (sr (An rfl (bo ?_))))
 have H34 := H30.pk []
 obtain ⟨I38, hI39⟩ : ∃ q : Nat → World → Prop, q = fun (i : Nat) w' => Own w D w' [] ∧ (i ≤ r26.length ∧ r18_has_L0 p1 r26 = r18_has_L0 p1 (List.drop i r26)) := ⟨_, rfl⟩
 have dm40 : ∀ {k32 : Nat} {w' : World}, I38 k32 w' ↔ Own w D w' [] ∧ k32 ≤ r26.length ∧ r18_has_L0 p1 r26 = r18_has_L0 p1 (List.drop k32 r26) := by intros; subst hI39; exact Iff.rfl
 refine Wp.loop (fun i : Nat => [(4, .bool false), (6, .int .i64 ((i : Nat) : Int)), (5, .string ⟨List.toArray r26⟩), (1, .int .u8 ((p1.toNat : Nat) : Int))]) I38 (fun i => r26.length - i) 0 ⟨rfl, rfl, rfl, rfl, trivial⟩ (dm40.2 ⟨H34, by omega, rfl⟩) ?_
 rintro k32 w35 hf37
 show Wp _ _ _ [(4, .bool false), (6, .int .i64 ((k32 : Nat) : Int)), (5, .string ⟨List.toArray r26⟩), (1, .int .u8 ((p1.toNat : Nat) : Int))] _ _
 obtain ⟨H36, hi42, hq41⟩ := dm40.1 hf37
 refine Wp.seq (sr (Mz rfl (Mz rfl (Kz (.int .i64 ((r26.length : Nat) : Int)) (Kz (.bool (decide (((k32 : Nat) : Int) < ((r26.length : Nat) : Int)))) (nt ?_))))))
 by_cases h43 : ((k32 : Nat) : Int) < ((r26.length : Nat) : Int)
 obtain ⟨x44, hx45⟩ := at_of (ls := r26) (i := k32) (by omega)
 have hd46 := drop_at hx45
 refine jT (dT h43) (sk (Wp.seq (bo (sr (Mz rfl (Mz rfl (fw (.int .u8 ((x44.toNat : Nat) : Int)) (Yl.strIndex Tryz.underlying9 rfl rfl hx45) (Mz rfl (Kz (.bool (decide (((x44.toNat : Nat) : Int) = ((p1.toNat : Nat) : Int)))) (nt ?_))))))))))
 by_cases h47 : ((x44.toNat : Nat) : Int) = ((p1.toNat : Nat) : Int)
 refine jT (dT h47) (sr (An rfl (rt (bR (tR (tR (bR (tR (rs ?_)))))))))
 have H48 := H36.pk []
 obtain rfl : _ = true := hr.symm.trans (et (bnd_of hr27) (lp_r (et (hq41) (et (congrArg (fun q => r18_has_L0 p1 q) hd46) (ip h47)))))
 exact ⟨rfl, H48⟩
 refine jF (dF h47) (Wp.skip (bN (Fin.then (Wp.region (Mz rfl (fw (.int .i64 ((k32 + 1 : Nat) : Int)) (Yl.int (e := IntKind.i64.wrap (((k32 : Nat) : Int) + 1)) yk (by rw [IntWalk.i64_in _ (by omega)]; omega)) (Az rfl (WL.nil ?_))))))))
 have H49 := H36.pk []
 exact Fin.round (k32 + 1) ⟨rfl, rfl, rfl, rfl, trivial⟩ (dm40.2 ⟨H49, by omega, et (hq41) (et (congrArg (fun q => r18_has_L0 p1 q) hd46) (iN h47))⟩) (by show r26.length - (k32 + 1) < r26.length - k32; omega)
 refine jF (dF h43) (Wp.exit (Fin.thenX ?_))
 have hL50 : r18_has_L0 p1 r26 = Sum.inl () := et (hq41) (et (congrArg (fun q => r18_has_L0 p1 q) (drop_end (ls := r26) (i := k32) (by omega))) rfl)
 refine Fin.thenX (Fin.blockX (Fin.then (sr (An rfl (rt (rs ?_))))))
 have H51 := H36.pk []
 obtain rfl : _ = false := hr.symm.trans (et (bnd_of hr27) (lp_l hL50))
 exact ⟨rfl, H51⟩
def r18_zero (p0 : MsgT) : Bool :=
 bnd (r18_has p0.xKind (113 : UInt8)) fun yr35 => bnd (if yr35 = true then false else decide (¬ (((p0.xReq : Nat) : Int) = 0))) fun sJrbR => if sJrbR = true then false else bnd (r18_has p0.xKind (98 : UInt8)) fun yr56 => bnd (if yr56 = true then false else decide (¬ (((p0.xBoot : Nat) : Int) = 0))) fun sJrbRafbR => if sJrbRafbR = true then false else bnd (r18_has p0.xKind (116 : UInt8)) fun yr77 => bnd (if yr77 = true then false else decide (¬ (((p0.xTxn : Nat) : Int) = 0))) fun sJrbRafbRafbR => if sJrbRafbRafbR = true then false else bnd (r18_has p0.xKind (108 : UInt8)) fun yr98 => bnd (if yr98 = true then false else decide (¬ (((p0.xLow : Nat) : Int) = 0))) fun sJrbRafbRafbRafbR => if sJrbRafbRafbRafbR = true then false else bnd (r18_has p0.xKind (118 : UInt8)) fun yr119 => bnd (if yr119 = true then false else decide (¬ (((p0.xVer : Nat) : Int) = 0))) fun sJrbRafbRafbRafbRafbR => if sJrbRafbRafbRafbRafbR = true then false else bnd (r18_has p0.xKind (101 : UInt8)) fun yr140 => bnd (if yr140 = true then false else decide (¬ (((p0.xEpoch : Nat) : Int) = 0))) fun sJrbRafbRafbRafbRafbRafbR => if sJrbRafbRafbRafbRafbRafbR = true then false else bnd (r18_has p0.xKind (109 : UInt8)) fun yr161 => bnd (if yr161 = true then false else decide (¬ (((p0.xMove : Nat) : Int) = 0))) fun sJrbRafbRafbRafbRafbRafbRafbR => if sJrbRafbRafbRafbRafbRafbRafbR = true then false else bnd (r18_has p0.xKind (97 : UInt8)) fun yr182 => bnd (if yr182 = true then false else decide (¬ (((p0.xAttempt : Nat) : Int) = 0))) fun sJrbRafbRafbRafbRafbRafbRafbRafbR => if sJrbRafbRafbRafbRafbRafbRafbRafbR = true then false else bnd (r18_has p0.xKind (110 : UInt8)) fun yr203 => bnd (if yr203 = true then false else decide (¬ (((p0.xN : Nat) : Int) = 0))) fun sJrbRafbRafbRafbRafbRafbRafbRafbRafbR => if sJrbRafbRafbRafbRafbRafbRafbRafbRafbR = true then false else bnd (if p0.xClient = 0 then bnd (r18_has p0.xKind (99 : UInt8)) fun yr227 => if yr227 = true then true else decide (p0.xCode = 0) else false) fun sJrbRafbRafbRafbRafbRafbRafbRafbRafbRafR => bnd (if sJrbRafbRafbRafbRafbRafbRafbRafbRafbRafR = true then bnd (r18_has p0.xKind (112 : UInt8)) fun yr247 => if yr247 = true then true else decide (p0.xPeer = 0) else false) fun sJrbRafbRafbRafbRafbRafbRafbRafbRafbRafRaR => bnd (if sJrbRafbRafbRafbRafbRafbRafbRafbRafbRafRaR = true then bnd (r18_has p0.xKind (102 : UInt8)) fun yr267 => if yr267 = true then true else !p0.xFlag else false) fun sJrbRafbRafbRafbRafbRafbRafbRafbRafbRafRaRaR => bnd (if sJrbRafbRafbRafbRafbRafbRafbRafbRafbRafRaRaR = true then bnd (r18_has p0.xKind (114 : UInt8)) fun yr287 => if yr287 = true then true else decide ((p0.xRange.xLo = ([])) ∧ (p0.xRange.xHi = ([]))) else false) fun sJrbRafbRafbRafbRafbRafbRafbRafbRafbRafRaRaRaR => bnd (if sJrbRafbRafbRafbRafbRafbRafbRafbRafbRafRaRaRaR = true then bnd (r18_has p0.xKind (111 : UInt8)) fun yr307 => if yr307 = true then true else decide (((p0.xOps.ls.length : Nat) : Int) = 0) else false) fun sJrbRafbRafbRafbRafbRafbRafbRafbRafbRafRaRaRaRaR => bnd (if sJrbRafbRafbRafbRafbRafbRafbRafbRafbRafRaRaRaRaR = true then bnd (r18_has p0.xKind (115 : UInt8)) fun yr327 => if yr327 = true then true else decide (((p0.xResults.ls.length : Nat) : Int) = 0) else false) fun sJrbRafbRafbRafbRafbRafbRafbRafbRafbRafRaRaRaRaRaR => bnd (if sJrbRafbRafbRafbRafbRafbRafbRafbRafbRafRaRaRaRaRaR = true then bnd (r18_has p0.xKind (119 : UInt8)) fun yr347 => if yr347 = true then true else decide (((p0.xOwners.ls.length : Nat) : Int) = 0) else false) fun sJrbRafbRafbRafbRafbRafbRafbRafbRafbRafRaRaRaRaRaRaR => sJrbRafbRafbRafbRafbRafbRafbRafbRafbRafRaRaRaRaRaRaR
set_option maxRecDepth 100000 in
set_option maxHeartbeats 2000000 in
theorem r18_zero_ok (w : World) (D : Nat → Prop) (p0 : MsgT) (A0x0 : Option Addr) (n0x0 c0x0 : Nat) (A0x1 : Option Addr) (n0x1 c0x1 : Nat) (d0x1 : List ResultD) (A0x2 : Option Addr) (n0x2 c0x2 : Nat) (r0 : Bool) (H : Own w D w []) (hn0x0 : n0x0 = p0.xOps.ls.length) (hx0x0 : Ro w D fun w' => Rds w' 6 A0x0 p0.xOps.ls.length (List.flatMap OpD.cells p0.xOps.ls)) (hb0x0 : p0.xOps.ls.length ≤ c0x0 ∧ p0.xOps.ls.length ≤ 9223372036854775807) (hd0x1 : List.map ResultD.abs d0x1 = p0.xResults.ls) (hn0x1 : n0x1 = p0.xResults.ls.length) (hx0x1 : Ro w D fun w' => Rds w' 3 A0x1 p0.xResults.ls.length (List.flatMap ResultD.cells d0x1)) (hb0x1 : p0.xResults.ls.length ≤ c0x1 ∧ p0.xResults.ls.length ≤ 9223372036854775807) (hm0x1 : ∀ x ∈ d0x1, Ro w D (fun w' => Rds w' 2 x.xPairs.A x.xPairs.ls.length (List.flatMap PairD.cells x.xPairs.ls)) ∧ (x.xPairs.ls.length ≤ x.xPairs.c ∧ x.xPairs.ls.length ≤ 9223372036854775807)) (hn0x2 : n0x2 = p0.xOwners.ls.length) (hx0x2 : Ro w D fun w' => Rds w' 2 A0x2 p0.xOwners.ls.length (List.flatMap OwnerD.cells p0.xOwners.ls)) (hb0x2 : p0.xOwners.ls.length ≤ c0x2 ∧ p0.xOwners.ls.length ≤ 9223372036854775807) (hr : r18_zero p0 = r0) :
    Calls Tryz.prog 29 #[.agg (MsgC p0.xKind p0.xFrom p0.xTo p0.xClient p0.xCode p0.xPeer p0.xReq p0.xBoot p0.xTxn p0.xLow p0.xVer p0.xEpoch p0.xMove p0.xAttempt p0.xN p0.xFlag p0.xRange.xLo p0.xRange.xHi A0x0 n0x0 c0x0 A0x1 n0x1 c0x1 A0x2 n0x2 c0x2).toArray] w (Ret fun v w' => v = .bool r0 ∧ Own w D w' []) := by
 subst hn0x0 hn0x1 hn0x2
 have hdl0x1 := abs_len hd0x1
 refine Calls.body (args := [.agg (MsgP p0 A0x0 c0x0 A0x1 c0x1 A0x2 c0x2).toArray]) Tryz.func29 rfl rfl rfl ?_
 show Wp _ _ _ [(0, .agg (MsgP p0 A0x0 c0x0 A0x1 c0x1 A0x2 c0x2).toArray)] _ _
 refine sr ?_
 refine npw (MsgP p0 A0x0 c0x0 A0x1 c0x1 A0x2 c0x2) 29 H ?_
 intro g21 w22 H23
 refine An rfl (Wp.seq (sr ?_))
 refine nrw [.int .u8 113, .int .u8 98, .int .u8 116, .int .u8 108, .int .u8 118, .int .u8 101, .int .u8 109, .int .u8 97, .int .u8 110] 5 1 9 H23 ?_
 intro A24 w25 H26
 replace H26 := Own.reh (y := row A24 9 9 (List.flatMap eB ([113, 98, 116, 108, 118, 101, 109, 97, 110])) 5 1) rfl H26
 refine WL.do rfl (Do.mark Tryz.underlying31 Tryz.underlying5 H26 (by omega) rfl ?_)
 intro w27 H28
 refine Kz (.int .i64 9) (Mn rfl (bo (Wp.unroll 200 (sr (Kz (.bool true) (nt (Wp.seq (jt (sk (Wp.seq (bo (sr ?_))))))))))))
 have hx29 : ([113, 98, 116, 108, 118, 101, 109, 97, 110] : List UInt8)[0]? = some 113 := rfl
 refine fw (.pointer (some ⟨ab A24, ao A24 + 0 * 1, none⟩)) (Yl.indexAddr (El31) rfl rfl ((H28.rds (i := 0) rfl).addr (i := 0) (by omega)) (by omega)) (fw (.int .u8 113) (Yl.load rfl (Lds.one Tryz.isAgg5 (((H28.rds (i := 0) rfl).elem eB_len hx29 (by decide)).at_ (k := 0) rfl))) (Ar rfl (Kz (.pointer (some ⟨g21, 0, none⟩)) (Lz (.int .i64 p0.xKind) H28 1 Tryz.isAgg3 (Mz rfl ?_)))))
 obtain ⟨r35, hr36⟩ : ∃ q, r18_has p0.xKind (113 : UInt8) = q := ⟨_, rfl⟩
 obtain ⟨D30, HP31, ro32, bk33, rr34⟩ := Own.enter0 H28
 refine cl Tryz.call73 (r18_has_ok _ _ p0.xKind (113 : UInt8) r35 HP31 hr36) ?_
 rintro _ w37 ⟨rfl, HQ38⟩
 have H39 := bk33 _ _ HQ38
 refine Kz (.bool (!r35)) (Mz rfl ?_)
 refine WL.cutJ (ι := Bool) 6 (fun i => [(23, .bool i), (17, .bool (!r35)), (16, .bool (!r35)), (15, .bool r35), (14, .int .u8 113), (13, .int .i64 p0.xKind), (12, .pointer (some ⟨g21, 0, none⟩)), (4, .int .u8 113), (11, .int .u8 113), (10, .pointer (some ⟨ab A24, ao A24 + 0 * 1, none⟩)), (9, .bool true), (8, .int .i64 0), (7, .int .i64 9), (6, .slice A24 9 9), (5, .slice A24 9 9), (2, .bool false), (1, .pointer (some ⟨g21, 0, none⟩)), (0, .agg (MsgP p0 A0x0 c0x0 A0x1 c0x1 A0x2 c0x2).toArray)]) (fun i w' => Own w D w' [row A24 9 9 (List.flatMap eB ([113, 98, 116, 108, 118, 101, 109, 97, 110])) 5 1, blk g21 (MsgP p0 A0x0 c0x0 A0x1 c0x1 A0x2 c0x2) 29] ∧ ((if r35 = true then false else decide (¬ (((p0.xReq : Nat) : Int) = 0))) = i)) ?_ ?_
 intro hK41
 rcases Bool.eq_false_or_eq_true (r35) with h42 | h42
 refine Sz (cn h42) (Sz (cn h42) (Sz (cn h42) (Sz (cn h42) (Sz (cn h42) (fw (.bool false) (Yl.pickF rfl (cn h42) rfl) ?_)))))
 have H43 := H39.pk [0, 1]
 exact hK41 false _ _ ⟨H43, (show (if r35 = true then false else decide (¬ (((p0.xReq : Nat) : Int) = 0))) = false from ip h42)⟩ ⟨rfl, rfl, rfl, rfl, rfl, rfl, rfl, rfl, rfl, rfl, rfl, rfl, rfl, rfl, rfl, rfl, rfl, rfl, trivial⟩
 refine gw (.int .u8 113) (cn h42) (Yl.move rfl) ?_
 refine WL.doG rfl rfl (cn h42) rfl (Do.call Tryz.call47 rfl ?_ (fun _ _ k => k))
 refine Calls.body (args := [.pointer (some ⟨g21, 0, none⟩), .int .u8 113]) Tryz.func47 rfl rfl rfl ?_
 show Wp _ _ _ [(0, .pointer (some ⟨g21, 0, none⟩)), (1, .int .u8 113)] _ _
 refine sr (An rfl (Wp.seq (sr (Mn rfl (bo (sr (Kz (.bool true) (An rfl (jt (sr (Mz rfl (Kz (.pointer (some ⟨g21, 0, none⟩)) (Kz (.pointer (some ⟨g21, 6, none⟩)) (An rfl (rt (bR (tR (rs (Gz (.pointer (some ⟨g21, 6, none⟩)) (cn h42) (Gl (.int .u64 ((p0.xReq : Nat) : Int)) (cn h42) H39 1 Tryz.isAgg22 (gw (.bool (decide (¬ (((p0.xReq : Nat) : Int) = 0)))) (cn h42) (Yl.bool (e := !(decide (((p0.xReq : Nat) : Int) = 0))) yk decide_not.symm) (fw (.bool (decide (¬ (((p0.xReq : Nat) : Int) = 0)))) (Yl.pickT rfl (cn h42) rfl) ?_))))))))))))))))))))))
 have H44 := H39.pk [0, 1]
 exact hK41 (decide (¬ (((p0.xReq : Nat) : Int) = 0))) _ _ ⟨H44, (show (if r35 = true then false else decide (¬ (((p0.xReq : Nat) : Int) = 0))) = decide (¬ (((p0.xReq : Nat) : Int) = 0)) from ifF h42)⟩ ⟨rfl, rfl, rfl, rfl, rfl, rfl, rfl, rfl, rfl, rfl, rfl, rfl, rfl, rfl, rfl, rfl, rfl, rfl, trivial⟩
 rintro b40 w45 ⟨H46, hj47⟩
 show WL _ _ _ (List.drop 6 _) _ [(23, .bool b40), (17, .bool (!r35)), (16, .bool (!r35)), (15, .bool r35), (14, .int .u8 113), (13, .int .i64 p0.xKind), (12, .pointer (some ⟨g21, 0, none⟩)), (4, .int .u8 113), (11, .int .u8 113), (10, .pointer (some ⟨ab A24, ao A24 + 0 * 1, none⟩)), (9, .bool true), (8, .int .i64 0), (7, .int .i64 9), (6, .slice A24 9 9), (5, .slice A24 9 9), (2, .bool false), (1, .pointer (some ⟨g21, 0, none⟩)), (0, .agg (MsgP p0 A0x0 c0x0 A0x1 c0x1 A0x2 c0x2).toArray)] _
 replace hj47 : (if r35 = true then false else decide (¬ (((p0.xReq : Nat) : Int) = 0))) = b40 := hj47
 refine nt ?_
 rcases Bool.eq_false_or_eq_true (b40) with h48 | h48
 refine jT h48 (sr (An rfl (rt (bR (tR (tR (bR (tR (rs ?_)))))))))
 have H49 := H46.pk []
 obtain rfl : _ = false := hr.symm.trans (et (bnd_of hr36) (et (bnd_of hj47) (ip h48)))
 exact ⟨rfl, H49⟩
 refine jF h48 (Wp.skip (bN (Fin.then (Wp.region (Kz (.int .i64 1) (Mz rfl (WL.nil (Fin.again [(8, .int .i64 1), (7, .int .i64 9), (6, .slice A24 9 9), (2, .bool false), (1, .pointer (some ⟨g21, 0, none⟩))] ⟨rfl, rfl, rfl, rfl, rfl, trivial⟩ (sr (Kz (.bool true) (nt (Wp.seq (jt (sk (Wp.seq (bo (sr ?_)))))))))))))))))
 have hx50 : ([113, 98, 116, 108, 118, 101, 109, 97, 110] : List UInt8)[1]? = some 98 := rfl
 refine fw (.pointer (some ⟨ab A24, ao A24 + 1 * 1, none⟩)) (Yl.indexAddr (El31) rfl rfl ((H46.rds (i := 0) rfl).addr (i := 1) (by omega)) (by omega)) (fw (.int .u8 98) (Yl.load rfl (Lds.one Tryz.isAgg5 (((H46.rds (i := 0) rfl).elem eB_len hx50 (by decide)).at_ (k := 0) rfl))) (Ar rfl (Kz (.pointer (some ⟨g21, 0, none⟩)) (Lz (.int .i64 p0.xKind) H46 1 Tryz.isAgg3 (Mz rfl ?_)))))
 obtain ⟨r56, hr57⟩ : ∃ q, r18_has p0.xKind (98 : UInt8) = q := ⟨_, rfl⟩
 obtain ⟨D51, HP52, ro53, bk54, rr55⟩ := Own.enter0 H46
 refine cl Tryz.call73 (r18_has_ok _ _ p0.xKind (98 : UInt8) r56 HP52 hr57) ?_
 rintro _ w58 ⟨rfl, HQ59⟩
 have H60 := bk54 _ _ HQ59
 refine Kz (.bool (!r56)) (Mz rfl ?_)
 refine WL.cutJ (ι := Bool) 6 (fun i => [(23, .bool i), (17, .bool (!r56)), (16, .bool (!r56)), (15, .bool r56), (14, .int .u8 98), (13, .int .i64 p0.xKind), (12, .pointer (some ⟨g21, 0, none⟩)), (4, .int .u8 98), (11, .int .u8 98), (10, .pointer (some ⟨ab A24, ao A24 + 1 * 1, none⟩)), (9, .bool true), (8, .int .i64 1), (7, .int .i64 9), (6, .slice A24 9 9), (2, .bool false), (1, .pointer (some ⟨g21, 0, none⟩))]) (fun i w' => Own w D w' [row A24 9 9 (List.flatMap eB ([113, 98, 116, 108, 118, 101, 109, 97, 110])) 5 1, blk g21 (MsgP p0 A0x0 c0x0 A0x1 c0x1 A0x2 c0x2) 29] ∧ ((if r56 = true then false else decide (¬ (((p0.xBoot : Nat) : Int) = 0))) = i)) ?_ ?_
 intro hK62
 rcases Bool.eq_false_or_eq_true (r56) with h63 | h63
 refine Sz (cn h63) (Sz (cn h63) (Sz (cn h63) (Sz (cn h63) (Sz (cn h63) (fw (.bool false) (Yl.pickF rfl (cn h63) rfl) ?_)))))
 have H64 := H60.pk [0, 1]
 exact hK62 false _ _ ⟨H64, (show (if r56 = true then false else decide (¬ (((p0.xBoot : Nat) : Int) = 0))) = false from ip h63)⟩ ⟨rfl, rfl, rfl, rfl, rfl, rfl, rfl, rfl, rfl, rfl, rfl, rfl, rfl, rfl, rfl, rfl, trivial⟩
 refine gw (.int .u8 98) (cn h63) (Yl.move rfl) ?_
 refine WL.doG rfl rfl (cn h63) rfl (Do.call Tryz.call47 rfl ?_ (fun _ _ k => k))
 refine Calls.body (args := [.pointer (some ⟨g21, 0, none⟩), .int .u8 98]) Tryz.func47 rfl rfl rfl ?_
 show Wp _ _ _ [(0, .pointer (some ⟨g21, 0, none⟩)), (1, .int .u8 98)] _ _
 refine sr (An rfl (Wp.seq (sr (Mn rfl (bo (sr (Kz (.bool false) (An rfl (jf (sr (Kz (.bool true) (An rfl (jt (sr (Mz rfl (Kz (.pointer (some ⟨g21, 0, none⟩)) (Kz (.pointer (some ⟨g21, 7, none⟩)) (An rfl (rt (bR (tR (rs (Gz (.pointer (some ⟨g21, 7, none⟩)) (cn h63) (Gl (.int .u64 ((p0.xBoot : Nat) : Int)) (cn h63) H60 1 Tryz.isAgg22 ?_))))))))))))))))))))))))
 refine gw (.bool (decide (¬ (((p0.xBoot : Nat) : Int) = 0)))) (cn h63) (Yl.bool (e := !(decide (((p0.xBoot : Nat) : Int) = 0))) yk decide_not.symm) (fw (.bool (decide (¬ (((p0.xBoot : Nat) : Int) = 0)))) (Yl.pickT rfl (cn h63) rfl) ?_)
 have H65 := H60.pk [0, 1]
 exact hK62 (decide (¬ (((p0.xBoot : Nat) : Int) = 0))) _ _ ⟨H65, (show (if r56 = true then false else decide (¬ (((p0.xBoot : Nat) : Int) = 0))) = decide (¬ (((p0.xBoot : Nat) : Int) = 0)) from ifF h63)⟩ ⟨rfl, rfl, rfl, rfl, rfl, rfl, rfl, rfl, rfl, rfl, rfl, rfl, rfl, rfl, rfl, rfl, trivial⟩
 rintro b61 w66 ⟨H67, hj68⟩
 show WL _ _ _ (List.drop 6 _) _ [(23, .bool b61), (17, .bool (!r56)), (16, .bool (!r56)), (15, .bool r56), (14, .int .u8 98), (13, .int .i64 p0.xKind), (12, .pointer (some ⟨g21, 0, none⟩)), (4, .int .u8 98), (11, .int .u8 98), (10, .pointer (some ⟨ab A24, ao A24 + 1 * 1, none⟩)), (9, .bool true), (8, .int .i64 1), (7, .int .i64 9), (6, .slice A24 9 9), (2, .bool false), (1, .pointer (some ⟨g21, 0, none⟩))] _
 replace hj68 : (if r56 = true then false else decide (¬ (((p0.xBoot : Nat) : Int) = 0))) = b61 := hj68
 refine nt ?_
 rcases Bool.eq_false_or_eq_true (b61) with h69 | h69
 refine jT h69 (sr (An rfl (rt (bR (tR (tR (bR (tR (rs ?_)))))))))
 have H70 := H67.pk []
 obtain rfl : _ = false := hr.symm.trans (et (bnd_of hr36) (et (bnd_of hj47) (et (ifF h48) (et (bnd_of hr57) (et (bnd_of hj68) (ip h69))))))
 exact ⟨rfl, H70⟩
 refine jF h69 (Wp.skip (bN (Fin.then (Wp.region (Kz (.int .i64 2) (Mz rfl (WL.nil (Fin.again [(8, .int .i64 2), (7, .int .i64 9), (6, .slice A24 9 9), (2, .bool false), (1, .pointer (some ⟨g21, 0, none⟩))] ⟨rfl, rfl, rfl, rfl, rfl, trivial⟩ (sr (Kz (.bool true) (nt (Wp.seq (jt (sk (Wp.seq (bo (sr ?_)))))))))))))))))
 have hx71 : ([113, 98, 116, 108, 118, 101, 109, 97, 110] : List UInt8)[2]? = some 116 := rfl
 refine fw (.pointer (some ⟨ab A24, ao A24 + 2 * 1, none⟩)) (Yl.indexAddr (El31) rfl rfl ((H67.rds (i := 0) rfl).addr (i := 2) (by omega)) (by omega)) (fw (.int .u8 116) (Yl.load rfl (Lds.one Tryz.isAgg5 (((H67.rds (i := 0) rfl).elem eB_len hx71 (by decide)).at_ (k := 0) rfl))) (Ar rfl (Kz (.pointer (some ⟨g21, 0, none⟩)) (Lz (.int .i64 p0.xKind) H67 1 Tryz.isAgg3 (Mz rfl ?_)))))
 obtain ⟨r77, hr78⟩ : ∃ q, r18_has p0.xKind (116 : UInt8) = q := ⟨_, rfl⟩
 obtain ⟨D72, HP73, ro74, bk75, rr76⟩ := Own.enter0 H67
 refine cl Tryz.call73 (r18_has_ok _ _ p0.xKind (116 : UInt8) r77 HP73 hr78) ?_
 rintro _ w79 ⟨rfl, HQ80⟩
 have H81 := bk75 _ _ HQ80
 refine Kz (.bool (!r77)) (Mz rfl ?_)
 refine WL.cutJ (ι := Bool) 6 (fun i => [(23, .bool i), (17, .bool (!r77)), (16, .bool (!r77)), (15, .bool r77), (14, .int .u8 116), (13, .int .i64 p0.xKind), (12, .pointer (some ⟨g21, 0, none⟩)), (4, .int .u8 116), (11, .int .u8 116), (10, .pointer (some ⟨ab A24, ao A24 + 2 * 1, none⟩)), (9, .bool true), (8, .int .i64 2), (7, .int .i64 9), (6, .slice A24 9 9), (2, .bool false), (1, .pointer (some ⟨g21, 0, none⟩))]) (fun i w' => Own w D w' [row A24 9 9 (List.flatMap eB ([113, 98, 116, 108, 118, 101, 109, 97, 110])) 5 1, blk g21 (MsgP p0 A0x0 c0x0 A0x1 c0x1 A0x2 c0x2) 29] ∧ ((if r77 = true then false else decide (¬ (((p0.xTxn : Nat) : Int) = 0))) = i)) ?_ ?_
 intro hK83
 rcases Bool.eq_false_or_eq_true (r77) with h84 | h84
 refine Sz (cn h84) (Sz (cn h84) (Sz (cn h84) (Sz (cn h84) (Sz (cn h84) (fw (.bool false) (Yl.pickF rfl (cn h84) rfl) ?_)))))
 have H85 := H81.pk [0, 1]
 exact hK83 false _ _ ⟨H85, (show (if r77 = true then false else decide (¬ (((p0.xTxn : Nat) : Int) = 0))) = false from ip h84)⟩ ⟨rfl, rfl, rfl, rfl, rfl, rfl, rfl, rfl, rfl, rfl, rfl, rfl, rfl, rfl, rfl, rfl, trivial⟩
 refine gw (.int .u8 116) (cn h84) (Yl.move rfl) ?_
 refine WL.doG rfl rfl (cn h84) rfl (Do.call Tryz.call47 rfl ?_ (fun _ _ k => k))
 refine Calls.body (args := [.pointer (some ⟨g21, 0, none⟩), .int .u8 116]) Tryz.func47 rfl rfl rfl ?_
 show Wp _ _ _ [(0, .pointer (some ⟨g21, 0, none⟩)), (1, .int .u8 116)] _ _
 refine sr (An rfl (Wp.seq (sr (Mn rfl (bo (sr (Kz (.bool false) (An rfl (jf (sr (Kz (.bool false) (An rfl (jf (sr (Kz (.bool true) (An rfl (jt (sr (Mz rfl (Kz (.pointer (some ⟨g21, 0, none⟩)) (Kz (.pointer (some ⟨g21, 8, none⟩)) (Az rfl (WL.nil ?_)))))))))))))))))))))))
 refine Fin.then (rt (bR (tR (rs (Gz (.pointer (some ⟨g21, 8, none⟩)) (cn h84) (Gl (.int .u64 ((p0.xTxn : Nat) : Int)) (cn h84) H81 1 Tryz.isAgg22 (gw (.bool (decide (¬ (((p0.xTxn : Nat) : Int) = 0)))) (cn h84) (Yl.bool (e := !(decide (((p0.xTxn : Nat) : Int) = 0))) yk decide_not.symm) (fw (.bool (decide (¬ (((p0.xTxn : Nat) : Int) = 0)))) (Yl.pickT rfl (cn h84) rfl) ?_))))))))
 have H86 := H81.pk [0, 1]
 exact hK83 (decide (¬ (((p0.xTxn : Nat) : Int) = 0))) _ _ ⟨H86, (show (if r77 = true then false else decide (¬ (((p0.xTxn : Nat) : Int) = 0))) = decide (¬ (((p0.xTxn : Nat) : Int) = 0)) from ifF h84)⟩ ⟨rfl, rfl, rfl, rfl, rfl, rfl, rfl, rfl, rfl, rfl, rfl, rfl, rfl, rfl, rfl, rfl, trivial⟩
 rintro b82 w87 ⟨H88, hj89⟩
 show WL _ _ _ (List.drop 6 _) _ [(23, .bool b82), (17, .bool (!r77)), (16, .bool (!r77)), (15, .bool r77), (14, .int .u8 116), (13, .int .i64 p0.xKind), (12, .pointer (some ⟨g21, 0, none⟩)), (4, .int .u8 116), (11, .int .u8 116), (10, .pointer (some ⟨ab A24, ao A24 + 2 * 1, none⟩)), (9, .bool true), (8, .int .i64 2), (7, .int .i64 9), (6, .slice A24 9 9), (2, .bool false), (1, .pointer (some ⟨g21, 0, none⟩))] _
 replace hj89 : (if r77 = true then false else decide (¬ (((p0.xTxn : Nat) : Int) = 0))) = b82 := hj89
 refine nt ?_
 rcases Bool.eq_false_or_eq_true (b82) with h90 | h90
 refine jT h90 (sr (An rfl (rt (bR (tR (tR (bR (tR (rs ?_)))))))))
 have H91 := H88.pk []
 obtain rfl : _ = false := hr.symm.trans (et (bnd_of hr36) (et (bnd_of hj47) (et (ifF h48) (et (bnd_of hr57) (et (bnd_of hj68) (et (ifF h69) (et (bnd_of hr78) (et (bnd_of hj89) (ip h90)))))))))
 exact ⟨rfl, H91⟩
 refine jF h90 (Wp.skip (bN (Fin.then (Wp.region (Kz (.int .i64 3) (Mz rfl (WL.nil (Fin.again [(8, .int .i64 3), (7, .int .i64 9), (6, .slice A24 9 9), (2, .bool false), (1, .pointer (some ⟨g21, 0, none⟩))] ⟨rfl, rfl, rfl, rfl, rfl, trivial⟩ (sr (Kz (.bool true) (nt (Wp.seq (jt (sk (Wp.seq (bo (sr ?_)))))))))))))))))
 have hx92 : ([113, 98, 116, 108, 118, 101, 109, 97, 110] : List UInt8)[3]? = some 108 := rfl
 refine fw (.pointer (some ⟨ab A24, ao A24 + 3 * 1, none⟩)) (Yl.indexAddr (El31) rfl rfl ((H88.rds (i := 0) rfl).addr (i := 3) (by omega)) (by omega)) (fw (.int .u8 108) (Yl.load rfl (Lds.one Tryz.isAgg5 (((H88.rds (i := 0) rfl).elem eB_len hx92 (by decide)).at_ (k := 0) rfl))) (Ar rfl (Kz (.pointer (some ⟨g21, 0, none⟩)) (Lz (.int .i64 p0.xKind) H88 1 Tryz.isAgg3 (Mz rfl ?_)))))
 obtain ⟨r98, hr99⟩ : ∃ q, r18_has p0.xKind (108 : UInt8) = q := ⟨_, rfl⟩
 obtain ⟨D93, HP94, ro95, bk96, rr97⟩ := Own.enter0 H88
 refine cl Tryz.call73 (r18_has_ok _ _ p0.xKind (108 : UInt8) r98 HP94 hr99) ?_
 rintro _ w100 ⟨rfl, HQ101⟩
 have H102 := bk96 _ _ HQ101
 refine Kz (.bool (!r98)) (Mz rfl ?_)
 refine WL.cutJ (ι := Bool) 6 (fun i => [(23, .bool i), (17, .bool (!r98)), (16, .bool (!r98)), (15, .bool r98), (14, .int .u8 108), (13, .int .i64 p0.xKind), (12, .pointer (some ⟨g21, 0, none⟩)), (4, .int .u8 108), (11, .int .u8 108), (10, .pointer (some ⟨ab A24, ao A24 + 3 * 1, none⟩)), (9, .bool true), (8, .int .i64 3), (7, .int .i64 9), (6, .slice A24 9 9), (2, .bool false), (1, .pointer (some ⟨g21, 0, none⟩))]) (fun i w' => Own w D w' [row A24 9 9 (List.flatMap eB ([113, 98, 116, 108, 118, 101, 109, 97, 110])) 5 1, blk g21 (MsgP p0 A0x0 c0x0 A0x1 c0x1 A0x2 c0x2) 29] ∧ ((if r98 = true then false else decide (¬ (((p0.xLow : Nat) : Int) = 0))) = i)) ?_ ?_
 intro hK104
 rcases Bool.eq_false_or_eq_true (r98) with h105 | h105
 refine Sz (cn h105) (Sz (cn h105) (Sz (cn h105) (Sz (cn h105) (Sz (cn h105) (fw (.bool false) (Yl.pickF rfl (cn h105) rfl) ?_)))))
 have H106 := H102.pk [0, 1]
 exact hK104 false _ _ ⟨H106, (show (if r98 = true then false else decide (¬ (((p0.xLow : Nat) : Int) = 0))) = false from ip h105)⟩ ⟨rfl, rfl, rfl, rfl, rfl, rfl, rfl, rfl, rfl, rfl, rfl, rfl, rfl, rfl, rfl, rfl, trivial⟩
 refine gw (.int .u8 108) (cn h105) (Yl.move rfl) ?_
 refine WL.doG rfl rfl (cn h105) rfl (Do.call Tryz.call47 rfl ?_ (fun _ _ k => k))
 refine Calls.body (args := [.pointer (some ⟨g21, 0, none⟩), .int .u8 108]) Tryz.func47 rfl rfl rfl ?_
 show Wp _ _ _ [(0, .pointer (some ⟨g21, 0, none⟩)), (1, .int .u8 108)] _ _
 refine sr (An rfl (Wp.seq (sr (Mn rfl (bo (sr (Kz (.bool false) (An rfl (jf (sr (Kz (.bool false) (An rfl (jf (sr (Kz (.bool false) (An rfl (jf (sr (Kz (.bool true) (An rfl (jt ?_)))))))))))))))))))))
 refine sr (Mz rfl (Kz (.pointer (some ⟨g21, 0, none⟩)) (Kz (.pointer (some ⟨g21, 9, none⟩)) (An rfl (rt (bR (tR (rs (Gz (.pointer (some ⟨g21, 9, none⟩)) (cn h105) (Gl (.int .u64 ((p0.xLow : Nat) : Int)) (cn h105) H102 1 Tryz.isAgg22 (gw (.bool (decide (¬ (((p0.xLow : Nat) : Int) = 0)))) (cn h105) (Yl.bool (e := !(decide (((p0.xLow : Nat) : Int) = 0))) yk decide_not.symm) (fw (.bool (decide (¬ (((p0.xLow : Nat) : Int) = 0)))) (Yl.pickT rfl (cn h105) rfl) ?_))))))))))))
 have H107 := H102.pk [0, 1]
 exact hK104 (decide (¬ (((p0.xLow : Nat) : Int) = 0))) _ _ ⟨H107, (show (if r98 = true then false else decide (¬ (((p0.xLow : Nat) : Int) = 0))) = decide (¬ (((p0.xLow : Nat) : Int) = 0)) from ifF h105)⟩ ⟨rfl, rfl, rfl, rfl, rfl, rfl, rfl, rfl, rfl, rfl, rfl, rfl, rfl, rfl, rfl, rfl, trivial⟩
 rintro b103 w108 ⟨H109, hj110⟩
 show WL _ _ _ (List.drop 6 _) _ [(23, .bool b103), (17, .bool (!r98)), (16, .bool (!r98)), (15, .bool r98), (14, .int .u8 108), (13, .int .i64 p0.xKind), (12, .pointer (some ⟨g21, 0, none⟩)), (4, .int .u8 108), (11, .int .u8 108), (10, .pointer (some ⟨ab A24, ao A24 + 3 * 1, none⟩)), (9, .bool true), (8, .int .i64 3), (7, .int .i64 9), (6, .slice A24 9 9), (2, .bool false), (1, .pointer (some ⟨g21, 0, none⟩))] _
 replace hj110 : (if r98 = true then false else decide (¬ (((p0.xLow : Nat) : Int) = 0))) = b103 := hj110
 refine nt ?_
 rcases Bool.eq_false_or_eq_true (b103) with h111 | h111
 refine jT h111 (sr (An rfl (rt (bR (tR (tR (bR (tR (rs ?_)))))))))
 have H112 := H109.pk []
 obtain rfl : _ = false := hr.symm.trans (et (bnd_of hr36) (et (bnd_of hj47) (et (ifF h48) (et (bnd_of hr57) (et (bnd_of hj68) (et (ifF h69) (et (bnd_of hr78) (et (bnd_of hj89) (et (ifF h90) (et (bnd_of hr99) (et (bnd_of hj110) (ip h111))))))))))))
 exact ⟨rfl, H112⟩
 refine jF h111 (Wp.skip (bN (Fin.then (Wp.region (Kz (.int .i64 4) (Mz rfl (WL.nil (Fin.again [(8, .int .i64 4), (7, .int .i64 9), (6, .slice A24 9 9), (2, .bool false), (1, .pointer (some ⟨g21, 0, none⟩))] ⟨rfl, rfl, rfl, rfl, rfl, trivial⟩ (sr (Kz (.bool true) (nt (Wp.seq (jt (sk (Wp.seq (bo (sr ?_)))))))))))))))))
 have hx113 : ([113, 98, 116, 108, 118, 101, 109, 97, 110] : List UInt8)[4]? = some 118 := rfl
 refine fw (.pointer (some ⟨ab A24, ao A24 + 4 * 1, none⟩)) (Yl.indexAddr (El31) rfl rfl ((H109.rds (i := 0) rfl).addr (i := 4) (by omega)) (by omega)) (fw (.int .u8 118) (Yl.load rfl (Lds.one Tryz.isAgg5 (((H109.rds (i := 0) rfl).elem eB_len hx113 (by decide)).at_ (k := 0) rfl))) (Ar rfl (Kz (.pointer (some ⟨g21, 0, none⟩)) (Lz (.int .i64 p0.xKind) H109 1 Tryz.isAgg3 (Mz rfl ?_)))))
 obtain ⟨r119, hr120⟩ : ∃ q, r18_has p0.xKind (118 : UInt8) = q := ⟨_, rfl⟩
 obtain ⟨D114, HP115, ro116, bk117, rr118⟩ := Own.enter0 H109
 refine cl Tryz.call73 (r18_has_ok _ _ p0.xKind (118 : UInt8) r119 HP115 hr120) ?_
 rintro _ w121 ⟨rfl, HQ122⟩
 have H123 := bk117 _ _ HQ122
 refine Kz (.bool (!r119)) (Mz rfl ?_)
 refine WL.cutJ (ι := Bool) 6 (fun i => [(23, .bool i), (17, .bool (!r119)), (16, .bool (!r119)), (15, .bool r119), (14, .int .u8 118), (13, .int .i64 p0.xKind), (12, .pointer (some ⟨g21, 0, none⟩)), (4, .int .u8 118), (11, .int .u8 118), (10, .pointer (some ⟨ab A24, ao A24 + 4 * 1, none⟩)), (9, .bool true), (8, .int .i64 4), (7, .int .i64 9), (6, .slice A24 9 9), (2, .bool false), (1, .pointer (some ⟨g21, 0, none⟩))]) (fun i w' => Own w D w' [row A24 9 9 (List.flatMap eB ([113, 98, 116, 108, 118, 101, 109, 97, 110])) 5 1, blk g21 (MsgP p0 A0x0 c0x0 A0x1 c0x1 A0x2 c0x2) 29] ∧ ((if r119 = true then false else decide (¬ (((p0.xVer : Nat) : Int) = 0))) = i)) ?_ ?_
 intro hK125
 rcases Bool.eq_false_or_eq_true (r119) with h126 | h126
 refine Sz (cn h126) (Sz (cn h126) (Sz (cn h126) (Sz (cn h126) (Sz (cn h126) (fw (.bool false) (Yl.pickF rfl (cn h126) rfl) ?_)))))
 have H127 := H123.pk [0, 1]
 exact hK125 false _ _ ⟨H127, (show (if r119 = true then false else decide (¬ (((p0.xVer : Nat) : Int) = 0))) = false from ip h126)⟩ ⟨rfl, rfl, rfl, rfl, rfl, rfl, rfl, rfl, rfl, rfl, rfl, rfl, rfl, rfl, rfl, rfl, trivial⟩
 refine gw (.int .u8 118) (cn h126) (Yl.move rfl) ?_
 refine WL.doG rfl rfl (cn h126) rfl (Do.call Tryz.call47 rfl ?_ (fun _ _ k => k))
 refine Calls.body (args := [.pointer (some ⟨g21, 0, none⟩), .int .u8 118]) Tryz.func47 rfl rfl rfl ?_
 show Wp _ _ _ [(0, .pointer (some ⟨g21, 0, none⟩)), (1, .int .u8 118)] _ _
 refine sr (An rfl (Wp.seq (sr (Mn rfl (bo (sr (Kz (.bool false) (An rfl (jf (sr (Kz (.bool false) (An rfl (jf (sr (Kz (.bool false) (An rfl (jf (sr (Kz (.bool false) (An rfl (jf ?_)))))))))))))))))))))
 refine sr (Kz (.bool true) (An rfl (jt (sr (Mz rfl (Kz (.pointer (some ⟨g21, 0, none⟩)) (Kz (.pointer (some ⟨g21, 10, none⟩)) (An rfl (rt (bR (tR (rs (Gz (.pointer (some ⟨g21, 10, none⟩)) (cn h126) (Gl (.int .u64 ((p0.xVer : Nat) : Int)) (cn h126) H123 1 Tryz.isAgg22 (gw (.bool (decide (¬ (((p0.xVer : Nat) : Int) = 0)))) (cn h126) (Yl.bool (e := !(decide (((p0.xVer : Nat) : Int) = 0))) yk decide_not.symm) (fw (.bool (decide (¬ (((p0.xVer : Nat) : Int) = 0)))) (Yl.pickT rfl (cn h126) rfl) ?_))))))))))))))))
 have H128 := H123.pk [0, 1]
 exact hK125 (decide (¬ (((p0.xVer : Nat) : Int) = 0))) _ _ ⟨H128, (show (if r119 = true then false else decide (¬ (((p0.xVer : Nat) : Int) = 0))) = decide (¬ (((p0.xVer : Nat) : Int) = 0)) from ifF h126)⟩ ⟨rfl, rfl, rfl, rfl, rfl, rfl, rfl, rfl, rfl, rfl, rfl, rfl, rfl, rfl, rfl, rfl, trivial⟩
 rintro b124 w129 ⟨H130, hj131⟩
 show WL _ _ _ (List.drop 6 _) _ [(23, .bool b124), (17, .bool (!r119)), (16, .bool (!r119)), (15, .bool r119), (14, .int .u8 118), (13, .int .i64 p0.xKind), (12, .pointer (some ⟨g21, 0, none⟩)), (4, .int .u8 118), (11, .int .u8 118), (10, .pointer (some ⟨ab A24, ao A24 + 4 * 1, none⟩)), (9, .bool true), (8, .int .i64 4), (7, .int .i64 9), (6, .slice A24 9 9), (2, .bool false), (1, .pointer (some ⟨g21, 0, none⟩))] _
 replace hj131 : (if r119 = true then false else decide (¬ (((p0.xVer : Nat) : Int) = 0))) = b124 := hj131
 refine nt ?_
 rcases Bool.eq_false_or_eq_true (b124) with h132 | h132
 refine jT h132 (sr (An rfl (rt (bR (tR (tR (bR (tR (rs ?_)))))))))
 have H133 := H130.pk []
 obtain rfl : _ = false := hr.symm.trans (et (bnd_of hr36) (et (bnd_of hj47) (et (ifF h48) (et (bnd_of hr57) (et (bnd_of hj68) (et (ifF h69) (et (bnd_of hr78) (et (bnd_of hj89) (et (ifF h90) (et (bnd_of hr99) (et (bnd_of hj110) (et (ifF h111) (et (bnd_of hr120) (et (bnd_of hj131) (ip h132)))))))))))))))
 exact ⟨rfl, H133⟩
 refine jF h132 (Wp.skip (bN (Fin.then (Wp.region (Kz (.int .i64 5) (Mz rfl (WL.nil (Fin.again [(8, .int .i64 5), (7, .int .i64 9), (6, .slice A24 9 9), (2, .bool false), (1, .pointer (some ⟨g21, 0, none⟩))] ⟨rfl, rfl, rfl, rfl, rfl, trivial⟩ (sr (Kz (.bool true) (nt (Wp.seq (jt (sk (Wp.seq (bo (sr ?_)))))))))))))))))
 have hx134 : ([113, 98, 116, 108, 118, 101, 109, 97, 110] : List UInt8)[5]? = some 101 := rfl
 refine fw (.pointer (some ⟨ab A24, ao A24 + 5 * 1, none⟩)) (Yl.indexAddr (El31) rfl rfl ((H130.rds (i := 0) rfl).addr (i := 5) (by omega)) (by omega)) (fw (.int .u8 101) (Yl.load rfl (Lds.one Tryz.isAgg5 (((H130.rds (i := 0) rfl).elem eB_len hx134 (by decide)).at_ (k := 0) rfl))) (Ar rfl (Kz (.pointer (some ⟨g21, 0, none⟩)) (Lz (.int .i64 p0.xKind) H130 1 Tryz.isAgg3 (Mz rfl ?_)))))
 obtain ⟨r140, hr141⟩ : ∃ q, r18_has p0.xKind (101 : UInt8) = q := ⟨_, rfl⟩
 obtain ⟨D135, HP136, ro137, bk138, rr139⟩ := Own.enter0 H130
 refine cl Tryz.call73 (r18_has_ok _ _ p0.xKind (101 : UInt8) r140 HP136 hr141) ?_
 rintro _ w142 ⟨rfl, HQ143⟩
 have H144 := bk138 _ _ HQ143
 refine Kz (.bool (!r140)) (Mz rfl ?_)
 refine WL.cutJ (ι := Bool) 6 (fun i => [(23, .bool i), (17, .bool (!r140)), (16, .bool (!r140)), (15, .bool r140), (14, .int .u8 101), (13, .int .i64 p0.xKind), (12, .pointer (some ⟨g21, 0, none⟩)), (4, .int .u8 101), (11, .int .u8 101), (10, .pointer (some ⟨ab A24, ao A24 + 5 * 1, none⟩)), (9, .bool true), (8, .int .i64 5), (7, .int .i64 9), (6, .slice A24 9 9), (2, .bool false), (1, .pointer (some ⟨g21, 0, none⟩))]) (fun i w' => Own w D w' [row A24 9 9 (List.flatMap eB ([113, 98, 116, 108, 118, 101, 109, 97, 110])) 5 1, blk g21 (MsgP p0 A0x0 c0x0 A0x1 c0x1 A0x2 c0x2) 29] ∧ ((if r140 = true then false else decide (¬ (((p0.xEpoch : Nat) : Int) = 0))) = i)) ?_ ?_
 intro hK146
 rcases Bool.eq_false_or_eq_true (r140) with h147 | h147
 refine Sz (cn h147) (Sz (cn h147) (Sz (cn h147) (Sz (cn h147) (Sz (cn h147) (fw (.bool false) (Yl.pickF rfl (cn h147) rfl) ?_)))))
 have H148 := H144.pk [0, 1]
 exact hK146 false _ _ ⟨H148, (show (if r140 = true then false else decide (¬ (((p0.xEpoch : Nat) : Int) = 0))) = false from ip h147)⟩ ⟨rfl, rfl, rfl, rfl, rfl, rfl, rfl, rfl, rfl, rfl, rfl, rfl, rfl, rfl, rfl, rfl, trivial⟩
 refine gw (.int .u8 101) (cn h147) (Yl.move rfl) ?_
 refine WL.doG rfl rfl (cn h147) rfl (Do.call Tryz.call47 rfl ?_ (fun _ _ k => k))
 refine Calls.body (args := [.pointer (some ⟨g21, 0, none⟩), .int .u8 101]) Tryz.func47 rfl rfl rfl ?_
 show Wp _ _ _ [(0, .pointer (some ⟨g21, 0, none⟩)), (1, .int .u8 101)] _ _
 refine sr (An rfl (Wp.seq (sr (Mn rfl (bo (sr (Kz (.bool false) (An rfl (jf (sr (Kz (.bool false) (An rfl (jf (sr (Kz (.bool false) (An rfl (jf (sr (Kz (.bool false) (An rfl (jf ?_)))))))))))))))))))))
 refine sr (Kz (.bool false) (An rfl (jf (sr (Kz (.bool true) (An rfl (jt (sr (Mz rfl (Kz (.pointer (some ⟨g21, 0, none⟩)) (Kz (.pointer (some ⟨g21, 11, none⟩)) (An rfl (rt (bR (tR (rs (Gz (.pointer (some ⟨g21, 11, none⟩)) (cn h147) (Gl (.int .u64 ((p0.xEpoch : Nat) : Int)) (cn h147) H144 1 Tryz.isAgg22 (gw (.bool (decide (¬ (((p0.xEpoch : Nat) : Int) = 0)))) (cn h147) (Yl.bool (e := !(decide (((p0.xEpoch : Nat) : Int) = 0))) yk decide_not.symm) (fw (.bool (decide (¬ (((p0.xEpoch : Nat) : Int) = 0)))) (Yl.pickT rfl (cn h147) rfl) ?_))))))))))))))))))))
 have H149 := H144.pk [0, 1]
 exact hK146 (decide (¬ (((p0.xEpoch : Nat) : Int) = 0))) _ _ ⟨H149, (show (if r140 = true then false else decide (¬ (((p0.xEpoch : Nat) : Int) = 0))) = decide (¬ (((p0.xEpoch : Nat) : Int) = 0)) from ifF h147)⟩ ⟨rfl, rfl, rfl, rfl, rfl, rfl, rfl, rfl, rfl, rfl, rfl, rfl, rfl, rfl, rfl, rfl, trivial⟩
 rintro b145 w150 ⟨H151, hj152⟩
 show WL _ _ _ (List.drop 6 _) _ [(23, .bool b145), (17, .bool (!r140)), (16, .bool (!r140)), (15, .bool r140), (14, .int .u8 101), (13, .int .i64 p0.xKind), (12, .pointer (some ⟨g21, 0, none⟩)), (4, .int .u8 101), (11, .int .u8 101), (10, .pointer (some ⟨ab A24, ao A24 + 5 * 1, none⟩)), (9, .bool true), (8, .int .i64 5), (7, .int .i64 9), (6, .slice A24 9 9), (2, .bool false), (1, .pointer (some ⟨g21, 0, none⟩))] _
 replace hj152 : (if r140 = true then false else decide (¬ (((p0.xEpoch : Nat) : Int) = 0))) = b145 := hj152
 refine nt ?_
 rcases Bool.eq_false_or_eq_true (b145) with h153 | h153
 refine jT h153 (sr (An rfl (rt (bR (tR (tR (bR (tR (rs ?_)))))))))
 have H154 := H151.pk []
 obtain rfl : _ = false := hr.symm.trans (et (bnd_of hr36) (et (bnd_of hj47) (et (ifF h48) (et (bnd_of hr57) (et (bnd_of hj68) (et (ifF h69) (et (bnd_of hr78) (et (bnd_of hj89) (et (ifF h90) (et (bnd_of hr99) (et (bnd_of hj110) (et (ifF h111) (et (bnd_of hr120) (et (bnd_of hj131) (et (ifF h132) (et (bnd_of hr141) (et (bnd_of hj152) (ip h153))))))))))))))))))
 exact ⟨rfl, H154⟩
 refine jF h153 (Wp.skip (bN (Fin.then (Wp.region (Kz (.int .i64 6) (Mz rfl (WL.nil (Fin.again [(8, .int .i64 6), (7, .int .i64 9), (6, .slice A24 9 9), (2, .bool false), (1, .pointer (some ⟨g21, 0, none⟩))] ⟨rfl, rfl, rfl, rfl, rfl, trivial⟩ (sr (Kz (.bool true) (nt (Wp.seq (jt (sk (Wp.seq (bo (sr ?_)))))))))))))))))
 have hx155 : ([113, 98, 116, 108, 118, 101, 109, 97, 110] : List UInt8)[6]? = some 109 := rfl
 refine fw (.pointer (some ⟨ab A24, ao A24 + 6 * 1, none⟩)) (Yl.indexAddr (El31) rfl rfl ((H151.rds (i := 0) rfl).addr (i := 6) (by omega)) (by omega)) (fw (.int .u8 109) (Yl.load rfl (Lds.one Tryz.isAgg5 (((H151.rds (i := 0) rfl).elem eB_len hx155 (by decide)).at_ (k := 0) rfl))) (Ar rfl (Kz (.pointer (some ⟨g21, 0, none⟩)) (Lz (.int .i64 p0.xKind) H151 1 Tryz.isAgg3 (Mz rfl ?_)))))
 obtain ⟨r161, hr162⟩ : ∃ q, r18_has p0.xKind (109 : UInt8) = q := ⟨_, rfl⟩
 obtain ⟨D156, HP157, ro158, bk159, rr160⟩ := Own.enter0 H151
 refine cl Tryz.call73 (r18_has_ok _ _ p0.xKind (109 : UInt8) r161 HP157 hr162) ?_
 rintro _ w163 ⟨rfl, HQ164⟩
 have H165 := bk159 _ _ HQ164
 refine Kz (.bool (!r161)) (Mz rfl ?_)
 refine WL.cutJ (ι := Bool) 6 (fun i => [(23, .bool i), (17, .bool (!r161)), (16, .bool (!r161)), (15, .bool r161), (14, .int .u8 109), (13, .int .i64 p0.xKind), (12, .pointer (some ⟨g21, 0, none⟩)), (4, .int .u8 109), (11, .int .u8 109), (10, .pointer (some ⟨ab A24, ao A24 + 6 * 1, none⟩)), (9, .bool true), (8, .int .i64 6), (7, .int .i64 9), (6, .slice A24 9 9), (2, .bool false), (1, .pointer (some ⟨g21, 0, none⟩))]) (fun i w' => Own w D w' [row A24 9 9 (List.flatMap eB ([113, 98, 116, 108, 118, 101, 109, 97, 110])) 5 1, blk g21 (MsgP p0 A0x0 c0x0 A0x1 c0x1 A0x2 c0x2) 29] ∧ ((if r161 = true then false else decide (¬ (((p0.xMove : Nat) : Int) = 0))) = i)) ?_ ?_
 intro hK167
 rcases Bool.eq_false_or_eq_true (r161) with h168 | h168
 refine Sz (cn h168) (Sz (cn h168) (Sz (cn h168) (Sz (cn h168) (Sz (cn h168) (fw (.bool false) (Yl.pickF rfl (cn h168) rfl) ?_)))))
 have H169 := H165.pk [0, 1]
 exact hK167 false _ _ ⟨H169, (show (if r161 = true then false else decide (¬ (((p0.xMove : Nat) : Int) = 0))) = false from ip h168)⟩ ⟨rfl, rfl, rfl, rfl, rfl, rfl, rfl, rfl, rfl, rfl, rfl, rfl, rfl, rfl, rfl, rfl, trivial⟩
 refine gw (.int .u8 109) (cn h168) (Yl.move rfl) ?_
 refine WL.doG rfl rfl (cn h168) rfl (Do.call Tryz.call47 rfl ?_ (fun _ _ k => k))
 refine Calls.body (args := [.pointer (some ⟨g21, 0, none⟩), .int .u8 109]) Tryz.func47 rfl rfl rfl ?_
 show Wp _ _ _ [(0, .pointer (some ⟨g21, 0, none⟩)), (1, .int .u8 109)] _ _
 refine sr (An rfl (Wp.seq (sr (Mn rfl (bo (sr (Kz (.bool false) (An rfl (jf (sr (Kz (.bool false) (An rfl (jf (sr (Kz (.bool false) (An rfl (jf (sr (Kz (.bool false) (An rfl (jf ?_)))))))))))))))))))))
 refine sr (Kz (.bool false) (An rfl (jf (sr (Kz (.bool false) (An rfl (jf (sr (Kz (.bool true) (An rfl (jt (sr (Mz rfl (Kz (.pointer (some ⟨g21, 0, none⟩)) (Kz (.pointer (some ⟨g21, 12, none⟩)) (An rfl (rt (bR (tR (rs (Gz (.pointer (some ⟨g21, 12, none⟩)) (cn h168) (Gl (.int .u64 ((p0.xMove : Nat) : Int)) (cn h168) H165 1 Tryz.isAgg22 (gw (.bool (decide (¬ (((p0.xMove : Nat) : Int) = 0)))) (cn h168) (Yl.bool (e := !(decide (((p0.xMove : Nat) : Int) = 0))) yk decide_not.symm) (fw (.bool (decide (¬ (((p0.xMove : Nat) : Int) = 0)))) (Yl.pickT rfl (cn h168) rfl) ?_))))))))))))))))))))))))
 have H170 := H165.pk [0, 1]
 exact hK167 (decide (¬ (((p0.xMove : Nat) : Int) = 0))) _ _ ⟨H170, (show (if r161 = true then false else decide (¬ (((p0.xMove : Nat) : Int) = 0))) = decide (¬ (((p0.xMove : Nat) : Int) = 0)) from ifF h168)⟩ ⟨rfl, rfl, rfl, rfl, rfl, rfl, rfl, rfl, rfl, rfl, rfl, rfl, rfl, rfl, rfl, rfl, trivial⟩
 rintro b166 w171 ⟨H172, hj173⟩
 show WL _ _ _ (List.drop 6 _) _ [(23, .bool b166), (17, .bool (!r161)), (16, .bool (!r161)), (15, .bool r161), (14, .int .u8 109), (13, .int .i64 p0.xKind), (12, .pointer (some ⟨g21, 0, none⟩)), (4, .int .u8 109), (11, .int .u8 109), (10, .pointer (some ⟨ab A24, ao A24 + 6 * 1, none⟩)), (9, .bool true), (8, .int .i64 6), (7, .int .i64 9), (6, .slice A24 9 9), (2, .bool false), (1, .pointer (some ⟨g21, 0, none⟩))] _
 replace hj173 : (if r161 = true then false else decide (¬ (((p0.xMove : Nat) : Int) = 0))) = b166 := hj173
 refine nt ?_
 rcases Bool.eq_false_or_eq_true (b166) with h174 | h174
 refine jT h174 (sr (An rfl (rt (bR (tR (tR (bR (tR (rs ?_)))))))))
 have H175 := H172.pk []
 obtain rfl : _ = false := hr.symm.trans (et (bnd_of hr36) (et (bnd_of hj47) (et (ifF h48) (et (bnd_of hr57) (et (bnd_of hj68) (et (ifF h69) (et (bnd_of hr78) (et (bnd_of hj89) (et (ifF h90) (et (bnd_of hr99) (et (bnd_of hj110) (et (ifF h111) (et (bnd_of hr120) (et (bnd_of hj131) (et (ifF h132) (et (bnd_of hr141) (et (bnd_of hj152) (et (ifF h153) (et (bnd_of hr162) (et (bnd_of hj173) (ip h174)))))))))))))))))))))
 exact ⟨rfl, H175⟩
 refine jF h174 (Wp.skip (bN (Fin.then (Wp.region (Kz (.int .i64 7) (Mz rfl (WL.nil (Fin.again [(8, .int .i64 7), (7, .int .i64 9), (6, .slice A24 9 9), (2, .bool false), (1, .pointer (some ⟨g21, 0, none⟩))] ⟨rfl, rfl, rfl, rfl, rfl, trivial⟩ (sr (Kz (.bool true) (nt (Wp.seq (jt (sk (Wp.seq (bo (sr ?_)))))))))))))))))
 have hx176 : ([113, 98, 116, 108, 118, 101, 109, 97, 110] : List UInt8)[7]? = some 97 := rfl
 refine fw (.pointer (some ⟨ab A24, ao A24 + 7 * 1, none⟩)) (Yl.indexAddr (El31) rfl rfl ((H172.rds (i := 0) rfl).addr (i := 7) (by omega)) (by omega)) (fw (.int .u8 97) (Yl.load rfl (Lds.one Tryz.isAgg5 (((H172.rds (i := 0) rfl).elem eB_len hx176 (by decide)).at_ (k := 0) rfl))) (Ar rfl (Kz (.pointer (some ⟨g21, 0, none⟩)) (Lz (.int .i64 p0.xKind) H172 1 Tryz.isAgg3 (Mz rfl ?_)))))
 obtain ⟨r182, hr183⟩ : ∃ q, r18_has p0.xKind (97 : UInt8) = q := ⟨_, rfl⟩
 obtain ⟨D177, HP178, ro179, bk180, rr181⟩ := Own.enter0 H172
 refine cl Tryz.call73 (r18_has_ok _ _ p0.xKind (97 : UInt8) r182 HP178 hr183) ?_
 rintro _ w184 ⟨rfl, HQ185⟩
 have H186 := bk180 _ _ HQ185
 refine Kz (.bool (!r182)) (Mz rfl ?_)
 refine WL.cutJ (ι := Bool) 6 (fun i => [(23, .bool i), (17, .bool (!r182)), (16, .bool (!r182)), (15, .bool r182), (14, .int .u8 97), (13, .int .i64 p0.xKind), (12, .pointer (some ⟨g21, 0, none⟩)), (4, .int .u8 97), (11, .int .u8 97), (10, .pointer (some ⟨ab A24, ao A24 + 7 * 1, none⟩)), (9, .bool true), (8, .int .i64 7), (7, .int .i64 9), (6, .slice A24 9 9), (2, .bool false), (1, .pointer (some ⟨g21, 0, none⟩))]) (fun i w' => Own w D w' [row A24 9 9 (List.flatMap eB ([113, 98, 116, 108, 118, 101, 109, 97, 110])) 5 1, blk g21 (MsgP p0 A0x0 c0x0 A0x1 c0x1 A0x2 c0x2) 29] ∧ ((if r182 = true then false else decide (¬ (((p0.xAttempt : Nat) : Int) = 0))) = i)) ?_ ?_
 intro hK188
 rcases Bool.eq_false_or_eq_true (r182) with h189 | h189
 refine Sz (cn h189) (Sz (cn h189) (Sz (cn h189) (Sz (cn h189) (Sz (cn h189) (fw (.bool false) (Yl.pickF rfl (cn h189) rfl) ?_)))))
 have H190 := H186.pk [0, 1]
 exact hK188 false _ _ ⟨H190, (show (if r182 = true then false else decide (¬ (((p0.xAttempt : Nat) : Int) = 0))) = false from ip h189)⟩ ⟨rfl, rfl, rfl, rfl, rfl, rfl, rfl, rfl, rfl, rfl, rfl, rfl, rfl, rfl, rfl, rfl, trivial⟩
 refine gw (.int .u8 97) (cn h189) (Yl.move rfl) ?_
 refine WL.doG rfl rfl (cn h189) rfl (Do.call Tryz.call47 rfl ?_ (fun _ _ k => k))
 refine Calls.body (args := [.pointer (some ⟨g21, 0, none⟩), .int .u8 97]) Tryz.func47 rfl rfl rfl ?_
 show Wp _ _ _ [(0, .pointer (some ⟨g21, 0, none⟩)), (1, .int .u8 97)] _ _
 refine sr (An rfl (Wp.seq (sr (Mn rfl (bo (sr (Kz (.bool false) (An rfl (jf (sr (Kz (.bool false) (An rfl (jf (sr (Kz (.bool false) (An rfl (jf (sr (Kz (.bool false) (An rfl (jf ?_)))))))))))))))))))))
 refine sr (Kz (.bool false) (An rfl (jf (sr (Kz (.bool false) (An rfl (jf (sr (Kz (.bool false) (An rfl (jf (sr (Kz (.bool true) (An rfl (jt (sr (Mz rfl (Kz (.pointer (some ⟨g21, 0, none⟩)) (Kz (.pointer (some ⟨g21, 13, none⟩)) (An rfl (rt (bR (tR (rs ?_))))))))))))))))))))))))
 refine Gz (.pointer (some ⟨g21, 13, none⟩)) (cn h189) (Gl (.int .u64 ((p0.xAttempt : Nat) : Int)) (cn h189) H186 1 Tryz.isAgg22 (gw (.bool (decide (¬ (((p0.xAttempt : Nat) : Int) = 0)))) (cn h189) (Yl.bool (e := !(decide (((p0.xAttempt : Nat) : Int) = 0))) yk decide_not.symm) (fw (.bool (decide (¬ (((p0.xAttempt : Nat) : Int) = 0)))) (Yl.pickT rfl (cn h189) rfl) ?_)))
 have H191 := H186.pk [0, 1]
 exact hK188 (decide (¬ (((p0.xAttempt : Nat) : Int) = 0))) _ _ ⟨H191, (show (if r182 = true then false else decide (¬ (((p0.xAttempt : Nat) : Int) = 0))) = decide (¬ (((p0.xAttempt : Nat) : Int) = 0)) from ifF h189)⟩ ⟨rfl, rfl, rfl, rfl, rfl, rfl, rfl, rfl, rfl, rfl, rfl, rfl, rfl, rfl, rfl, rfl, trivial⟩
 rintro b187 w192 ⟨H193, hj194⟩
 show WL _ _ _ (List.drop 6 _) _ [(23, .bool b187), (17, .bool (!r182)), (16, .bool (!r182)), (15, .bool r182), (14, .int .u8 97), (13, .int .i64 p0.xKind), (12, .pointer (some ⟨g21, 0, none⟩)), (4, .int .u8 97), (11, .int .u8 97), (10, .pointer (some ⟨ab A24, ao A24 + 7 * 1, none⟩)), (9, .bool true), (8, .int .i64 7), (7, .int .i64 9), (6, .slice A24 9 9), (2, .bool false), (1, .pointer (some ⟨g21, 0, none⟩))] _
 replace hj194 : (if r182 = true then false else decide (¬ (((p0.xAttempt : Nat) : Int) = 0))) = b187 := hj194
 refine nt ?_
 rcases Bool.eq_false_or_eq_true (b187) with h195 | h195
 refine jT h195 (sr (An rfl (rt (bR (tR (tR (bR (tR (rs ?_)))))))))
 have H196 := H193.pk []
 obtain rfl : _ = false := hr.symm.trans (et (bnd_of hr36) (et (bnd_of hj47) (et (ifF h48) (et (bnd_of hr57) (et (bnd_of hj68) (et (ifF h69) (et (bnd_of hr78) (et (bnd_of hj89) (et (ifF h90) (et (bnd_of hr99) (et (bnd_of hj110) (et (ifF h111) (et (bnd_of hr120) (et (bnd_of hj131) (et (ifF h132) (et (bnd_of hr141) (et (bnd_of hj152) (et (ifF h153) (et (bnd_of hr162) (et (bnd_of hj173) (et (ifF h174) (et (bnd_of hr183) (et (bnd_of hj194) (ip h195))))))))))))))))))))))))
 exact ⟨rfl, H196⟩
 refine jF h195 (Wp.skip (bN (Fin.then (Wp.region (Kz (.int .i64 8) (Mz rfl (WL.nil (Fin.again [(8, .int .i64 8), (7, .int .i64 9), (6, .slice A24 9 9), (2, .bool false), (1, .pointer (some ⟨g21, 0, none⟩))] ⟨rfl, rfl, rfl, rfl, rfl, trivial⟩ (sr (Kz (.bool true) (nt (Wp.seq (jt (sk (Wp.seq (bo (sr ?_)))))))))))))))))
 have hx197 : ([113, 98, 116, 108, 118, 101, 109, 97, 110] : List UInt8)[8]? = some 110 := rfl
 refine fw (.pointer (some ⟨ab A24, ao A24 + 8 * 1, none⟩)) (Yl.indexAddr (El31) rfl rfl ((H193.rds (i := 0) rfl).addr (i := 8) (by omega)) (by omega)) (fw (.int .u8 110) (Yl.load rfl (Lds.one Tryz.isAgg5 (((H193.rds (i := 0) rfl).elem eB_len hx197 (by decide)).at_ (k := 0) rfl))) (Ar rfl (Kz (.pointer (some ⟨g21, 0, none⟩)) (Lz (.int .i64 p0.xKind) H193 1 Tryz.isAgg3 (Mz rfl ?_)))))
 obtain ⟨r203, hr204⟩ : ∃ q, r18_has p0.xKind (110 : UInt8) = q := ⟨_, rfl⟩
 obtain ⟨D198, HP199, ro200, bk201, rr202⟩ := Own.enter0 H193
 refine cl Tryz.call73 (r18_has_ok _ _ p0.xKind (110 : UInt8) r203 HP199 hr204) ?_
 rintro _ w205 ⟨rfl, HQ206⟩
 have H207 := bk201 _ _ HQ206
 refine Kz (.bool (!r203)) (Mz rfl ?_)
 refine WL.cutJ (ι := Bool) 6 (fun i => [(23, .bool i), (17, .bool (!r203)), (16, .bool (!r203)), (15, .bool r203), (14, .int .u8 110), (13, .int .i64 p0.xKind), (12, .pointer (some ⟨g21, 0, none⟩)), (4, .int .u8 110), (11, .int .u8 110), (10, .pointer (some ⟨ab A24, ao A24 + 8 * 1, none⟩)), (9, .bool true), (8, .int .i64 8), (7, .int .i64 9), (6, .slice A24 9 9), (2, .bool false), (1, .pointer (some ⟨g21, 0, none⟩))]) (fun i w' => Own w D w' [row A24 9 9 (List.flatMap eB ([113, 98, 116, 108, 118, 101, 109, 97, 110])) 5 1, blk g21 (MsgP p0 A0x0 c0x0 A0x1 c0x1 A0x2 c0x2) 29] ∧ ((if r203 = true then false else decide (¬ (((p0.xN : Nat) : Int) = 0))) = i)) ?_ ?_
 intro hK209
 rcases Bool.eq_false_or_eq_true (r203) with h210 | h210
 refine Sz (cn h210) (Sz (cn h210) (Sz (cn h210) (Sz (cn h210) (Sz (cn h210) (fw (.bool false) (Yl.pickF rfl (cn h210) rfl) ?_)))))
 have H211 := H207.pk [0, 1]
 exact hK209 false _ _ ⟨H211, (show (if r203 = true then false else decide (¬ (((p0.xN : Nat) : Int) = 0))) = false from ip h210)⟩ ⟨rfl, rfl, rfl, rfl, rfl, rfl, rfl, rfl, rfl, rfl, rfl, rfl, rfl, rfl, rfl, rfl, trivial⟩
 refine gw (.int .u8 110) (cn h210) (Yl.move rfl) ?_
 refine WL.doG rfl rfl (cn h210) rfl (Do.call Tryz.call47 rfl ?_ (fun _ _ k => k))
 refine Calls.body (args := [.pointer (some ⟨g21, 0, none⟩), .int .u8 110]) Tryz.func47 rfl rfl rfl ?_
 show Wp _ _ _ [(0, .pointer (some ⟨g21, 0, none⟩)), (1, .int .u8 110)] _ _
 refine sr (An rfl (Wp.seq (sr (Mn rfl (bo (sr (Kz (.bool false) (An rfl (jf (sr (Kz (.bool false) (An rfl (jf (sr (Kz (.bool false) (An rfl (jf (sr (Kz (.bool false) (An rfl (jf ?_)))))))))))))))))))))
 refine sr (Kz (.bool false) (An rfl (jf (sr (Kz (.bool false) (An rfl (jf (sr (Kz (.bool false) (An rfl (jf (sr (Kz (.bool false) (An rfl (jf (sr (Kz (.bool true) (An rfl (jt (sr (Mz rfl (Kz (.pointer (some ⟨g21, 0, none⟩)) (Kz (.pointer (some ⟨g21, 14, none⟩)) ?_)))))))))))))))))))))))
 refine An rfl (rt (bR (tR (rs (Gz (.pointer (some ⟨g21, 14, none⟩)) (cn h210) (Gl (.int .u64 ((p0.xN : Nat) : Int)) (cn h210) H207 1 Tryz.isAgg22 (gw (.bool (decide (¬ (((p0.xN : Nat) : Int) = 0)))) (cn h210) (Yl.bool (e := !(decide (((p0.xN : Nat) : Int) = 0))) yk decide_not.symm) (fw (.bool (decide (¬ (((p0.xN : Nat) : Int) = 0)))) (Yl.pickT rfl (cn h210) rfl) ?_))))))))
 have H212 := H207.pk [0, 1]
 exact hK209 (decide (¬ (((p0.xN : Nat) : Int) = 0))) _ _ ⟨H212, (show (if r203 = true then false else decide (¬ (((p0.xN : Nat) : Int) = 0))) = decide (¬ (((p0.xN : Nat) : Int) = 0)) from ifF h210)⟩ ⟨rfl, rfl, rfl, rfl, rfl, rfl, rfl, rfl, rfl, rfl, rfl, rfl, rfl, rfl, rfl, rfl, trivial⟩
 rintro b208 w213 ⟨H214, hj215⟩
 show WL _ _ _ (List.drop 6 _) _ [(23, .bool b208), (17, .bool (!r203)), (16, .bool (!r203)), (15, .bool r203), (14, .int .u8 110), (13, .int .i64 p0.xKind), (12, .pointer (some ⟨g21, 0, none⟩)), (4, .int .u8 110), (11, .int .u8 110), (10, .pointer (some ⟨ab A24, ao A24 + 8 * 1, none⟩)), (9, .bool true), (8, .int .i64 8), (7, .int .i64 9), (6, .slice A24 9 9), (2, .bool false), (1, .pointer (some ⟨g21, 0, none⟩))] _
 replace hj215 : (if r203 = true then false else decide (¬ (((p0.xN : Nat) : Int) = 0))) = b208 := hj215
 refine nt ?_
 rcases Bool.eq_false_or_eq_true (b208) with h216 | h216
 refine jT h216 (sr (An rfl (rt (bR (tR (tR (bR (tR (rs ?_)))))))))
 have H217 := H214.pk []
 obtain rfl : _ = false := hr.symm.trans (et (bnd_of hr36) (et (bnd_of hj47) (et (ifF h48) (et (bnd_of hr57) (et (bnd_of hj68) (et (ifF h69) (et (bnd_of hr78) (et (bnd_of hj89) (et (ifF h90) (et (bnd_of hr99) (et (bnd_of hj110) (et (ifF h111) (et (bnd_of hr120) (et (bnd_of hj131) (et (ifF h132) (et (bnd_of hr141) (et (bnd_of hj152) (et (ifF h153) (et (bnd_of hr162) (et (bnd_of hj173) (et (ifF h174) (et (bnd_of hr183) (et (bnd_of hj194) (et (ifF h195) (et (bnd_of hr204) (et (bnd_of hj215) (ip h216)))))))))))))))))))))))))))
 exact ⟨rfl, H217⟩
 refine jF h216 (Wp.skip (bN (Fin.then (Wp.region (Kz (.int .i64 9) (Mz rfl (WL.nil (Fin.again [(8, .int .i64 9), (7, .int .i64 9), (6, .slice A24 9 9), (2, .bool false), (1, .pointer (some ⟨g21, 0, none⟩))] ⟨rfl, rfl, rfl, rfl, rfl, trivial⟩ (sr (Kz (.bool false) (nt (Wp.seq (jf (Wp.exit (Fin.thenX (Fin.thenX (Fin.blockX (Fin.then (Wp.seq ?_)))))))))))))))))))
 have H218 := H214.pk [1]
 refine Wp.region (Kz (.pointer (some ⟨g21, 3, none⟩)) (Lz (.int .i64 p0.xClient) H218 0 Tryz.isAgg3 (Kz (.bool (decide (p0.xClient = 0))) (Mz rfl ?_))))
 refine WL.cutJ (ι := Bool) 9 (fun i => [(37, .bool i), (28, .bool (decide (p0.xClient = 0))), (27, .bool (decide (p0.xClient = 0))), (26, .int .i64 p0.xClient), (25, .pointer (some ⟨g21, 3, none⟩)), (9, .bool false), (8, .int .i64 9), (7, .int .i64 9), (6, .slice A24 9 9), (2, .bool false), (1, .pointer (some ⟨g21, 0, none⟩))]) (fun i w' => Own w D w' [blk g21 (MsgP p0 A0x0 c0x0 A0x1 c0x1 A0x2 c0x2) 29] ∧ ((if p0.xClient = 0 then bnd (r18_has p0.xKind (99 : UInt8)) fun yr227 => if yr227 = true then true else decide (p0.xCode = 0) else false) = i)) ?_ ?_
 intro hK220
 by_cases h221 : p0.xClient = 0
 refine Gz (.pointer (some ⟨g21, 0, none⟩)) (dT h221) (Gl (.int .i64 p0.xKind) (dT h221) H218 0 Tryz.isAgg3 ?_)
 obtain ⟨r227, hr228⟩ : ∃ q, r18_has p0.xKind (99 : UInt8) = q := ⟨_, rfl⟩
 obtain ⟨D222, HP223, ro224, bk225, rr226⟩ := Own.enter0 H218
 refine clG (dT h221) Tryz.call73 (r18_has_ok _ _ p0.xKind (99 : UInt8) r227 HP223 hr228) ?_
 rintro _ w229 ⟨rfl, HQ230⟩
 have H231 := bk225 _ _ HQ230
 refine gw (.bool r227) (dT h221) (Yl.move rfl) ?_
 rcases Bool.eq_false_or_eq_true (r227) with h232 | h232
 refine Sz h232 (Sz h232 (Sz h232 (gw (.bool true) (dT h221) (Yl.pickT rfl h232 rfl) (fw (.bool true) (Yl.pickT rfl (dT h221) rfl) ?_))))
 have H233 := H231.pk [0]
 exact hK220 true _ _ ⟨H233, (show (if p0.xClient = 0 then bnd (r18_has p0.xKind (99 : UInt8)) fun yr227 => if yr227 = true then true else decide (p0.xCode = 0) else false) = true from et (ip h221) (et (bnd_of hr228) (ip h232)))⟩ ⟨rfl, rfl, rfl, rfl, rfl, rfl, rfl, rfl, rfl, rfl, rfl, trivial⟩
 refine Gz (.pointer (some ⟨g21, 4, none⟩)) h232 (Gl (.int .i64 p0.xCode) h232 H231 0 Tryz.isAgg3 (Gz (.bool (decide (p0.xCode = 0))) h232 (gw (.bool (decide (p0.xCode = 0))) (dT h221) (Yl.pickF rfl h232 rfl) (fw (.bool (decide (p0.xCode = 0))) (Yl.pickT rfl (dT h221) rfl) ?_))))
 have H234 := H231.pk [0]
 exact hK220 (decide (p0.xCode = 0)) _ _ ⟨H234, (show (if p0.xClient = 0 then bnd (r18_has p0.xKind (99 : UInt8)) fun yr227 => if yr227 = true then true else decide (p0.xCode = 0) else false) = decide (p0.xCode = 0) from et (ip h221) (et (bnd_of hr228) (ifF h232)))⟩ ⟨rfl, rfl, rfl, rfl, rfl, rfl, rfl, rfl, rfl, rfl, rfl, trivial⟩
 refine Sz (dF h221) (Sz (dF h221) (Sz (dF h221) (Sz (dF h221) (WL.skipU rfl rfl rfl (WL.skipU rfl rfl rfl (WL.skipU rfl rfl rfl (Sz (dF h221) (fw (.bool false) (Yl.pickF rfl (dF h221) rfl) ?_))))))))
 have H235 := H218.pk [0]
 exact hK220 false _ _ ⟨H235, (show (if p0.xClient = 0 then bnd (r18_has p0.xKind (99 : UInt8)) fun yr227 => if yr227 = true then true else decide (p0.xCode = 0) else false) = false from iN h221)⟩ ⟨rfl, rfl, rfl, rfl, rfl, rfl, rfl, rfl, rfl, rfl, rfl, trivial⟩
 rintro b219 w236 ⟨H237, hj238⟩
 show WL _ _ _ (List.drop 9 _) _ [(37, .bool b219), (28, .bool (decide (p0.xClient = 0))), (27, .bool (decide (p0.xClient = 0))), (26, .int .i64 p0.xClient), (25, .pointer (some ⟨g21, 3, none⟩)), (9, .bool false), (8, .int .i64 9), (7, .int .i64 9), (6, .slice A24 9 9), (2, .bool false), (1, .pointer (some ⟨g21, 0, none⟩))] _
 replace hj238 : (if p0.xClient = 0 then bnd (r18_has p0.xKind (99 : UInt8)) fun yr227 => if yr227 = true then true else decide (p0.xCode = 0) else false) = b219 := hj238
 refine Mz rfl ?_
 refine WL.cutJ (ι := Bool) 9 (fun i => [(47, .bool i), (38, .bool b219), (37, .bool b219), (28, .bool (decide (p0.xClient = 0))), (27, .bool (decide (p0.xClient = 0))), (26, .int .i64 p0.xClient), (25, .pointer (some ⟨g21, 3, none⟩)), (9, .bool false), (8, .int .i64 9), (7, .int .i64 9), (6, .slice A24 9 9), (2, .bool false), (1, .pointer (some ⟨g21, 0, none⟩))]) (fun i w' => Own w D w' [blk g21 (MsgP p0 A0x0 c0x0 A0x1 c0x1 A0x2 c0x2) 29] ∧ ((if b219 = true then bnd (r18_has p0.xKind (112 : UInt8)) fun yr247 => if yr247 = true then true else decide (p0.xPeer = 0) else false) = i)) ?_ ?_
 intro hK240
 rcases Bool.eq_false_or_eq_true (b219) with h241 | h241
 refine Gz (.pointer (some ⟨g21, 0, none⟩)) h241 (Gl (.int .i64 p0.xKind) h241 H237 0 Tryz.isAgg3 ?_)
 obtain ⟨r247, hr248⟩ : ∃ q, r18_has p0.xKind (112 : UInt8) = q := ⟨_, rfl⟩
 obtain ⟨D242, HP243, ro244, bk245, rr246⟩ := Own.enter0 H237
 refine WL.doG rfl rfl h241 rfl (Do.call Tryz.call73 rfl (r18_has_ok _ _ p0.xKind (112 : UInt8) r247 HP243 hr248) ?_)
 rintro _ w249 ⟨rfl, HQ250⟩
 have H251 := bk245 _ _ HQ250
 refine WL.valG (v := .bool r247) rfl rfl h241 rfl (Yl.move rfl) ?_
 rcases Bool.eq_false_or_eq_true (r247) with h252 | h252
 refine Sz h252 (Sz h252 (Sz h252 (WL.valG (v := .bool true) rfl rfl h241 rfl (Yl.pickT rfl h252 rfl) (fw (.bool true) (Yl.pickT rfl h241 rfl) ?_))))
 have H253 := H251.pk [0]
 exact hK240 true _ _ ⟨H253, (show (if b219 = true then bnd (r18_has p0.xKind (112 : UInt8)) fun yr247 => if yr247 = true then true else decide (p0.xPeer = 0) else false) = true from et (ip h241) (et (bnd_of hr248) (ip h252)))⟩ ⟨rfl, rfl, rfl, rfl, rfl, rfl, rfl, rfl, rfl, rfl, rfl, rfl, rfl, trivial⟩
 refine Gz (.pointer (some ⟨g21, 5, none⟩)) h252 (Gl (.int .i64 p0.xPeer) h252 H251 0 Tryz.isAgg3 (Gz (.bool (decide (p0.xPeer = 0))) h252 (WL.valG (v := .bool (decide (p0.xPeer = 0))) rfl rfl h241 rfl (Yl.pickF rfl h252 rfl) (fw (.bool (decide (p0.xPeer = 0))) (Yl.pickT rfl h241 rfl) ?_))))
 have H254 := H251.pk [0]
 exact hK240 (decide (p0.xPeer = 0)) _ _ ⟨H254, (show (if b219 = true then bnd (r18_has p0.xKind (112 : UInt8)) fun yr247 => if yr247 = true then true else decide (p0.xPeer = 0) else false) = decide (p0.xPeer = 0) from et (ip h241) (et (bnd_of hr248) (ifF h252)))⟩ ⟨rfl, rfl, rfl, rfl, rfl, rfl, rfl, rfl, rfl, rfl, rfl, rfl, rfl, trivial⟩
 refine Sz h241 (Sz h241 (Sz h241 (Sz h241 (WL.skipU rfl rfl rfl (WL.skipU rfl rfl rfl (WL.skipU rfl rfl rfl (Sz h241 (fw (.bool false) (Yl.pickF rfl h241 rfl) ?_))))))))
 have H255 := H237.pk [0]
 exact hK240 false _ _ ⟨H255, (show (if b219 = true then bnd (r18_has p0.xKind (112 : UInt8)) fun yr247 => if yr247 = true then true else decide (p0.xPeer = 0) else false) = false from ifF h241)⟩ ⟨rfl, rfl, rfl, rfl, rfl, rfl, rfl, rfl, rfl, rfl, rfl, rfl, rfl, trivial⟩
 rintro b239 w256 ⟨H257, hj258⟩
 show WL _ _ _ (List.drop 9 _) _ [(47, .bool b239), (38, .bool b219), (37, .bool b219), (28, .bool (decide (p0.xClient = 0))), (27, .bool (decide (p0.xClient = 0))), (26, .int .i64 p0.xClient), (25, .pointer (some ⟨g21, 3, none⟩)), (9, .bool false), (8, .int .i64 9), (7, .int .i64 9), (6, .slice A24 9 9), (2, .bool false), (1, .pointer (some ⟨g21, 0, none⟩))] _
 replace hj258 : (if b219 = true then bnd (r18_has p0.xKind (112 : UInt8)) fun yr247 => if yr247 = true then true else decide (p0.xPeer = 0) else false) = b239 := hj258
 refine Mz rfl ?_
 refine WL.cutJ (ι := Bool) 9 (fun i => [(57, .bool i), (48, .bool b239), (47, .bool b239), (38, .bool b219), (37, .bool b219), (28, .bool (decide (p0.xClient = 0))), (27, .bool (decide (p0.xClient = 0))), (26, .int .i64 p0.xClient), (25, .pointer (some ⟨g21, 3, none⟩)), (9, .bool false), (8, .int .i64 9), (7, .int .i64 9), (6, .slice A24 9 9), (2, .bool false), (1, .pointer (some ⟨g21, 0, none⟩))]) (fun i w' => Own w D w' [blk g21 (MsgP p0 A0x0 c0x0 A0x1 c0x1 A0x2 c0x2) 29] ∧ ((if b239 = true then bnd (r18_has p0.xKind (102 : UInt8)) fun yr267 => if yr267 = true then true else !p0.xFlag else false) = i)) ?_ ?_
 intro hK260
 rcases Bool.eq_false_or_eq_true (b239) with h261 | h261
 refine Gz (.pointer (some ⟨g21, 0, none⟩)) h261 (Gl (.int .i64 p0.xKind) h261 H257 0 Tryz.isAgg3 ?_)
 obtain ⟨r267, hr268⟩ : ∃ q, r18_has p0.xKind (102 : UInt8) = q := ⟨_, rfl⟩
 obtain ⟨D262, HP263, ro264, bk265, rr266⟩ := Own.enter0 H257
 refine WL.doG rfl rfl h261 rfl (Do.call Tryz.call73 rfl (r18_has_ok _ _ p0.xKind (102 : UInt8) r267 HP263 hr268) ?_)
 rintro _ w269 ⟨rfl, HQ270⟩
 have H271 := bk265 _ _ HQ270
 refine WL.valG (v := .bool r267) rfl rfl h261 rfl (Yl.move rfl) ?_
 rcases Bool.eq_false_or_eq_true (r267) with h272 | h272
 refine Sz h272 (Sz h272 (Sz h272 (WL.valG (v := .bool true) rfl rfl h261 rfl (Yl.pickT rfl h272 rfl) (fw (.bool true) (Yl.pickT rfl h261 rfl) ?_))))
 have H273 := H271.pk [0]
 exact hK260 true _ _ ⟨H273, (show (if b239 = true then bnd (r18_has p0.xKind (102 : UInt8)) fun yr267 => if yr267 = true then true else !p0.xFlag else false) = true from et (ip h261) (et (bnd_of hr268) (ip h272)))⟩ ⟨rfl, rfl, rfl, rfl, rfl, rfl, rfl, rfl, rfl, rfl, rfl, rfl, rfl, rfl, rfl, trivial⟩
 refine Gz (.pointer (some ⟨g21, 15, none⟩)) h272 (Gl (.bool p0.xFlag) h272 H271 0 Tryz.isAgg4 (Gz (.bool (!p0.xFlag)) h272 (WL.valG (v := .bool (!p0.xFlag)) rfl rfl h261 rfl (Yl.pickF rfl h272 rfl) (fw (.bool (!p0.xFlag)) (Yl.pickT rfl h261 rfl) ?_))))
 have H274 := H271.pk [0]
 exact hK260 (!p0.xFlag) _ _ ⟨H274, (show (if b239 = true then bnd (r18_has p0.xKind (102 : UInt8)) fun yr267 => if yr267 = true then true else !p0.xFlag else false) = !p0.xFlag from et (ip h261) (et (bnd_of hr268) (ifF h272)))⟩ ⟨rfl, rfl, rfl, rfl, rfl, rfl, rfl, rfl, rfl, rfl, rfl, rfl, rfl, rfl, rfl, trivial⟩
 refine Sz h261 (Sz h261 (Sz h261 (Sz h261 (WL.skipU rfl rfl rfl (WL.skipU rfl rfl rfl (WL.skipU rfl rfl rfl (Sz h261 (fw (.bool false) (Yl.pickF rfl h261 rfl) ?_))))))))
 have H275 := H257.pk [0]
 exact hK260 false _ _ ⟨H275, (show (if b239 = true then bnd (r18_has p0.xKind (102 : UInt8)) fun yr267 => if yr267 = true then true else !p0.xFlag else false) = false from ifF h261)⟩ ⟨rfl, rfl, rfl, rfl, rfl, rfl, rfl, rfl, rfl, rfl, rfl, rfl, rfl, rfl, rfl, trivial⟩
 rintro b259 w276 ⟨H277, hj278⟩
 show WL _ _ _ (List.drop 9 _) _ [(57, .bool b259), (48, .bool b239), (47, .bool b239), (38, .bool b219), (37, .bool b219), (28, .bool (decide (p0.xClient = 0))), (27, .bool (decide (p0.xClient = 0))), (26, .int .i64 p0.xClient), (25, .pointer (some ⟨g21, 3, none⟩)), (9, .bool false), (8, .int .i64 9), (7, .int .i64 9), (6, .slice A24 9 9), (2, .bool false), (1, .pointer (some ⟨g21, 0, none⟩))] _
 replace hj278 : (if b239 = true then bnd (r18_has p0.xKind (102 : UInt8)) fun yr267 => if yr267 = true then true else !p0.xFlag else false) = b259 := hj278
 refine Mz rfl ?_
 refine WL.cutJ (ι := Bool) 10 (fun i => [(68, .bool i), (58, .bool b259), (57, .bool b259), (48, .bool b239), (47, .bool b239), (38, .bool b219), (37, .bool b219), (28, .bool (decide (p0.xClient = 0))), (27, .bool (decide (p0.xClient = 0))), (26, .int .i64 p0.xClient), (25, .pointer (some ⟨g21, 3, none⟩)), (9, .bool false), (8, .int .i64 9), (7, .int .i64 9), (6, .slice A24 9 9), (2, .bool false), (1, .pointer (some ⟨g21, 0, none⟩))]) (fun i w' => Own w D w' [blk g21 (MsgP p0 A0x0 c0x0 A0x1 c0x1 A0x2 c0x2) 29] ∧ ((if b259 = true then bnd (r18_has p0.xKind (114 : UInt8)) fun yr287 => if yr287 = true then true else decide ((p0.xRange.xLo = ([])) ∧ (p0.xRange.xHi = ([]))) else false) = i)) ?_ ?_
 intro hK280
 rcases Bool.eq_false_or_eq_true (b259) with h281 | h281
 refine Gz (.pointer (some ⟨g21, 0, none⟩)) h281 (Gl (.int .i64 p0.xKind) h281 H277 0 Tryz.isAgg3 ?_)
 obtain ⟨r287, hr288⟩ : ∃ q, r18_has p0.xKind (114 : UInt8) = q := ⟨_, rfl⟩
 obtain ⟨D282, HP283, ro284, bk285, rr286⟩ := Own.enter0 H277
 refine WL.doG rfl rfl h281 rfl (Do.call Tryz.call73 rfl (r18_has_ok _ _ p0.xKind (114 : UInt8) r287 HP283 hr288) ?_)
 rintro _ w289 ⟨rfl, HQ290⟩
 have H291 := bk285 _ _ HQ290
 refine WL.valG (v := .bool r287) rfl rfl h281 rfl (Yl.move rfl) ?_
 rcases Bool.eq_false_or_eq_true (r287) with h292 | h292
 refine Sz h292 (Sz h292 (Sz h292 (Sz h292 (WL.valG (v := .bool true) rfl rfl h281 rfl (Yl.pickT rfl h292 rfl) (fw (.bool true) (Yl.pickT rfl h281 rfl) ?_)))))
 have H293 := H291.pk [0]
 exact hK280 true _ _ ⟨H293, (show (if b259 = true then bnd (r18_has p0.xKind (114 : UInt8)) fun yr287 => if yr287 = true then true else decide ((p0.xRange.xLo = ([])) ∧ (p0.xRange.xHi = ([]))) else false) = true from et (ip h281) (et (bnd_of hr288) (ip h292)))⟩ ⟨rfl, rfl, rfl, rfl, rfl, rfl, rfl, rfl, rfl, rfl, rfl, rfl, rfl, rfl, rfl, rfl, rfl, trivial⟩
 refine Gz (.pointer (some ⟨g21, 16, none⟩)) h292 (Ga (RangeD.cells p0.xRange) h292 H291 0 Tryz.isAgg24 Tryz.sizeOf24 (Gz (.agg #[.string ⟨List.toArray ([])⟩, .string ⟨List.toArray ([])⟩]) h292 (WL.valG (v := .bool (decide ((p0.xRange.xLo = ([])) ∧ (p0.xRange.xHi = ([]))))) rfl rfl h292 rfl (Yl.eqAgg rfl rfl (by kernel_rfl) rfl (Eqv.struct Tryz.underlying24 (by kernel_rfl) (EqF.dec (EqF.cons (u := .string ⟨List.toArray p0.xRange.xLo⟩) (v := .string ⟨List.toArray ([])⟩) (by decide) (fun _ => by kernel_rfl) (fun _ => by kernel_rfl) (Eqv.string Tryz.underlying9) (EqF.cons (u := .string ⟨List.toArray p0.xRange.xHi⟩) (v := .string ⟨List.toArray ([])⟩) (by decide) (fun _ => by kernel_rfl) (fun _ => by kernel_rfl) (Eqv.string Tryz.underlying9) (EqF.nil.up (Nat.zero_le _)))) ((congrArg (decide (p0.xRange.xLo = ([])) && ·) and_dec1).trans and_dec)))) (WL.valG (v := .bool (decide ((p0.xRange.xLo = ([])) ∧ (p0.xRange.xHi = ([]))))) rfl rfl h281 rfl (Yl.pickF rfl h292 rfl) (fw (.bool (decide ((p0.xRange.xLo = ([])) ∧ (p0.xRange.xHi = ([]))))) (Yl.pickT rfl h281 rfl) ?_)))))
 have H294 := H291.pk [0]
 exact hK280 (decide ((p0.xRange.xLo = ([])) ∧ (p0.xRange.xHi = ([])))) _ _ ⟨H294, (show (if b259 = true then bnd (r18_has p0.xKind (114 : UInt8)) fun yr287 => if yr287 = true then true else decide ((p0.xRange.xLo = ([])) ∧ (p0.xRange.xHi = ([]))) else false) = decide ((p0.xRange.xLo = ([])) ∧ (p0.xRange.xHi = ([]))) from et (ip h281) (et (bnd_of hr288) (ifF h292)))⟩ ⟨rfl, rfl, rfl, rfl, rfl, rfl, rfl, rfl, rfl, rfl, rfl, rfl, rfl, rfl, rfl, rfl, rfl, trivial⟩
 refine Sz h281 (Sz h281 (Sz h281 (Sz h281 (WL.skipU rfl rfl rfl (WL.skipU rfl rfl rfl (WL.skipU rfl rfl rfl (WL.skipU rfl rfl rfl (Sz h281 (fw (.bool false) (Yl.pickF rfl h281 rfl) ?_)))))))))
 have H295 := H277.pk [0]
 exact hK280 false _ _ ⟨H295, (show (if b259 = true then bnd (r18_has p0.xKind (114 : UInt8)) fun yr287 => if yr287 = true then true else decide ((p0.xRange.xLo = ([])) ∧ (p0.xRange.xHi = ([]))) else false) = false from ifF h281)⟩ ⟨rfl, rfl, rfl, rfl, rfl, rfl, rfl, rfl, rfl, rfl, rfl, rfl, rfl, rfl, rfl, rfl, rfl, trivial⟩
 rintro b279 w296 ⟨H297, hj298⟩
 show WL _ _ _ (List.drop 10 _) _ [(68, .bool b279), (58, .bool b259), (57, .bool b259), (48, .bool b239), (47, .bool b239), (38, .bool b219), (37, .bool b219), (28, .bool (decide (p0.xClient = 0))), (27, .bool (decide (p0.xClient = 0))), (26, .int .i64 p0.xClient), (25, .pointer (some ⟨g21, 3, none⟩)), (9, .bool false), (8, .int .i64 9), (7, .int .i64 9), (6, .slice A24 9 9), (2, .bool false), (1, .pointer (some ⟨g21, 0, none⟩))] _
 replace hj298 : (if b259 = true then bnd (r18_has p0.xKind (114 : UInt8)) fun yr287 => if yr287 = true then true else decide ((p0.xRange.xLo = ([])) ∧ (p0.xRange.xHi = ([]))) else false) = b279 := hj298
 refine Mz rfl ?_
 refine WL.cutJ (ι := Bool) 10 (fun i => [(79, .bool i), (69, .bool b279), (68, .bool b279), (58, .bool b259), (57, .bool b259), (48, .bool b239), (47, .bool b239), (38, .bool b219), (37, .bool b219), (28, .bool (decide (p0.xClient = 0))), (27, .bool (decide (p0.xClient = 0))), (26, .int .i64 p0.xClient), (25, .pointer (some ⟨g21, 3, none⟩)), (9, .bool false), (8, .int .i64 9), (7, .int .i64 9), (6, .slice A24 9 9), (2, .bool false), (1, .pointer (some ⟨g21, 0, none⟩))]) (fun i w' => Own w D w' [blk g21 (MsgP p0 A0x0 c0x0 A0x1 c0x1 A0x2 c0x2) 29] ∧ ((if b279 = true then bnd (r18_has p0.xKind (111 : UInt8)) fun yr307 => if yr307 = true then true else decide (((p0.xOps.ls.length : Nat) : Int) = 0) else false) = i)) ?_ ?_
 intro hK300
 rcases Bool.eq_false_or_eq_true (b279) with h301 | h301
 refine Gz (.pointer (some ⟨g21, 0, none⟩)) h301 (Gl (.int .i64 p0.xKind) h301 H297 0 Tryz.isAgg3 ?_)
 obtain ⟨r307, hr308⟩ : ∃ q, r18_has p0.xKind (111 : UInt8) = q := ⟨_, rfl⟩
 obtain ⟨D302, HP303, ro304, bk305, rr306⟩ := Own.enter0 H297
 refine WL.doG rfl rfl h301 rfl (Do.call Tryz.call73 rfl (r18_has_ok _ _ p0.xKind (111 : UInt8) r307 HP303 hr308) ?_)
 rintro _ w309 ⟨rfl, HQ310⟩
 have H311 := bk305 _ _ HQ310
 refine WL.valG (v := .bool r307) rfl rfl h301 rfl (Yl.move rfl) ?_
 rcases Bool.eq_false_or_eq_true (r307) with h312 | h312
 refine Sz h312 (Sz h312 (Sz h312 (Sz h312 (WL.valG (v := .bool true) rfl rfl h301 rfl (Yl.pickT rfl h312 rfl) (fw (.bool true) (Yl.pickT rfl h301 rfl) ?_)))))
 have H313 := H311.pk [0]
 exact hK300 true _ _ ⟨H313, (show (if b279 = true then bnd (r18_has p0.xKind (111 : UInt8)) fun yr307 => if yr307 = true then true else decide (((p0.xOps.ls.length : Nat) : Int) = 0) else false) = true from et (ip h301) (et (bnd_of hr308) (ip h312)))⟩ ⟨rfl, rfl, rfl, rfl, rfl, rfl, rfl, rfl, rfl, rfl, rfl, rfl, rfl, rfl, rfl, rfl, rfl, rfl, rfl, trivial⟩
 refine Gz (.pointer (some ⟨g21, 18, none⟩)) h312 (Gl (.slice A0x0 p0.xOps.ls.length c0x0) h312 H311 0 Tryz.isAgg25 (Gz (.int .i64 ((p0.xOps.ls.length : Nat) : Int)) h312 (Gz (.bool (decide (((p0.xOps.ls.length : Nat) : Int) = 0))) h312 (WL.valG (v := .bool (decide (((p0.xOps.ls.length : Nat) : Int) = 0))) rfl rfl h301 rfl (Yl.pickF rfl h312 rfl) (fw (.bool (decide (((p0.xOps.ls.length : Nat) : Int) = 0))) (Yl.pickT rfl h301 rfl) ?_)))))
 have H314 := H311.pk [0]
 exact hK300 (decide (((p0.xOps.ls.length : Nat) : Int) = 0)) _ _ ⟨H314, (show (if b279 = true then bnd (r18_has p0.xKind (111 : UInt8)) fun yr307 => if yr307 = true then true else decide (((p0.xOps.ls.length : Nat) : Int) = 0) else false) = decide (((p0.xOps.ls.length : Nat) : Int) = 0) from et (ip h301) (et (bnd_of hr308) (ifF h312)))⟩ ⟨rfl, rfl, rfl, rfl, rfl, rfl, rfl, rfl, rfl, rfl, rfl, rfl, rfl, rfl, rfl, rfl, rfl, rfl, rfl, trivial⟩
 refine Sz h301 (Sz h301 (Sz h301 (Sz h301 (WL.skipU rfl rfl rfl (WL.skipU rfl rfl rfl (WL.skipU rfl rfl rfl (WL.skipU rfl rfl rfl (Sz h301 (fw (.bool false) (Yl.pickF rfl h301 rfl) ?_)))))))))
 have H315 := H297.pk [0]
 exact hK300 false _ _ ⟨H315, (show (if b279 = true then bnd (r18_has p0.xKind (111 : UInt8)) fun yr307 => if yr307 = true then true else decide (((p0.xOps.ls.length : Nat) : Int) = 0) else false) = false from ifF h301)⟩ ⟨rfl, rfl, rfl, rfl, rfl, rfl, rfl, rfl, rfl, rfl, rfl, rfl, rfl, rfl, rfl, rfl, rfl, rfl, rfl, trivial⟩
 rintro b299 w316 ⟨H317, hj318⟩
 show WL _ _ _ (List.drop 10 _) _ [(79, .bool b299), (69, .bool b279), (68, .bool b279), (58, .bool b259), (57, .bool b259), (48, .bool b239), (47, .bool b239), (38, .bool b219), (37, .bool b219), (28, .bool (decide (p0.xClient = 0))), (27, .bool (decide (p0.xClient = 0))), (26, .int .i64 p0.xClient), (25, .pointer (some ⟨g21, 3, none⟩)), (9, .bool false), (8, .int .i64 9), (7, .int .i64 9), (6, .slice A24 9 9), (2, .bool false), (1, .pointer (some ⟨g21, 0, none⟩))] _
 replace hj318 : (if b279 = true then bnd (r18_has p0.xKind (111 : UInt8)) fun yr307 => if yr307 = true then true else decide (((p0.xOps.ls.length : Nat) : Int) = 0) else false) = b299 := hj318
 refine Mz rfl ?_
 refine WL.cutJ (ι := Bool) 10 (fun i => [(90, .bool i), (80, .bool b299), (79, .bool b299), (69, .bool b279), (68, .bool b279), (58, .bool b259), (57, .bool b259), (48, .bool b239), (47, .bool b239), (38, .bool b219), (37, .bool b219), (28, .bool (decide (p0.xClient = 0))), (27, .bool (decide (p0.xClient = 0))), (26, .int .i64 p0.xClient), (25, .pointer (some ⟨g21, 3, none⟩)), (9, .bool false), (8, .int .i64 9), (7, .int .i64 9), (6, .slice A24 9 9), (2, .bool false), (1, .pointer (some ⟨g21, 0, none⟩))]) (fun i w' => Own w D w' [blk g21 (MsgP p0 A0x0 c0x0 A0x1 c0x1 A0x2 c0x2) 29] ∧ ((if b299 = true then bnd (r18_has p0.xKind (115 : UInt8)) fun yr327 => if yr327 = true then true else decide (((p0.xResults.ls.length : Nat) : Int) = 0) else false) = i)) ?_ ?_
 intro hK320
 rcases Bool.eq_false_or_eq_true (b299) with h321 | h321
 refine Gz (.pointer (some ⟨g21, 0, none⟩)) h321 (Gl (.int .i64 p0.xKind) h321 H317 0 Tryz.isAgg3 ?_)
 obtain ⟨r327, hr328⟩ : ∃ q, r18_has p0.xKind (115 : UInt8) = q := ⟨_, rfl⟩
 obtain ⟨D322, HP323, ro324, bk325, rr326⟩ := Own.enter0 H317
 refine WL.doG rfl rfl h321 rfl (Do.call Tryz.call73 rfl (r18_has_ok _ _ p0.xKind (115 : UInt8) r327 HP323 hr328) ?_)
 rintro _ w329 ⟨rfl, HQ330⟩
 have H331 := bk325 _ _ HQ330
 refine WL.valG (v := .bool r327) rfl rfl h321 rfl (Yl.move rfl) ?_
 rcases Bool.eq_false_or_eq_true (r327) with h332 | h332
 refine Sz h332 (Sz h332 (Sz h332 (Sz h332 (WL.valG (v := .bool true) rfl rfl h321 rfl (Yl.pickT rfl h332 rfl) (fw (.bool true) (Yl.pickT rfl h321 rfl) ?_)))))
 have H333 := H331.pk [0]
 exact hK320 true _ _ ⟨H333, (show (if b299 = true then bnd (r18_has p0.xKind (115 : UInt8)) fun yr327 => if yr327 = true then true else decide (((p0.xResults.ls.length : Nat) : Int) = 0) else false) = true from et (ip h321) (et (bnd_of hr328) (ip h332)))⟩ ⟨rfl, rfl, rfl, rfl, rfl, rfl, rfl, rfl, rfl, rfl, rfl, rfl, rfl, rfl, rfl, rfl, rfl, rfl, rfl, rfl, rfl, trivial⟩
 refine Gz (.pointer (some ⟨g21, 19, none⟩)) h332 (Gl (.slice A0x1 p0.xResults.ls.length c0x1) h332 H331 0 Tryz.isAgg26 (Gz (.int .i64 ((p0.xResults.ls.length : Nat) : Int)) h332 (Gz (.bool (decide (((p0.xResults.ls.length : Nat) : Int) = 0))) h332 (WL.valG (v := .bool (decide (((p0.xResults.ls.length : Nat) : Int) = 0))) rfl rfl h321 rfl (Yl.pickF rfl h332 rfl) (fw (.bool (decide (((p0.xResults.ls.length : Nat) : Int) = 0))) (Yl.pickT rfl h321 rfl) ?_)))))
 have H334 := H331.pk [0]
 exact hK320 (decide (((p0.xResults.ls.length : Nat) : Int) = 0)) _ _ ⟨H334, (show (if b299 = true then bnd (r18_has p0.xKind (115 : UInt8)) fun yr327 => if yr327 = true then true else decide (((p0.xResults.ls.length : Nat) : Int) = 0) else false) = decide (((p0.xResults.ls.length : Nat) : Int) = 0) from et (ip h321) (et (bnd_of hr328) (ifF h332)))⟩ ⟨rfl, rfl, rfl, rfl, rfl, rfl, rfl, rfl, rfl, rfl, rfl, rfl, rfl, rfl, rfl, rfl, rfl, rfl, rfl, rfl, rfl, trivial⟩
 refine Sz h321 (Sz h321 (Sz h321 (Sz h321 (WL.skipU rfl rfl rfl (WL.skipU rfl rfl rfl (WL.skipU rfl rfl rfl (WL.skipU rfl rfl rfl (Sz h321 (fw (.bool false) (Yl.pickF rfl h321 rfl) ?_)))))))))
 have H335 := H317.pk [0]
 exact hK320 false _ _ ⟨H335, (show (if b299 = true then bnd (r18_has p0.xKind (115 : UInt8)) fun yr327 => if yr327 = true then true else decide (((p0.xResults.ls.length : Nat) : Int) = 0) else false) = false from ifF h321)⟩ ⟨rfl, rfl, rfl, rfl, rfl, rfl, rfl, rfl, rfl, rfl, rfl, rfl, rfl, rfl, rfl, rfl, rfl, rfl, rfl, rfl, rfl, trivial⟩
 rintro b319 w336 ⟨H337, hj338⟩
 show WL _ _ _ (List.drop 10 _) _ [(90, .bool b319), (80, .bool b299), (79, .bool b299), (69, .bool b279), (68, .bool b279), (58, .bool b259), (57, .bool b259), (48, .bool b239), (47, .bool b239), (38, .bool b219), (37, .bool b219), (28, .bool (decide (p0.xClient = 0))), (27, .bool (decide (p0.xClient = 0))), (26, .int .i64 p0.xClient), (25, .pointer (some ⟨g21, 3, none⟩)), (9, .bool false), (8, .int .i64 9), (7, .int .i64 9), (6, .slice A24 9 9), (2, .bool false), (1, .pointer (some ⟨g21, 0, none⟩))] _
 replace hj338 : (if b299 = true then bnd (r18_has p0.xKind (115 : UInt8)) fun yr327 => if yr327 = true then true else decide (((p0.xResults.ls.length : Nat) : Int) = 0) else false) = b319 := hj338
 refine Mz rfl ?_
 refine WL.cutJ (ι := Bool) 10 (fun i => [(101, .bool i), (91, .bool b319), (90, .bool b319), (80, .bool b299), (79, .bool b299), (69, .bool b279), (68, .bool b279), (58, .bool b259), (57, .bool b259), (48, .bool b239), (47, .bool b239), (38, .bool b219), (37, .bool b219), (28, .bool (decide (p0.xClient = 0))), (27, .bool (decide (p0.xClient = 0))), (26, .int .i64 p0.xClient), (25, .pointer (some ⟨g21, 3, none⟩)), (9, .bool false), (8, .int .i64 9), (7, .int .i64 9), (6, .slice A24 9 9), (2, .bool false), (1, .pointer (some ⟨g21, 0, none⟩))]) (fun i w' => Own w D w' [blk g21 (MsgP p0 A0x0 c0x0 A0x1 c0x1 A0x2 c0x2) 29] ∧ ((if b319 = true then bnd (r18_has p0.xKind (119 : UInt8)) fun yr347 => if yr347 = true then true else decide (((p0.xOwners.ls.length : Nat) : Int) = 0) else false) = i)) ?_ ?_
 intro hK340
 rcases Bool.eq_false_or_eq_true (b319) with h341 | h341
 refine Gz (.pointer (some ⟨g21, 0, none⟩)) h341 (Gl (.int .i64 p0.xKind) h341 H337 0 Tryz.isAgg3 ?_)
 obtain ⟨r347, hr348⟩ : ∃ q, r18_has p0.xKind (119 : UInt8) = q := ⟨_, rfl⟩
 obtain ⟨D342, HP343, ro344, bk345, rr346⟩ := Own.enter0 H337
 refine WL.doG rfl rfl h341 rfl (Do.call Tryz.call73 rfl (r18_has_ok _ _ p0.xKind (119 : UInt8) r347 HP343 hr348) ?_)
 rintro _ w349 ⟨rfl, HQ350⟩
 have H351 := bk345 _ _ HQ350
 refine WL.valG (v := .bool r347) rfl rfl h341 rfl (Yl.move rfl) ?_
 rcases Bool.eq_false_or_eq_true (r347) with h352 | h352
 refine Sz h352 (Sz h352 (Sz h352 (Sz h352 (WL.valG (v := .bool true) rfl rfl h341 rfl (Yl.pickT rfl h352 rfl) (fw (.bool true) (Yl.pickT rfl h341 rfl) ?_)))))
 have H353 := H351.pk [0]
 exact hK340 true _ _ ⟨H353, (show (if b319 = true then bnd (r18_has p0.xKind (119 : UInt8)) fun yr347 => if yr347 = true then true else decide (((p0.xOwners.ls.length : Nat) : Int) = 0) else false) = true from et (ip h341) (et (bnd_of hr348) (ip h352)))⟩ ⟨rfl, rfl, rfl, rfl, rfl, rfl, rfl, rfl, rfl, rfl, rfl, rfl, rfl, rfl, rfl, rfl, rfl, rfl, rfl, rfl, rfl, rfl, rfl, trivial⟩
 refine Gz (.pointer (some ⟨g21, 20, none⟩)) h352 (Gl (.slice A0x2 p0.xOwners.ls.length c0x2) h352 H351 0 Tryz.isAgg27 (Gz (.int .i64 ((p0.xOwners.ls.length : Nat) : Int)) h352 (Gz (.bool (decide (((p0.xOwners.ls.length : Nat) : Int) = 0))) h352 (WL.valG (v := .bool (decide (((p0.xOwners.ls.length : Nat) : Int) = 0))) rfl rfl h341 rfl (Yl.pickF rfl h352 rfl) (fw (.bool (decide (((p0.xOwners.ls.length : Nat) : Int) = 0))) (Yl.pickT rfl h341 rfl) ?_)))))
 have H354 := H351.pk [0]
 exact hK340 (decide (((p0.xOwners.ls.length : Nat) : Int) = 0)) _ _ ⟨H354, (show (if b319 = true then bnd (r18_has p0.xKind (119 : UInt8)) fun yr347 => if yr347 = true then true else decide (((p0.xOwners.ls.length : Nat) : Int) = 0) else false) = decide (((p0.xOwners.ls.length : Nat) : Int) = 0) from et (ip h341) (et (bnd_of hr348) (ifF h352)))⟩ ⟨rfl, rfl, rfl, rfl, rfl, rfl, rfl, rfl, rfl, rfl, rfl, rfl, rfl, rfl, rfl, rfl, rfl, rfl, rfl, rfl, rfl, rfl, rfl, trivial⟩
 refine Sz h341 (Sz h341 (Sz h341 (Sz h341 (WL.skipU rfl rfl rfl (WL.skipU rfl rfl rfl (WL.skipU rfl rfl rfl (WL.skipU rfl rfl rfl (Sz h341 (fw (.bool false) (Yl.pickF rfl h341 rfl) ?_)))))))))
 have H355 := H337.pk [0]
 exact hK340 false _ _ ⟨H355, (show (if b319 = true then bnd (r18_has p0.xKind (119 : UInt8)) fun yr347 => if yr347 = true then true else decide (((p0.xOwners.ls.length : Nat) : Int) = 0) else false) = false from ifF h341)⟩ ⟨rfl, rfl, rfl, rfl, rfl, rfl, rfl, rfl, rfl, rfl, rfl, rfl, rfl, rfl, rfl, rfl, rfl, rfl, rfl, rfl, rfl, rfl, rfl, trivial⟩
 rintro b339 w356 ⟨H357, hj358⟩
 show WL _ _ _ (List.drop 10 _) _ [(101, .bool b339), (91, .bool b319), (90, .bool b319), (80, .bool b299), (79, .bool b299), (69, .bool b279), (68, .bool b279), (58, .bool b259), (57, .bool b259), (48, .bool b239), (47, .bool b239), (38, .bool b219), (37, .bool b219), (28, .bool (decide (p0.xClient = 0))), (27, .bool (decide (p0.xClient = 0))), (26, .int .i64 p0.xClient), (25, .pointer (some ⟨g21, 3, none⟩)), (9, .bool false), (8, .int .i64 9), (7, .int .i64 9), (6, .slice A24 9 9), (2, .bool false), (1, .pointer (some ⟨g21, 0, none⟩))] _
 replace hj358 : (if b319 = true then bnd (r18_has p0.xKind (119 : UInt8)) fun yr347 => if yr347 = true then true else decide (((p0.xOwners.ls.length : Nat) : Int) = 0) else false) = b339 := hj358
 refine An rfl (rt (rs ?_))
 have H359 := H357.pk []
 obtain rfl : _ = b339 := hr.symm.trans (et (bnd_of hr36) (et (bnd_of hj47) (et (ifF h48) (et (bnd_of hr57) (et (bnd_of hj68) (et (ifF h69) (et (bnd_of hr78) (et (bnd_of hj89) (et (ifF h90) (et (bnd_of hr99) (et (bnd_of hj110) (et (ifF h111) (et (bnd_of hr120) (et (bnd_of hj131) (et (ifF h132) (et (bnd_of hr141) (et (bnd_of hj152) (et (ifF h153) (et (bnd_of hr162) (et (bnd_of hj173) (et (ifF h174) (et (bnd_of hr183) (et (bnd_of hj194) (et (ifF h195) (et (bnd_of hr204) (et (bnd_of hj215) (et (ifF h216) (et (bnd_of hj238) (et (bnd_of hj258) (et (bnd_of hj278) (et (bnd_of hj298) (et (bnd_of hj318) (et (bnd_of hj338) (bnd_of hj358))))))))))))))))))))))))))))))))))
 exact ⟨rfl, H359⟩
def r18_Results_L1 : List PairD → Unit ⊕ Bool
  | [] => Sum.inl ()
  | x61 :: q50 => bnd (r02_CheckKey x61.xKey) fun yr74 => if yr74 = 0 then if ((x61.xValue.length : Nat) : Int) > 16 then Sum.inr (false) else r18_Results_L1 q50 else Sum.inr (false)
def r18_Results_L0 : List ResultT → Unit ⊕ Bool
  | [] => Sum.inl ()
  | x35 :: q24 => if ((x35.xValue.length : Nat) : Int) > 16 then Sum.inr (false) else if ((x35.xPairs.ls.length : Nat) : Int) > 4 then Sum.inr (false) else lpS (r18_Results_L1 x35.xPairs.ls) fun _ => r18_Results_L0 q24
def r18_Results (l0 : List ResultT) (p1 : Int) : Bool :=
 if ((l0.length : Nat) : Int) > p1 then false else lp (r18_Results_L0 l0) fun _ => true
set_option maxRecDepth 100000 in
theorem r18_Results_ok (w : World) (D : Nat → Prop) (A0 : Option Addr) (n0 c0 : Nat) (d0 : List ResultD) (l0 : List ResultT) (p1 : Int) (r0 : Bool) (H : Own w D w []) (hd0 : List.map ResultD.abs d0 = l0) (hx0 : Ro w D fun w' => Rds w' 3 A0 n0 (List.flatMap ResultD.cells d0)) (hm0 : ∀ x ∈ d0, Ro w D (fun w' => Rds w' 2 x.xPairs.A x.xPairs.ls.length (List.flatMap PairD.cells x.xPairs.ls)) ∧ (x.xPairs.ls.length ≤ x.xPairs.c ∧ x.xPairs.ls.length ≤ 9223372036854775807)) (hn0 : n0 = l0.length) (hl0 : l0.length ≤ 9223372036854775807) (hr : r18_Results l0 p1 = r0) :
    Calls Tryz.prog 31 #[.slice A0 n0 c0, .int .i64 p1] w (Ret fun v w' => v = .bool r0 ∧ Own w D w' []) := by
 subst hn0
 have hdl0 := abs_len hd0
 refine Calls.body (args := [.slice A0 l0.length c0, .int .i64 p1]) Tryz.func31 rfl rfl rfl ?_
 show Wp _ _ _ [(0, .slice A0 l0.length c0), (1, .int .i64 p1)] _ _
 refine sr (An rfl (Wp.seq (sr (Mz rfl (Kz (.int .i64 ((l0.length : Nat) : Int)) (Mz rfl (Kz (.bool (decide (((l0.length : Nat) : Int) > p1))) (nt ?_))))))))
 by_cases h21 : ((l0.length : Nat) : Int) > p1
 refine jT (dT h21) (sr (An rfl (rt (tR (rs ?_)))))
 have H22 : Own w D w [] := H.pk []
 obtain rfl : _ = false := hr.symm.trans (ip h21)
 exact ⟨rfl, H22⟩
 refine jF (dF h21) (sk (Wp.seq (sr (Mz rfl (Kz (.int .i64 ((l0.length : Nat) : Int)) (Mn rfl (bo ?_)))))))
 have H25 : Own w D w [] := H.pk []
 obtain ⟨I29, hI30⟩ : ∃ q : Nat → World → Prop, q = fun (i : Nat) w' => Own w D w' [] ∧ (i ≤ l0.length ∧ r18_Results_L0 l0 = r18_Results_L0 (List.drop i l0)) := ⟨_, rfl⟩
 have dm31 : ∀ {k23 : Nat} {w' : World}, I29 k23 w' ↔ Own w D w' [] ∧ k23 ≤ l0.length ∧ r18_Results_L0 l0 = r18_Results_L0 (List.drop k23 l0) := by intros; subst hI30; exact Iff.rfl
 refine Wp.loop (fun i : Nat => [(4, .bool false), (15, .int .i64 ((i : Nat) : Int)), (14, .int .i64 ((l0.length : Nat) : Int)), (13, .slice A0 l0.length c0)]) I29 (fun i => l0.length - i) 0 ⟨rfl, rfl, rfl, rfl, trivial⟩ (dm31.2 ⟨H25, by omega, rfl⟩) ?_
 rintro k23 w26 hf28
 show Wp _ _ _ [(4, .bool false), (15, .int .i64 ((k23 : Nat) : Int)), (14, .int .i64 ((l0.length : Nat) : Int)), (13, .slice A0 l0.length c0)] _ _
 obtain ⟨H27, hi33, hq32⟩ := dm31.1 hf28
 refine sr (Kz (.bool (decide (((k23 : Nat) : Int) < ((l0.length : Nat) : Int)))) (nt (Wp.seq ?_)))
 by_cases h34 : ((k23 : Nat) : Int) < ((l0.length : Nat) : Int)
 obtain ⟨x35, hx36⟩ := rds_at (ls := d0) (i := k23) ResultD.len (by decide) (H27.ro hx0) (by first | omega | (simp; done) | (simp; omega))
 have hX37 := abs_at hd0 hx36
 have hb38 := (hm0 _ (List.mem_of_getElem? hx36)).2
 have hd39 := drop_at hX37
 refine jT (dT h34) (sk (Wp.seq (bo (sr (fw (.pointer (some ⟨ab A0, ao A0 + k23 * 3, none⟩)) (Yl.indexAddr (El26) rfl rfl ((H27.ro hx0).addr (i := k23) (by omega)) (by omega)) (fw (.agg (ResultD.cells x35).toArray) (Yl.load rfl (Lds.agg (cs := (ResultD.cells x35)) Tryz.isAgg84 Tryz.sizeOf84 ((H27.ro hx0).elem ResultD.len hx36 (by decide)))) ?_))))))
 refine npw [.bool false, .string ⟨List.toArray ([])⟩, .slice none 0 0] 84 H27 ?_
 intro g40 w41 H42
 refine sto (ResultD.cells x35) 0 H42 Tryz.sizeOf84 ?_
 intro w43 H44
 refine nt (Wp.seq (sr (Kz (.pointer (some ⟨g40, 1, none⟩)) (Lz (.string ⟨List.toArray x35.xValue⟩) H44 0 Tryz.isAgg9 (Kz (.int .i64 ((x35.xValue.length : Nat) : Int)) (Kz (.bool (decide (((x35.xValue.length : Nat) : Int) > 16))) (Mz rfl ?_)))))))
 by_cases h45 : ((x35.xValue.length : Nat) : Int) > 16
 refine Sz (dT h45) (Sz (dT h45) (Sz (dT h45) (Sz (dT h45) (fw (.bool true) (Yl.pickT rfl (dT h45) rfl) (nt (jt (sr (An rfl (rt (tR (bR (tR (tR (bR (tR (rs ?_))))))))))))))))
 have H46 := H44.pk []
 obtain rfl : _ = false := hr.symm.trans (et (iN h21) (lp_r (et (hq32) (et (congrArg (fun q => r18_Results_L0 q) hd39) (ip h45)))))
 exact ⟨rfl, H46⟩
 refine Gz (.pointer (some ⟨g40, 2, none⟩)) (dF h45) (Gl (.slice x35.xPairs.A x35.xPairs.ls.length x35.xPairs.c) (dF h45) H44 0 Tryz.isAgg82 (Gz (.int .i64 ((x35.xPairs.ls.length : Nat) : Int)) (dF h45) (Gz (.bool (decide (((x35.xPairs.ls.length : Nat) : Int) > 4))) (dF h45) (fw (.bool (decide (((x35.xPairs.ls.length : Nat) : Int) > 4))) (Yl.pickF rfl (dF h45) rfl) (nt ?_)))))
 by_cases h47 : ((x35.xPairs.ls.length : Nat) : Int) > 4
 refine jT (dT h47) (sr (An rfl (rt (tR (bR (tR (tR (bR (tR (rs ?_))))))))))
 have H48 := H44.pk []
 obtain rfl : _ = false := hr.symm.trans (et (iN h21) (lp_r (et (hq32) (et (congrArg (fun q => r18_Results_L0 q) hd39) (et (iN h45) (ip h47))))))
 exact ⟨rfl, H48⟩
 refine jF (dF h47) (sk (sr (Kz (.pointer (some ⟨g40, 2, none⟩)) (Lz (.slice x35.xPairs.A x35.xPairs.ls.length x35.xPairs.c) H44 0 Tryz.isAgg82 (Kz (.int .i64 ((x35.xPairs.ls.length : Nat) : Int)) (Mn rfl (bo ?_)))))))
 have H51 := H44.pk [0]
 obtain ⟨I55, hI56⟩ : ∃ q : Nat → World → Prop, q = fun (i : Nat) w' => Own w D w' [blk g40 (ResultD.cells x35) 84] ∧ (i ≤ x35.xPairs.ls.length ∧ r18_Results_L1 x35.xPairs.ls = r18_Results_L1 (List.drop i x35.xPairs.ls)) := ⟨_, rfl⟩
 have dm57 : ∀ {k49 : Nat} {w' : World}, I55 k49 w' ↔ Own w D w' [blk g40 (ResultD.cells x35) 84] ∧ k49 ≤ x35.xPairs.ls.length ∧ r18_Results_L1 x35.xPairs.ls = r18_Results_L1 (List.drop k49 x35.xPairs.ls) := by intros; subst hI56; exact Iff.rfl
 refine Wp.loop (fun i : Nat => [(4, .bool false), (32, .int .i64 ((i : Nat) : Int)), (31, .int .i64 ((x35.xPairs.ls.length : Nat) : Int)), (30, .slice x35.xPairs.A x35.xPairs.ls.length x35.xPairs.c), (29, .pointer (some ⟨g40, 2, none⟩)), (28, .bool (decide (((x35.xPairs.ls.length : Nat) : Int) > 4))), (27, .bool (decide (((x35.xPairs.ls.length : Nat) : Int) > 4))), (26, .int .i64 ((x35.xPairs.ls.length : Nat) : Int)), (25, .slice x35.xPairs.A x35.xPairs.ls.length x35.xPairs.c), (24, .pointer (some ⟨g40, 2, none⟩)), (23, .bool (decide (((x35.xValue.length : Nat) : Int) > 16))), (22, .bool (decide (((x35.xValue.length : Nat) : Int) > 16))), (21, .int .i64 ((x35.xValue.length : Nat) : Int)), (20, .string ⟨List.toArray x35.xValue⟩), (19, .pointer (some ⟨g40, 1, none⟩)), (6, .pointer (some ⟨g40, 0, none⟩)), (18, .agg (ResultD.cells x35).toArray), (17, .pointer (some ⟨ab A0, ao A0 + k23 * 3, none⟩)), (16, .bool (decide (((k23 : Nat) : Int) < ((l0.length : Nat) : Int)))), (15, .int .i64 ((k23 : Nat) : Int)), (14, .int .i64 ((l0.length : Nat) : Int)), (13, .slice A0 l0.length c0)]) I55 (fun i => x35.xPairs.ls.length - i) 0 ⟨rfl, rfl, rfl, rfl, rfl, rfl, rfl, rfl, rfl, rfl, rfl, rfl, rfl, rfl, rfl, rfl, rfl, rfl, rfl, rfl, rfl, rfl, trivial⟩ (dm57.2 ⟨H51, by omega, rfl⟩) ?_
 rintro k49 w52 hf54
 show Wp _ _ _ [(4, .bool false), (32, .int .i64 ((k49 : Nat) : Int)), (31, .int .i64 ((x35.xPairs.ls.length : Nat) : Int)), (30, .slice x35.xPairs.A x35.xPairs.ls.length x35.xPairs.c), (29, .pointer (some ⟨g40, 2, none⟩)), (28, .bool (decide (((x35.xPairs.ls.length : Nat) : Int) > 4))), (27, .bool (decide (((x35.xPairs.ls.length : Nat) : Int) > 4))), (26, .int .i64 ((x35.xPairs.ls.length : Nat) : Int)), (25, .slice x35.xPairs.A x35.xPairs.ls.length x35.xPairs.c), (24, .pointer (some ⟨g40, 2, none⟩)), (23, .bool (decide (((x35.xValue.length : Nat) : Int) > 16))), (22, .bool (decide (((x35.xValue.length : Nat) : Int) > 16))), (21, .int .i64 ((x35.xValue.length : Nat) : Int)), (20, .string ⟨List.toArray x35.xValue⟩), (19, .pointer (some ⟨g40, 1, none⟩)), (6, .pointer (some ⟨g40, 0, none⟩)), (18, .agg (ResultD.cells x35).toArray), (17, .pointer (some ⟨ab A0, ao A0 + k23 * 3, none⟩)), (16, .bool (decide (((k23 : Nat) : Int) < ((l0.length : Nat) : Int)))), (15, .int .i64 ((k23 : Nat) : Int)), (14, .int .i64 ((l0.length : Nat) : Int)), (13, .slice A0 l0.length c0)] _ _
 obtain ⟨H53, hi59, hq58⟩ := dm57.1 hf54
 refine sr (Kz (.bool (decide (((k49 : Nat) : Int) < ((x35.xPairs.ls.length : Nat) : Int)))) (nt (Wp.seq ?_)))
 by_cases h60 : ((k49 : Nat) : Int) < ((x35.xPairs.ls.length : Nat) : Int)
 obtain ⟨x61, hx62⟩ := rds_at (ls := x35.xPairs.ls) (i := k49) PairD.len (by decide) (H53.ro (hm0 _ (List.mem_of_getElem? hx36)).1) (by first | omega | (simp; done) | (simp; omega))
 have hd63 := drop_at hx62
 refine jT (dT h60) (sk (Wp.seq (bo (sr (fw (.pointer (some ⟨ab x35.xPairs.A, ao x35.xPairs.A + k49 * 2, none⟩)) (Yl.indexAddr (El82) rfl rfl ((H53.ro (hm0 _ (List.mem_of_getElem? hx36)).1).addr (i := k49) (by omega)) (by omega)) (fw (.agg (PairD.cells x61).toArray) (Yl.load rfl (Lds.agg (cs := (PairD.cells x61)) Tryz.isAgg86 Tryz.sizeOf86 ((H53.ro (hm0 _ (List.mem_of_getElem? hx36)).1).elem PairD.len hx62 (by decide)))) ?_))))))
 refine npw [.string ⟨List.toArray ([])⟩, .string ⟨List.toArray ([])⟩] 86 H53 ?_
 intro g64 w65 H66
 refine sto (PairD.cells x61) 0 H66 Tryz.sizeOf86 ?_
 intro w67 H68
 refine ns (Kz (.pointer (some ⟨g64, 0, none⟩)) (Lz (.string ⟨List.toArray x61.xKey⟩) H68 0 Tryz.isAgg9 ?_))
 obtain ⟨r74, hr75⟩ : ∃ q, r02_CheckKey x61.xKey = q := ⟨_, rfl⟩
 obtain ⟨D69, HP70, ro71, bk72, rr73⟩ := Own.enter0 H68
 refine cl Tryz.call74 (r02_CheckKey_ok _ _ x61.xKey r74 HP70 hr75) ?_
 rintro _ w76 ⟨rfl, HQ77, hk79⟩
 have H78 := bk72 _ _ HQ77
 replace hk79 : ¬ (r74 = 0) ∨ (1 ≤ x61.xKey.length ∧ x61.xKey.length ≤ 12) := hk79
 refine fw (.bool (decide (¬ (r74 = 0)))) (Yl.bool (e := !(decide (r74 = 0))) yk decide_not.symm) (Mz rfl ?_)
 by_cases h80 : r74 = 0
 refine gw (.pointer (some ⟨g64, 1, none⟩)) (dF (not_not_intro h80)) yk (gw (.string ⟨List.toArray x61.xValue⟩) (dF (not_not_intro h80)) (Yl.load rfl (Lds.one Tryz.isAgg9 (Cls.of (H78.cls (i := 0) rfl) rfl))) (gw (.int .i64 ((x61.xValue.length : Nat) : Int)) (dF (not_not_intro h80)) yk (gw (.bool (decide (((x61.xValue.length : Nat) : Int) > 16))) (dF (not_not_intro h80)) yk (fw (.bool (decide (((x61.xValue.length : Nat) : Int) > 16))) (Yl.pickF rfl (dF (not_not_intro h80)) rfl) (nt ?_)))))
 by_cases h81 : ((x61.xValue.length : Nat) : Int) > 16
 refine jT (dT h81) (sr (An rfl (rt (bR (tR (tR (bR (bR (tR (tR (bR (tR (rs ?_)))))))))))))
 have H82 := H78.pk []
 obtain rfl : _ = false := hr.symm.trans (et (iN h21) (lp_r (et (hq32) (et (congrArg (fun q => r18_Results_L0 q) hd39) (et (iN h45) (et (iN h47) (lpS_r (et (hq58) (et (congrArg (fun q => r18_Results_L1 q) hd63) (et (bnd_of hr75) (et (ip h80) (ip h81))))))))))))
 exact ⟨rfl, H82⟩
 refine jF (dF h81) (Wp.skip (bN (Fin.then (Wp.region (fw (.int .i64 ((k49 + 1 : Nat) : Int)) (Yl.int (e := IntKind.i64.wrap (((k49 : Nat) : Int) + 1)) yk (by rw [IntWalk.i64_in _ (by omega)]; omega)) (Mz rfl (WL.nil ?_)))))))
 have H83 := H78.pk [1]
 exact Fin.round (k49 + 1) ⟨rfl, rfl, rfl, rfl, rfl, rfl, rfl, rfl, rfl, rfl, rfl, rfl, rfl, rfl, rfl, rfl, rfl, rfl, rfl, rfl, rfl, rfl, trivial⟩ (dm57.2 ⟨H83, by omega, et (hq58) (et (congrArg (fun q => r18_Results_L1 q) hd63) (et (bnd_of hr75) (et (ip h80) (iN h81))))⟩) (by show x35.xPairs.ls.length - (k49 + 1) < x35.xPairs.ls.length - k49; omega)
 refine Sz (dT h80) (Sz (dT h80) (Sz (dT h80) (Sz (dT h80) (fw (.bool true) (Yl.pickT rfl (dT h80) rfl) (nt (jt (sr (An rfl (rt (bR (tR (tR (bR (bR (tR (tR (bR (tR (rs ?_)))))))))))))))))))
 have H84 := H78.pk []
 obtain rfl : _ = false := hr.symm.trans (et (iN h21) (lp_r (et (hq32) (et (congrArg (fun q => r18_Results_L0 q) hd39) (et (iN h45) (et (iN h47) (lpS_r (et (hq58) (et (congrArg (fun q => r18_Results_L1 q) hd63) (et (bnd_of hr75) (iN h80)))))))))))
 exact ⟨rfl, H84⟩
 refine jF (dF h60) (Wp.exit (Fin.thenX ?_))
 have hL85 : r18_Results_L1 x35.xPairs.ls = Sum.inl () := et (hq58) (et (congrArg (fun q => r18_Results_L1 q) (drop_end (ls := x35.xPairs.ls) (i := k49) (by omega))) rfl)
 refine Fin.thenX (Fin.blockX (bN (Fin.then (Wp.region (fw (.int .i64 ((k23 + 1 : Nat) : Int)) (Yl.int (e := IntKind.i64.wrap (((k23 : Nat) : Int) + 1)) yk (by rw [IntWalk.i64_in _ (by omega)]; omega)) (Mz rfl (WL.nil ?_)))))))
 have H86 := H53.pk []
 exact Fin.round (k23 + 1) ⟨rfl, rfl, rfl, rfl, trivial⟩ (dm31.2 ⟨H86, by omega, et (hq32) (et (congrArg (fun q => r18_Results_L0 q) hd39) (et (iN h45) (et (iN h47) (lpS_l hL85))))⟩) (by show l0.length - (k23 + 1) < l0.length - k23; omega)
 refine jF (dF h34) (Wp.exit (Fin.thenX ?_))
 have hL87 : r18_Results_L0 l0 = Sum.inl () := et (hq32) (et (congrArg (fun q => r18_Results_L0 q) (drop_end (ls := l0) (i := k23) (by omega))) rfl)
 refine Fin.thenX (Fin.blockX (Fin.then (sr (An rfl (rt (rs ?_))))))
 have H88 := H27.pk []
 obtain rfl : _ = true := hr.symm.trans (et (iN h21) (lp_l hL87))
 exact ⟨rfl, H88⟩
def r04_Writes (p0 : OpD) : Bool :=
 if p0.xKind = 2 then true else if p0.xKind = 3 then true else decide (p0.xKind = 5)
set_option maxRecDepth 100000 in
theorem r04_Writes_ok (w : World) (D : Nat → Prop) (p0 : OpD) (r0 : Bool) (H : Own w D w [])  (hr : r04_Writes p0 = r0) :
    Calls Tryz.prog 36 #[.agg (OpD.cells p0).toArray] w (Ret fun v w' => v = .bool r0 ∧ Own w D w' []) := by
 refine Calls.body (args := [.agg (OpD.cells p0).toArray]) Tryz.func36 rfl rfl rfl ?_
 show Wp _ _ _ [(0, .agg (OpD.cells p0).toArray)] _ _
 refine sr ?_
 refine npw (OpD.cells p0) 64 H ?_
 intro g21 w22 H23
 refine Ar rfl (Kz (.pointer (some ⟨g21, 0, none⟩)) (Lz (.int .i64 p0.xKind) H23 0 Tryz.isAgg3 (Kz (.bool (decide (p0.xKind = 2))) (Mz rfl ?_))))
 by_cases h24 : p0.xKind = 2
 refine Sz (dT h24) (Sz (dT h24) (Sz (dT h24) (fw (.bool true) (Yl.pickT rfl (dT h24) rfl) (Mz rfl (Sz rfl (Sz rfl (Sz rfl (fw (.bool true) (Yl.pickT rfl rfl rfl) (An rfl (rt (rs ?_)))))))))))
 have H25 := H23.pk []
 obtain rfl : _ = true := hr.symm.trans (ip h24)
 exact ⟨rfl, H25⟩
 refine Gz (.pointer (some ⟨g21, 0, none⟩)) (dF h24) (Gl (.int .i64 p0.xKind) (dF h24) H23 0 Tryz.isAgg3 (Gz (.bool (decide (p0.xKind = 3))) (dF h24) (fw (.bool (decide (p0.xKind = 3))) (Yl.pickF rfl (dF h24) rfl) (Mz rfl ?_))))
 by_cases h26 : p0.xKind = 3
 refine Sz (dT h26) (Sz (dT h26) (Sz (dT h26) (fw (.bool true) (Yl.pickT rfl (dT h26) rfl) (An rfl (rt (rs ?_))))))
 have H27 := H23.pk []
 obtain rfl : _ = true := hr.symm.trans (et (iN h24) (ip h26))
 exact ⟨rfl, H27⟩
 refine Gz (.pointer (some ⟨g21, 0, none⟩)) (dF h26) (Gl (.int .i64 p0.xKind) (dF h26) H23 0 Tryz.isAgg3 (Gz (.bool (decide (p0.xKind = 5))) (dF h26) (fw (.bool (decide (p0.xKind = 5))) (Yl.pickF rfl (dF h26) rfl) (An rfl (rt (rs ?_))))))
 have H28 := H23.pk []
 obtain rfl : _ = decide (p0.xKind = 5) := hr.symm.trans (et (iN h24) (iN h26))
 exact ⟨rfl, H28⟩
def r18_Check_L0 : List OpD → Bool → Bool
  | [], b228 => b228
  | x241 :: q230, b228 => if b228 = true then bnd (r04_Writes x241) fun yr255 => r18_Check_L0 q230 yr255 else r18_Check_L0 q230 false
def r18_Check_L1 : List OpD → Unit
  | [] => ()
  | x278 :: q267 => r18_Check_L1 q267
def r18_Check_L2 : List OpD → Unit
  | [] => ()
  | x301 :: q290 => r18_Check_L2 q290
def r18_Check (p0 : MsgT) : Int :=
 bnd (r18_fields p0.xKind) fun yr29 => if yr29 = ([]) then 180 else bnd (r18_nodes p0) fun yr42 => if yr42 = true then bnd (r18_zero p0) fun yr53 => if yr53 = true then if p0.xKind = 1 then bnd (r04_Check p0.xOps.ls) fun yr65 => if yr65 = 0 then 0 else 180 else if p0.xKind = 2 then if p0.xCode = 1 then bnd (r18_Results p0.xResults.ls 4) fun yr80 => if yr80 = true then 0 else 180 else if p0.xCode = 2 then bnd (r18_Results p0.xResults.ls 4) fun yr94 => if yr94 = true then 0 else 180 else 180 else if p0.xKind = 3 then if ((p0.xOps.ls.length : Nat) : Int) ≥ 1 then if ((p0.xOps.ls.length : Nat) : Int) ≤ 24 then bnd (r04_All p0.xOps.ls) fun yr111 => if yr111 = 0 then 0 else 180 else 180 else 180 else if p0.xKind = 4 then if p0.xCode = 3 then bnd (r18_Results p0.xResults.ls 24) fun yr128 => if yr128 = true then 0 else 180 else if p0.xCode = 4 then bnd (r18_Results p0.xResults.ls 24) fun yr142 => if yr142 = true then 0 else 180 else if p0.xCode = 5 then bnd (r18_Results p0.xResults.ls 24) fun yr156 => if yr156 = true then 0 else 180 else 180 else if p0.xKind = 8 then bnd (r17_Check p0.xOwners.ls) fun yr171 => if yr171 = 0 then 0 else 180 else if p0.xKind = 10 then bnd (r18_shard p0.xPeer) fun yr185 => if yr185 = true then bnd (r02_Check p0.xRange) fun yr196 => if yr196 = 0 then 0 else 180 else 180 else if p0.xKind = 11 then if ((p0.xOps.ls.length : Nat) : Int) ≤ 6 then bnd (r04_All p0.xOps.ls) fun yr212 => if yr212 = 0 then bnd (r02_Check p0.xRange) fun yr223 => bnd (r18_Check_L0 p0.xOps.ls (decide (yr223 = 0))) fun sLrbfbtbtffffffttbtbL => if sLrbfbtbtffffffttbtbL = true then 0 else 180 else bnd (r18_Check_L1 p0.xOps.ls) fun _ => 180 else bnd (r18_Check_L2 p0.xOps.ls) fun _ => 180 else 0 else 180 else 180
set_option maxRecDepth 100000 in
set_option maxHeartbeats 2000000 in
theorem r18_Check_ok (w : World) (D : Nat → Prop) (p0 : MsgT) (A0x0 : Option Addr) (n0x0 c0x0 : Nat) (A0x1 : Option Addr) (n0x1 c0x1 : Nat) (d0x1 : List ResultD) (A0x2 : Option Addr) (n0x2 c0x2 : Nat) (r0 : Int) (H : Own w D w []) (hn0x0 : n0x0 = p0.xOps.ls.length) (hx0x0 : Ro w D fun w' => Rds w' 6 A0x0 p0.xOps.ls.length (List.flatMap OpD.cells p0.xOps.ls)) (hb0x0 : p0.xOps.ls.length ≤ c0x0 ∧ p0.xOps.ls.length ≤ 9223372036854775807) (hd0x1 : List.map ResultD.abs d0x1 = p0.xResults.ls) (hn0x1 : n0x1 = p0.xResults.ls.length) (hx0x1 : Ro w D fun w' => Rds w' 3 A0x1 p0.xResults.ls.length (List.flatMap ResultD.cells d0x1)) (hb0x1 : p0.xResults.ls.length ≤ c0x1 ∧ p0.xResults.ls.length ≤ 9223372036854775807) (hm0x1 : ∀ x ∈ d0x1, Ro w D (fun w' => Rds w' 2 x.xPairs.A x.xPairs.ls.length (List.flatMap PairD.cells x.xPairs.ls)) ∧ (x.xPairs.ls.length ≤ x.xPairs.c ∧ x.xPairs.ls.length ≤ 9223372036854775807)) (hn0x2 : n0x2 = p0.xOwners.ls.length) (hx0x2 : Ro w D fun w' => Rds w' 2 A0x2 p0.xOwners.ls.length (List.flatMap OwnerD.cells p0.xOwners.ls)) (hb0x2 : p0.xOwners.ls.length ≤ c0x2 ∧ p0.xOwners.ls.length ≤ 9223372036854775807) (hr : r18_Check p0 = r0) :
    Calls Tryz.prog 12 #[.agg (MsgC p0.xKind p0.xFrom p0.xTo p0.xClient p0.xCode p0.xPeer p0.xReq p0.xBoot p0.xTxn p0.xLow p0.xVer p0.xEpoch p0.xMove p0.xAttempt p0.xN p0.xFlag p0.xRange.xLo p0.xRange.xHi A0x0 n0x0 c0x0 A0x1 n0x1 c0x1 A0x2 n0x2 c0x2).toArray] w (Ret fun v w' => v = .int .i64 r0 ∧ Own w D w' []) := by
 subst hn0x0 hn0x1 hn0x2
 have hdl0x1 := abs_len hd0x1
 refine Calls.body (args := [.agg (MsgP p0 A0x0 c0x0 A0x1 c0x1 A0x2 c0x2).toArray]) Tryz.func12 rfl rfl rfl ?_
 show Wp _ _ _ [(0, .agg (MsgP p0 A0x0 c0x0 A0x1 c0x1 A0x2 c0x2).toArray)] _ _
 refine sr ?_
 refine npw (MsgP p0 A0x0 c0x0 A0x1 c0x1 A0x2 c0x2) 29 H ?_
 intro g21 w22 H23
 refine An rfl (Wp.seq (sr (Kz (.pointer (some ⟨g21, 0, none⟩)) (Lz (.int .i64 p0.xKind) H23 0 Tryz.isAgg3 ?_))))
 obtain ⟨r29, hr30⟩ : ∃ q, r18_fields p0.xKind = q := ⟨_, rfl⟩
 obtain ⟨D24, HP25, ro26, bk27, rr28⟩ := Own.enter0 H23
 refine cl Tryz.call27 (r18_fields_ok _ _ p0.xKind r29 HP25 hr30) ?_
 rintro _ w31 ⟨rfl, HQ32, hk34⟩
 have H33 := bk27 _ _ HQ32
 replace hk34 : r29.length ≤ 5 := hk34
 refine fw (.bool (decide (r29 = ([])))) (Yl.strEq rfl rfl) (Mz rfl ?_)
 by_cases h35 : r29 = ([])
 refine Sz (dT h35) (Sz (dT h35) (Sz (dT h35) (fw (.bool true) (Yl.pickT rfl (dT h35) rfl) (Mz rfl (Sz rfl (Sz rfl (Sz rfl (fw (.bool true) (Yl.pickT rfl rfl rfl) (nt (jt (sr (An rfl (rt (tR (rs ?_)))))))))))))))
 have H36 := H33.pk []
 obtain rfl : _ = 180 := hr.symm.trans (et (bnd_of hr30) (ip h35))
 exact ⟨rfl, H36⟩
 refine Ga (MsgP p0 A0x0 c0x0 A0x1 c0x1 A0x2 c0x2) (dF h35) H33 0 Tryz.isAgg29 Tryz.sizeOf29 ?_
 obtain ⟨r42, hr43⟩ : ∃ q, r18_nodes p0 = q := ⟨_, rfl⟩
 obtain ⟨D37, HP38, ro39, bk40, rr41⟩ := Own.enter0 H33
 refine clG (dF h35) Tryz.call28 (r18_nodes_ok _ _ p0 A0x0 p0.xOps.ls.length c0x0 A0x1 p0.xResults.ls.length c0x1 d0x1 A0x2 p0.xOwners.ls.length c0x2 r42 HP38 rfl (ro39 _ hx0x0) (show p0.xOps.ls.length ≤ c0x0 ∧ p0.xOps.ls.length ≤ 9223372036854775807 from by omega) hd0x1 rfl (ro39 _ hx0x1) (show p0.xResults.ls.length ≤ c0x1 ∧ p0.xResults.ls.length ≤ 9223372036854775807 from by omega) (fun x9 h9 => ⟨ro39 _ (hm0x1 x9 h9).1, (hm0x1 x9 h9).2⟩) rfl (ro39 _ hx0x2) (show p0.xOwners.ls.length ≤ c0x2 ∧ p0.xOwners.ls.length ≤ 9223372036854775807 from by omega) hr43) ?_
 rintro _ w44 ⟨rfl, HQ45⟩
 have H46 := bk40 _ _ HQ45
 refine Gz (.bool (!r42)) (dF h35) (fw (.bool (!r42)) (Yl.pickF rfl (dF h35) rfl) (Mz rfl ?_))
 rcases Bool.eq_false_or_eq_true (r42) with h47 | h47
 refine Ga (MsgP p0 A0x0 c0x0 A0x1 c0x1 A0x2 c0x2) (cn h47) H46 0 Tryz.isAgg29 Tryz.sizeOf29 ?_
 obtain ⟨r53, hr54⟩ : ∃ q, r18_zero p0 = q := ⟨_, rfl⟩
 obtain ⟨D48, HP49, ro50, bk51, rr52⟩ := Own.enter0 H46
 refine clG (cn h47) Tryz.call29 (r18_zero_ok _ _ p0 A0x0 p0.xOps.ls.length c0x0 A0x1 p0.xResults.ls.length c0x1 d0x1 A0x2 p0.xOwners.ls.length c0x2 r53 HP49 rfl (ro50 _ hx0x0) (show p0.xOps.ls.length ≤ c0x0 ∧ p0.xOps.ls.length ≤ 9223372036854775807 from by omega) hd0x1 rfl (ro50 _ hx0x1) (show p0.xResults.ls.length ≤ c0x1 ∧ p0.xResults.ls.length ≤ 9223372036854775807 from by omega) (fun x9 h9 => ⟨ro50 _ (hm0x1 x9 h9).1, (hm0x1 x9 h9).2⟩) rfl (ro50 _ hx0x2) (show p0.xOwners.ls.length ≤ c0x2 ∧ p0.xOwners.ls.length ≤ 9223372036854775807 from by omega) hr54) ?_
 rintro _ w55 ⟨rfl, HQ56⟩
 have H57 := bk51 _ _ HQ56
 refine Gz (.bool (!r53)) (cn h47) (fw (.bool (!r53)) (Yl.pickF rfl (cn h47) rfl) (nt ?_))
 rcases Bool.eq_false_or_eq_true (r53) with h58 | h58
 refine jF (cn h58) (sk (sr (An rfl (Wp.seq (sr (Kz (.pointer (some ⟨g21, 0, none⟩)) (Lz (.int .i64 p0.xKind) H57 0 Tryz.isAgg3 (nt (bo (sr (Kz (.bool (decide (p0.xKind = 1))) (An rfl ?_))))))))))))
 by_cases h59 : p0.xKind = 1
 refine jT (dT h59) (Wp.region (Kz (.pointer (some ⟨g21, 18, none⟩)) (Lz (.slice A0x0 p0.xOps.ls.length c0x0) H57 0 Tryz.isAgg25 ?_)))
 obtain ⟨r65, hr66⟩ : ∃ q, r04_Check p0.xOps.ls = q := ⟨_, rfl⟩
 obtain ⟨D60, HP61, ro62, bk63, rr64⟩ := Own.enter0 H57
 refine cl Tryz.call30 (r04_Check_ok _ _ A0x0 p0.xOps.ls.length c0x0 p0.xOps.ls r65 HP61 (ro62 _ hx0x0) rfl (by omega) hr66) ?_
 rintro _ w67 ⟨rfl, HQ68⟩
 have H69 := bk63 _ _ HQ68
 refine Kz (.bool (decide (r65 = 0))) (Az rfl (WL.nil (bN (Fin.then (Wp.seq (sr (Mz rfl (fw (.bool (decide (¬ (r65 = 0)))) (Yl.bool (e := !(decide (r65 = 0))) yk decide_not.symm) (nt ?_)))))))))
 by_cases h70 : r65 = 0
 refine jF (dF (not_not_intro h70)) (sk (sr (An rfl (rt (rs ?_)))))
 have H71 := H69.pk []
 obtain rfl : _ = 0 := hr.symm.trans (et (bnd_of hr30) (et (iN h35) (et (bnd_of hr43) (et (ip h47) (et (bnd_of hr54) (et (ip h58) (et (ip h59) (et (bnd_of hr66) (ip h70)))))))))
 exact ⟨rfl, H71⟩
 refine jT (dT h70) (sr (An rfl (rt (tR (rs ?_)))))
 have H72 := H69.pk []
 obtain rfl : _ = 180 := hr.symm.trans (et (bnd_of hr30) (et (iN h35) (et (bnd_of hr43) (et (ip h47) (et (bnd_of hr54) (et (ip h58) (et (ip h59) (et (bnd_of hr66) (iN h70)))))))))
 exact ⟨rfl, H72⟩
 refine jF (dF h59) (sr (Kz (.bool (decide (p0.xKind = 2))) (An rfl ?_)))
 by_cases h73 : p0.xKind = 2
 refine jT (dT h73) (Wp.region (Kz (.pointer (some ⟨g21, 4, none⟩)) (Lz (.int .i64 p0.xCode) H57 0 Tryz.isAgg3 (Kz (.bool (decide (p0.xCode = 1))) (Mz rfl ?_)))))
 by_cases h74 : p0.xCode = 1
 refine Sz (dT h74) (Sz (dT h74) (Sz (dT h74) (fw (.bool true) (Yl.pickT rfl (dT h74) rfl) (Mz rfl (Gz (.pointer (some ⟨g21, 19, none⟩)) rfl (Gl (.slice A0x1 p0.xResults.ls.length c0x1) rfl H57 0 Tryz.isAgg26 ?_))))))
 obtain ⟨r80, hr81⟩ : ∃ q, r18_Results p0.xResults.ls 4 = q := ⟨_, rfl⟩
 obtain ⟨D75, HP76, ro77, bk78, rr79⟩ := Own.enter0 H57
 refine clG rfl Tryz.call31 (r18_Results_ok _ _ A0x1 p0.xResults.ls.length c0x1 d0x1 p0.xResults.ls 4 r80 HP76 hd0x1 (ro77 _ hx0x1) (fun x9 h9 => ⟨ro77 _ (hm0x1 x9 h9).1, (hm0x1 x9 h9).2⟩) rfl (by omega) hr81) ?_
 rintro _ w82 ⟨rfl, HQ83⟩
 have H84 := bk78 _ _ HQ83
 refine fw (.bool r80) (Yl.pickT rfl rfl rfl) (Az rfl (WL.nil (bN (Fin.then (Wp.seq (sr (Mz rfl (Kz (.bool (!r80)) (nt ?_)))))))))
 rcases Bool.eq_false_or_eq_true (r80) with h85 | h85
 refine jF (cn h85) (sk (sr (An rfl (rt (rs ?_)))))
 have H86 := H84.pk []
 obtain rfl : _ = 0 := hr.symm.trans (et (bnd_of hr30) (et (iN h35) (et (bnd_of hr43) (et (ip h47) (et (bnd_of hr54) (et (ip h58) (et (iN h59) (et (ip h73) (et (ip h74) (et (bnd_of hr81) (ip h85)))))))))))
 exact ⟨rfl, H86⟩
 refine jT (cn h85) (sr (An rfl (rt (tR (rs ?_)))))
 have H87 := H84.pk []
 obtain rfl : _ = 180 := hr.symm.trans (et (bnd_of hr30) (et (iN h35) (et (bnd_of hr43) (et (ip h47) (et (bnd_of hr54) (et (ip h58) (et (iN h59) (et (ip h73) (et (ip h74) (et (bnd_of hr81) (ifF h85)))))))))))
 exact ⟨rfl, H87⟩
 refine Gz (.pointer (some ⟨g21, 4, none⟩)) (dF h74) (Gl (.int .i64 p0.xCode) (dF h74) H57 0 Tryz.isAgg3 (Gz (.bool (decide (p0.xCode = 2))) (dF h74) (fw (.bool (decide (p0.xCode = 2))) (Yl.pickF rfl (dF h74) rfl) (Mz rfl ?_))))
 by_cases h88 : p0.xCode = 2
 refine Gz (.pointer (some ⟨g21, 19, none⟩)) (dT h88) (Gl (.slice A0x1 p0.xResults.ls.length c0x1) (dT h88) H57 0 Tryz.isAgg26 ?_)
 obtain ⟨r94, hr95⟩ : ∃ q, r18_Results p0.xResults.ls 4 = q := ⟨_, rfl⟩
 obtain ⟨D89, HP90, ro91, bk92, rr93⟩ := Own.enter0 H57
 refine clG (dT h88) Tryz.call31 (r18_Results_ok _ _ A0x1 p0.xResults.ls.length c0x1 d0x1 p0.xResults.ls 4 r94 HP90 hd0x1 (ro91 _ hx0x1) (fun x9 h9 => ⟨ro91 _ (hm0x1 x9 h9).1, (hm0x1 x9 h9).2⟩) rfl (by omega) hr95) ?_
 rintro _ w96 ⟨rfl, HQ97⟩
 have H98 := bk92 _ _ HQ97
 refine fw (.bool r94) (Yl.pickT rfl (dT h88) rfl) (Az rfl (WL.nil (bN (Fin.then (Wp.seq (sr (Mz rfl (Kz (.bool (!r94)) (nt ?_)))))))))
 rcases Bool.eq_false_or_eq_true (r94) with h99 | h99
 refine jF (cn h99) (sk (sr (An rfl (rt (rs ?_)))))
 have H100 := H98.pk []
 obtain rfl : _ = 0 := hr.symm.trans (et (bnd_of hr30) (et (iN h35) (et (bnd_of hr43) (et (ip h47) (et (bnd_of hr54) (et (ip h58) (et (iN h59) (et (ip h73) (et (iN h74) (et (ip h88) (et (bnd_of hr95) (ip h99))))))))))))
 exact ⟨rfl, H100⟩
 refine jT (cn h99) (sr (An rfl (rt (tR (rs ?_)))))
 have H101 := H98.pk []
 obtain rfl : _ = 180 := hr.symm.trans (et (bnd_of hr30) (et (iN h35) (et (bnd_of hr43) (et (ip h47) (et (bnd_of hr54) (et (ip h58) (et (iN h59) (et (ip h73) (et (iN h74) (et (ip h88) (et (bnd_of hr95) (ifF h99))))))))))))
 exact ⟨rfl, H101⟩
 refine Sz (dF h88) (Sz (dF h88) (Sz (dF h88) (fw (.bool false) (Yl.pickF rfl (dF h88) rfl) (Az rfl (WL.nil (bN (Fin.then (Wp.seq (sr (Mz rfl (Kz (.bool true) (nt (jt (sr (An rfl (rt (tR (rs ?_))))))))))))))))))
 have H102 := H57.pk []
 obtain rfl : _ = 180 := hr.symm.trans (et (bnd_of hr30) (et (iN h35) (et (bnd_of hr43) (et (ip h47) (et (bnd_of hr54) (et (ip h58) (et (iN h59) (et (ip h73) (et (iN h74) (iN h88))))))))))
 exact ⟨rfl, H102⟩
 refine jF (dF h73) (sr (Kz (.bool (decide (p0.xKind = 3))) (An rfl ?_)))
 by_cases h103 : p0.xKind = 3
 refine jT (dT h103) (Wp.region (Kz (.pointer (some ⟨g21, 18, none⟩)) (Lz (.slice A0x0 p0.xOps.ls.length c0x0) H57 0 Tryz.isAgg25 (Kz (.int .i64 ((p0.xOps.ls.length : Nat) : Int)) (Kz (.bool (decide (((p0.xOps.ls.length : Nat) : Int) ≥ 1))) (Mz rfl ?_))))))
 by_cases h104 : ((p0.xOps.ls.length : Nat) : Int) ≥ 1
 refine Gz (.pointer (some ⟨g21, 18, none⟩)) (dT h104) (Gl (.slice A0x0 p0.xOps.ls.length c0x0) (dT h104) H57 0 Tryz.isAgg25 (Gz (.int .i64 ((p0.xOps.ls.length : Nat) : Int)) (dT h104) (Gz (.bool (decide (((p0.xOps.ls.length : Nat) : Int) ≤ 24))) (dT h104) (fw (.bool (decide (((p0.xOps.ls.length : Nat) : Int) ≤ 24))) (Yl.pickT rfl (dT h104) rfl) (Mz rfl ?_)))))
 by_cases h105 : ((p0.xOps.ls.length : Nat) : Int) ≤ 24
 refine Gz (.pointer (some ⟨g21, 18, none⟩)) (dT h105) (Gl (.slice A0x0 p0.xOps.ls.length c0x0) (dT h105) H57 0 Tryz.isAgg25 ?_)
 obtain ⟨r111, hr112⟩ : ∃ q, r04_All p0.xOps.ls = q := ⟨_, rfl⟩
 obtain ⟨D106, HP107, ro108, bk109, rr110⟩ := Own.enter0 H57
 refine clG (dT h105) Tryz.call32 (r04_All_ok _ _ A0x0 p0.xOps.ls.length c0x0 p0.xOps.ls r111 HP107 (ro108 _ hx0x0) rfl (by omega) hr112) ?_
 rintro _ w113 ⟨rfl, HQ114⟩
 have H115 := bk109 _ _ HQ114
 refine Gz (.bool (decide (r111 = 0))) (dT h105) (fw (.bool (decide (r111 = 0))) (Yl.pickT rfl (dT h105) rfl) (Az rfl (WL.nil (bN (Fin.then (Wp.seq (sr (Mz rfl (fw (.bool (decide (¬ (r111 = 0)))) (Yl.bool (e := !(decide (r111 = 0))) yk decide_not.symm) (nt ?_))))))))))
 by_cases h116 : r111 = 0
 refine jF (dF (not_not_intro h116)) (sk (sr (An rfl (rt (rs ?_)))))
 have H117 := H115.pk []
 obtain rfl : _ = 0 := hr.symm.trans (et (bnd_of hr30) (et (iN h35) (et (bnd_of hr43) (et (ip h47) (et (bnd_of hr54) (et (ip h58) (et (iN h59) (et (iN h73) (et (ip h103) (et (ip h104) (et (ip h105) (et (bnd_of hr112) (ip h116)))))))))))))
 exact ⟨rfl, H117⟩
 refine jT (dT h116) (sr (An rfl (rt (tR (rs ?_)))))
 have H118 := H115.pk []
 obtain rfl : _ = 180 := hr.symm.trans (et (bnd_of hr30) (et (iN h35) (et (bnd_of hr43) (et (ip h47) (et (bnd_of hr54) (et (ip h58) (et (iN h59) (et (iN h73) (et (ip h103) (et (ip h104) (et (ip h105) (et (bnd_of hr112) (iN h116)))))))))))))
 exact ⟨rfl, H118⟩
 refine Sz (dF h105) (Sz (dF h105) (Sz (dF h105) (Sz (dF h105) (fw (.bool false) (Yl.pickF rfl (dF h105) rfl) (Az rfl (WL.nil (bN (Fin.then (Wp.seq (sr (Mz rfl (Kz (.bool true) (nt (jt (sr (An rfl (rt (tR (rs ?_)))))))))))))))))))
 have H119 := H57.pk []
 obtain rfl : _ = 180 := hr.symm.trans (et (bnd_of hr30) (et (iN h35) (et (bnd_of hr43) (et (ip h47) (et (bnd_of hr54) (et (ip h58) (et (iN h59) (et (iN h73) (et (ip h103) (et (ip h104) (iN h105)))))))))))
 exact ⟨rfl, H119⟩
 refine Sz (dF h104) (Sz (dF h104) (Sz (dF h104) (Sz (dF h104) (fw (.bool false) (Yl.pickF rfl (dF h104) rfl) (Mz rfl (Sz rfl (Sz rfl (Sz rfl (Sz rfl (fw (.bool false) (Yl.pickF rfl rfl rfl) (Az rfl (WL.nil (bN (Fin.then (Wp.seq (sr (Mz rfl (Kz (.bool true) (nt (jt (sr (An rfl (rt (tR (rs ?_)))))))))))))))))))))))))
 have H120 := H57.pk []
 obtain rfl : _ = 180 := hr.symm.trans (et (bnd_of hr30) (et (iN h35) (et (bnd_of hr43) (et (ip h47) (et (bnd_of hr54) (et (ip h58) (et (iN h59) (et (iN h73) (et (ip h103) (iN h104))))))))))
 exact ⟨rfl, H120⟩
 refine jF (dF h103) (sr (Kz (.bool (decide (p0.xKind = 4))) (An rfl ?_)))
 by_cases h121 : p0.xKind = 4
 refine jT (dT h121) (Wp.region (Kz (.pointer (some ⟨g21, 4, none⟩)) (Lz (.int .i64 p0.xCode) H57 0 Tryz.isAgg3 (Kz (.bool (decide (p0.xCode = 3))) (Mz rfl ?_)))))
 by_cases h122 : p0.xCode = 3
 refine Sz (dT h122) (Sz (dT h122) (Sz (dT h122) (fw (.bool true) (Yl.pickT rfl (dT h122) rfl) (Mz rfl (Sz rfl (Sz rfl (Sz rfl (fw (.bool true) (Yl.pickT rfl rfl rfl) (Mz rfl (Gz (.pointer (some ⟨g21, 19, none⟩)) rfl (Gl (.slice A0x1 p0.xResults.ls.length c0x1) rfl H57 0 Tryz.isAgg26 ?_)))))))))))
 obtain ⟨r128, hr129⟩ : ∃ q, r18_Results p0.xResults.ls 24 = q := ⟨_, rfl⟩
 obtain ⟨D123, HP124, ro125, bk126, rr127⟩ := Own.enter0 H57
 refine clG rfl Tryz.call31 (r18_Results_ok _ _ A0x1 p0.xResults.ls.length c0x1 d0x1 p0.xResults.ls 24 r128 HP124 hd0x1 (ro125 _ hx0x1) (fun x9 h9 => ⟨ro125 _ (hm0x1 x9 h9).1, (hm0x1 x9 h9).2⟩) rfl (by omega) hr129) ?_
 rintro _ w130 ⟨rfl, HQ131⟩
 have H132 := bk126 _ _ HQ131
 refine fw (.bool r128) (Yl.pickT rfl rfl rfl) (Az rfl (WL.nil (bN (Fin.then (Wp.seq (sr (Mz rfl (Kz (.bool (!r128)) (nt ?_)))))))))
 rcases Bool.eq_false_or_eq_true (r128) with h133 | h133
 refine jF (cn h133) (sk (sr (An rfl (rt (rs ?_)))))
 have H134 := H132.pk []
 obtain rfl : _ = 0 := hr.symm.trans (et (bnd_of hr30) (et (iN h35) (et (bnd_of hr43) (et (ip h47) (et (bnd_of hr54) (et (ip h58) (et (iN h59) (et (iN h73) (et (iN h103) (et (ip h121) (et (ip h122) (et (bnd_of hr129) (ip h133)))))))))))))
 exact ⟨rfl, H134⟩
 refine jT (cn h133) (sr (An rfl (rt (tR (rs ?_)))))
 have H135 := H132.pk []
 obtain rfl : _ = 180 := hr.symm.trans (et (bnd_of hr30) (et (iN h35) (et (bnd_of hr43) (et (ip h47) (et (bnd_of hr54) (et (ip h58) (et (iN h59) (et (iN h73) (et (iN h103) (et (ip h121) (et (ip h122) (et (bnd_of hr129) (ifF h133)))))))))))))
 exact ⟨rfl, H135⟩
 refine Gz (.pointer (some ⟨g21, 4, none⟩)) (dF h122) (Gl (.int .i64 p0.xCode) (dF h122) H57 0 Tryz.isAgg3 (Gz (.bool (decide (p0.xCode = 4))) (dF h122) (fw (.bool (decide (p0.xCode = 4))) (Yl.pickF rfl (dF h122) rfl) (Mz rfl ?_))))
 by_cases h136 : p0.xCode = 4
 refine Sz (dT h136) (Sz (dT h136) (Sz (dT h136) (fw (.bool true) (Yl.pickT rfl (dT h136) rfl) (Mz rfl (Gz (.pointer (some ⟨g21, 19, none⟩)) rfl (Gl (.slice A0x1 p0.xResults.ls.length c0x1) rfl H57 0 Tryz.isAgg26 ?_))))))
 obtain ⟨r142, hr143⟩ : ∃ q, r18_Results p0.xResults.ls 24 = q := ⟨_, rfl⟩
 obtain ⟨D137, HP138, ro139, bk140, rr141⟩ := Own.enter0 H57
 refine clG rfl Tryz.call31 (r18_Results_ok _ _ A0x1 p0.xResults.ls.length c0x1 d0x1 p0.xResults.ls 24 r142 HP138 hd0x1 (ro139 _ hx0x1) (fun x9 h9 => ⟨ro139 _ (hm0x1 x9 h9).1, (hm0x1 x9 h9).2⟩) rfl (by omega) hr143) ?_
 rintro _ w144 ⟨rfl, HQ145⟩
 have H146 := bk140 _ _ HQ145
 refine fw (.bool r142) (Yl.pickT rfl rfl rfl) (Az rfl (WL.nil (bN (Fin.then (Wp.seq (sr (Mz rfl (Kz (.bool (!r142)) (nt ?_)))))))))
 rcases Bool.eq_false_or_eq_true (r142) with h147 | h147
 refine jF (cn h147) (sk (sr (An rfl (rt (rs ?_)))))
 have H148 := H146.pk []
 obtain rfl : _ = 0 := hr.symm.trans (et (bnd_of hr30) (et (iN h35) (et (bnd_of hr43) (et (ip h47) (et (bnd_of hr54) (et (ip h58) (et (iN h59) (et (iN h73) (et (iN h103) (et (ip h121) (et (iN h122) (et (ip h136) (et (bnd_of hr143) (ip h147))))))))))))))
 exact ⟨rfl, H148⟩
 refine jT (cn h147) (sr (An rfl (rt (tR (rs ?_)))))
 have H149 := H146.pk []
 obtain rfl : _ = 180 := hr.symm.trans (et (bnd_of hr30) (et (iN h35) (et (bnd_of hr43) (et (ip h47) (et (bnd_of hr54) (et (ip h58) (et (iN h59) (et (iN h73) (et (iN h103) (et (ip h121) (et (iN h122) (et (ip h136) (et (bnd_of hr143) (ifF h147))))))))))))))
 exact ⟨rfl, H149⟩
 refine Gz (.pointer (some ⟨g21, 4, none⟩)) (dF h136) (Gl (.int .i64 p0.xCode) (dF h136) H57 0 Tryz.isAgg3 (Gz (.bool (decide (p0.xCode = 5))) (dF h136) (fw (.bool (decide (p0.xCode = 5))) (Yl.pickF rfl (dF h136) rfl) (Mz rfl ?_))))
 by_cases h150 : p0.xCode = 5
 refine Gz (.pointer (some ⟨g21, 19, none⟩)) (dT h150) (Gl (.slice A0x1 p0.xResults.ls.length c0x1) (dT h150) H57 0 Tryz.isAgg26 ?_)
 obtain ⟨r156, hr157⟩ : ∃ q, r18_Results p0.xResults.ls 24 = q := ⟨_, rfl⟩
 obtain ⟨D151, HP152, ro153, bk154, rr155⟩ := Own.enter0 H57
 refine clG (dT h150) Tryz.call31 (r18_Results_ok _ _ A0x1 p0.xResults.ls.length c0x1 d0x1 p0.xResults.ls 24 r156 HP152 hd0x1 (ro153 _ hx0x1) (fun x9 h9 => ⟨ro153 _ (hm0x1 x9 h9).1, (hm0x1 x9 h9).2⟩) rfl (by omega) hr157) ?_
 rintro _ w158 ⟨rfl, HQ159⟩
 have H160 := bk154 _ _ HQ159
 refine fw (.bool r156) (Yl.pickT rfl (dT h150) rfl) (Az rfl (WL.nil (bN (Fin.then (Wp.seq (sr (Mz rfl (Kz (.bool (!r156)) (nt ?_)))))))))
 rcases Bool.eq_false_or_eq_true (r156) with h161 | h161
 refine jF (cn h161) (sk (sr (An rfl (rt (rs ?_)))))
 have H162 := H160.pk []
 obtain rfl : _ = 0 := hr.symm.trans (et (bnd_of hr30) (et (iN h35) (et (bnd_of hr43) (et (ip h47) (et (bnd_of hr54) (et (ip h58) (et (iN h59) (et (iN h73) (et (iN h103) (et (ip h121) (et (iN h122) (et (iN h136) (et (ip h150) (et (bnd_of hr157) (ip h161)))))))))))))))
 exact ⟨rfl, H162⟩
 refine jT (cn h161) (sr (An rfl (rt (tR (rs ?_)))))
 have H163 := H160.pk []
 obtain rfl : _ = 180 := hr.symm.trans (et (bnd_of hr30) (et (iN h35) (et (bnd_of hr43) (et (ip h47) (et (bnd_of hr54) (et (ip h58) (et (iN h59) (et (iN h73) (et (iN h103) (et (ip h121) (et (iN h122) (et (iN h136) (et (ip h150) (et (bnd_of hr157) (ifF h161)))))))))))))))
 exact ⟨rfl, H163⟩
 refine Sz (dF h150) (Sz (dF h150) (Sz (dF h150) (fw (.bool false) (Yl.pickF rfl (dF h150) rfl) (Az rfl (WL.nil (bN (Fin.then (Wp.seq (sr (Mz rfl (Kz (.bool true) (nt (jt (sr (An rfl (rt (tR (rs ?_))))))))))))))))))
 have H164 := H57.pk []
 obtain rfl : _ = 180 := hr.symm.trans (et (bnd_of hr30) (et (iN h35) (et (bnd_of hr43) (et (ip h47) (et (bnd_of hr54) (et (ip h58) (et (iN h59) (et (iN h73) (et (iN h103) (et (ip h121) (et (iN h122) (et (iN h136) (iN h150)))))))))))))
 exact ⟨rfl, H164⟩
 refine jF (dF h121) (sr (Kz (.bool (decide (p0.xKind = 8))) (An rfl ?_)))
 by_cases h165 : p0.xKind = 8
 refine jT (dT h165) (Wp.region (Kz (.pointer (some ⟨g21, 20, none⟩)) (Lz (.slice A0x2 p0.xOwners.ls.length c0x2) H57 0 Tryz.isAgg27 ?_)))
 obtain ⟨r171, hr172⟩ : ∃ q, r17_Check p0.xOwners.ls = q := ⟨_, rfl⟩
 obtain ⟨D166, HP167, ro168, bk169, rr170⟩ := Own.enter0 H57
 refine cl Tryz.call33 (r17_Check_ok _ _ A0x2 p0.xOwners.ls.length c0x2 p0.xOwners.ls r171 HP167 (ro168 _ hx0x2) rfl (by omega) hr172) ?_
 rintro _ w173 ⟨rfl, HQ174⟩
 have H175 := bk169 _ _ HQ174
 refine Kz (.bool (decide (r171 = 0))) (Az rfl (WL.nil (bN (Fin.then (Wp.seq (sr (Mz rfl (fw (.bool (decide (¬ (r171 = 0)))) (Yl.bool (e := !(decide (r171 = 0))) yk decide_not.symm) (nt ?_)))))))))
 by_cases h176 : r171 = 0
 refine jF (dF (not_not_intro h176)) (sk (sr (An rfl (rt (rs ?_)))))
 have H177 := H175.pk []
 obtain rfl : _ = 0 := hr.symm.trans (et (bnd_of hr30) (et (iN h35) (et (bnd_of hr43) (et (ip h47) (et (bnd_of hr54) (et (ip h58) (et (iN h59) (et (iN h73) (et (iN h103) (et (iN h121) (et (ip h165) (et (bnd_of hr172) (ip h176)))))))))))))
 exact ⟨rfl, H177⟩
 refine jT (dT h176) (sr (An rfl (rt (tR (rs ?_)))))
 have H178 := H175.pk []
 obtain rfl : _ = 180 := hr.symm.trans (et (bnd_of hr30) (et (iN h35) (et (bnd_of hr43) (et (ip h47) (et (bnd_of hr54) (et (ip h58) (et (iN h59) (et (iN h73) (et (iN h103) (et (iN h121) (et (ip h165) (et (bnd_of hr172) (iN h176)))))))))))))
 exact ⟨rfl, H178⟩
 refine jF (dF h165) (sr (Kz (.bool (decide (p0.xKind = 10))) (An rfl ?_)))
 by_cases h179 : p0.xKind = 10
 refine jT (dT h179) (Wp.region (Kz (.pointer (some ⟨g21, 5, none⟩)) (Lz (.int .i64 p0.xPeer) H57 0 Tryz.isAgg3 ?_)))
 obtain ⟨r185, hr186⟩ : ∃ q, r18_shard p0.xPeer = q := ⟨_, rfl⟩
 obtain ⟨D180, HP181, ro182, bk183, rr184⟩ := Own.enter0 H57
 refine cl Tryz.call34 (r18_shard_ok _ _ p0.xPeer r185 HP181 hr186) ?_
 rintro _ w187 ⟨rfl, HQ188⟩
 have H189 := bk183 _ _ HQ188
 refine Mz rfl ?_
 rcases Bool.eq_false_or_eq_true (r185) with h190 | h190
 refine Gz (.pointer (some ⟨g21, 16, none⟩)) h190 (Ga (RangeD.cells p0.xRange) h190 H189 0 Tryz.isAgg24 Tryz.sizeOf24 ?_)
 obtain ⟨r196, hr197⟩ : ∃ q, r02_Check p0.xRange = q := ⟨_, rfl⟩
 obtain ⟨D191, HP192, ro193, bk194, rr195⟩ := Own.enter0 H189
 refine WL.doG rfl rfl h190 rfl (Do.call Tryz.call35 rfl (r02_Check_ok _ _ p0.xRange r196 HP192 hr197) ?_)
 rintro _ w198 ⟨rfl, HQ199⟩
 have H200 := bk194 _ _ HQ199
 refine Gz (.bool (decide (r196 = 0))) h190 (fw (.bool (decide (r196 = 0))) (Yl.pickT rfl h190 rfl) (Az rfl (WL.nil (bN (Fin.then (Wp.seq (sr (Mz rfl (fw (.bool (decide (¬ (r196 = 0)))) (Yl.bool (e := !(decide (r196 = 0))) yk decide_not.symm) (nt ?_))))))))))
 by_cases h201 : r196 = 0
 refine jF (dF (not_not_intro h201)) (sk (sr (An rfl (rt (rs ?_)))))
 have H202 := H200.pk []
 obtain rfl : _ = 0 := hr.symm.trans (et (bnd_of hr30) (et (iN h35) (et (bnd_of hr43) (et (ip h47) (et (bnd_of hr54) (et (ip h58) (et (iN h59) (et (iN h73) (et (iN h103) (et (iN h121) (et (iN h165) (et (ip h179) (et (bnd_of hr186) (et (ip h190) (et (bnd_of hr197) (ip h201))))))))))))))))
 exact ⟨rfl, H202⟩
 refine jT (dT h201) (sr (An rfl (rt (tR (rs ?_)))))
 have H203 := H200.pk []
 obtain rfl : _ = 180 := hr.symm.trans (et (bnd_of hr30) (et (iN h35) (et (bnd_of hr43) (et (ip h47) (et (bnd_of hr54) (et (ip h58) (et (iN h59) (et (iN h73) (et (iN h103) (et (iN h121) (et (iN h165) (et (ip h179) (et (bnd_of hr186) (et (ip h190) (et (bnd_of hr197) (iN h201))))))))))))))))
 exact ⟨rfl, H203⟩
 refine Sz h190 (Sz h190 (Sz h190 (Sz h190 (fw (.bool false) (Yl.pickF rfl h190 rfl) (Az rfl (WL.nil (bN (Fin.then (Wp.seq (sr (Mz rfl (Kz (.bool true) (nt (jt (sr (An rfl (rt (tR (rs ?_)))))))))))))))))))
 have H204 := H189.pk []
 obtain rfl : _ = 180 := hr.symm.trans (et (bnd_of hr30) (et (iN h35) (et (bnd_of hr43) (et (ip h47) (et (bnd_of hr54) (et (ip h58) (et (iN h59) (et (iN h73) (et (iN h103) (et (iN h121) (et (iN h165) (et (ip h179) (et (bnd_of hr186) (ifF h190))))))))))))))
 exact ⟨rfl, H204⟩
 refine jF (dF h179) (sr (Kz (.bool (decide (p0.xKind = 11))) (An rfl ?_)))
 by_cases h205 : p0.xKind = 11
 refine jT (dT h205) (sr (Kz (.pointer (some ⟨g21, 18, none⟩)) (Lz (.slice A0x0 p0.xOps.ls.length c0x0) H57 0 Tryz.isAgg25 (Kz (.int .i64 ((p0.xOps.ls.length : Nat) : Int)) (Kz (.bool (decide (((p0.xOps.ls.length : Nat) : Int) ≤ 6))) (Mz rfl ?_))))))
 by_cases h206 : ((p0.xOps.ls.length : Nat) : Int) ≤ 6
 refine Gz (.pointer (some ⟨g21, 18, none⟩)) (dT h206) (Gl (.slice A0x0 p0.xOps.ls.length c0x0) (dT h206) H57 0 Tryz.isAgg25 ?_)
 obtain ⟨r212, hr213⟩ : ∃ q, r04_All p0.xOps.ls = q := ⟨_, rfl⟩
 obtain ⟨D207, HP208, ro209, bk210, rr211⟩ := Own.enter0 H57
 refine clG (dT h206) Tryz.call32 (r04_All_ok _ _ A0x0 p0.xOps.ls.length c0x0 p0.xOps.ls r212 HP208 (ro209 _ hx0x0) rfl (by omega) hr213) ?_
 rintro _ w214 ⟨rfl, HQ215⟩
 have H216 := bk210 _ _ HQ215
 refine Gz (.bool (decide (r212 = 0))) (dT h206) (fw (.bool (decide (r212 = 0))) (Yl.pickT rfl (dT h206) rfl) (Mz rfl ?_))
 by_cases h217 : r212 = 0
 refine Gz (.pointer (some ⟨g21, 16, none⟩)) (dT h217) (Ga (RangeD.cells p0.xRange) (dT h217) H216 0 Tryz.isAgg24 Tryz.sizeOf24 ?_)
 obtain ⟨r223, hr224⟩ : ∃ q, r02_Check p0.xRange = q := ⟨_, rfl⟩
 obtain ⟨D218, HP219, ro220, bk221, rr222⟩ := Own.enter0 H216
 refine clG (dT h217) Tryz.call35 (r02_Check_ok _ _ p0.xRange r223 HP219 hr224) ?_
 rintro _ w225 ⟨rfl, HQ226⟩
 have H227 := bk221 _ _ HQ226
 refine Gz (.bool (decide (r223 = 0))) (dT h217) (fw (.bool (decide (r223 = 0))) (Yl.pickT rfl (dT h217) rfl) (Ar rfl (Kz (.pointer (some ⟨g21, 18, none⟩)) (Lz (.slice A0x0 p0.xOps.ls.length c0x0) H227 0 Tryz.isAgg25 (Kz (.int .i64 ((p0.xOps.ls.length : Nat) : Int)) (Mn rfl (bo ?_)))))))
 have H231 := H227.pk []
 obtain ⟨I235, hI236⟩ : ∃ q : (Bool × Nat) → World → Prop, q = fun (i : Bool × Nat) w' => Own w D w' [] ∧ (i.2 ≤ p0.xOps.ls.length ∧ r18_Check_L0 p0.xOps.ls (decide (r223 = 0)) = r18_Check_L0 (List.drop i.2 p0.xOps.ls) i.1) := ⟨_, rfl⟩
 have dm237 : ∀ {b228 : Bool} {k229 : Nat} {w' : World}, I235 (b228, k229) w' ↔ Own w D w' [] ∧ k229 ≤ p0.xOps.ls.length ∧ r18_Check_L0 p0.xOps.ls (decide (r223 = 0)) = r18_Check_L0 (List.drop k229 p0.xOps.ls) b228 := by intros; subst hI236; exact Iff.rfl
 refine Wp.loop (fun i : Bool × Nat => [(3, .bool i.1), (119, .int .i64 ((i.2 : Nat) : Int)), (118, .int .i64 ((p0.xOps.ls.length : Nat) : Int)), (117, .slice A0x0 p0.xOps.ls.length c0x0), (2, .int .i64 0)]) I235 (fun i => p0.xOps.ls.length - i.2) (decide (r223 = 0), 0) ⟨rfl, rfl, rfl, rfl, rfl, trivial⟩ (dm237.2 ⟨H231, by omega, rfl⟩) ?_
 rintro ⟨b228, k229⟩ w232 hf234
 show Wp _ _ _ [(3, .bool b228), (119, .int .i64 ((k229 : Nat) : Int)), (118, .int .i64 ((p0.xOps.ls.length : Nat) : Int)), (117, .slice A0x0 p0.xOps.ls.length c0x0), (2, .int .i64 0)] _ _
 obtain ⟨H233, hi239, hq238⟩ := dm237.1 hf234
 refine sr (Kz (.bool (decide (((k229 : Nat) : Int) < ((p0.xOps.ls.length : Nat) : Int)))) (nt (Wp.seq ?_)))
 by_cases h240 : ((k229 : Nat) : Int) < ((p0.xOps.ls.length : Nat) : Int)
 obtain ⟨x241, hx242⟩ := rds_at (ls := p0.xOps.ls) (i := k229) OpD.len (by decide) (H233.ro hx0x0) (by first | omega | (simp; done) | (simp; omega))
 have hd243 := drop_at hx242
 refine jT (dT h240) (sk (Wp.seq (bo (sr (fw (.pointer (some ⟨ab A0x0, ao A0x0 + k229 * 6, none⟩)) (Yl.indexAddr (El25) rfl rfl ((H233.ro hx0x0).addr (i := k229) (by omega)) (by omega)) (fw (.agg (OpD.cells x241).toArray) (Yl.load rfl (Lds.agg (cs := (OpD.cells x241)) Tryz.isAgg64 Tryz.sizeOf64 ((H233.ro hx0x0).elem OpD.len hx242 (by decide)))) ?_))))))
 refine npw [.int .i64 0, .string ⟨List.toArray ([])⟩, .string ⟨List.toArray ([])⟩, .string ⟨List.toArray ([])⟩, .string ⟨List.toArray ([])⟩, .int .i64 0] 64 H233 ?_
 intro g244 w245 H246
 refine sto (OpD.cells x241) 0 H246 Tryz.sizeOf64 ?_
 intro w247 H248
 refine nt (Wp.region (Mz rfl (Mz rfl ?_)))
 rcases Bool.eq_false_or_eq_true (b228) with h249 | h249
 refine Ga (OpD.cells x241) h249 H248 0 Tryz.isAgg64 Tryz.sizeOf64 ?_
 obtain ⟨r255, hr256⟩ : ∃ q, r04_Writes x241 = q := ⟨_, rfl⟩
 obtain ⟨D250, HP251, ro252, bk253, rr254⟩ := Own.enter0 H248
 refine WL.doG rfl rfl h249 rfl (Do.call Tryz.call36 rfl (r04_Writes_ok _ _ x241 r255 HP251 hr256) ?_)
 rintro _ w257 ⟨rfl, HQ258⟩
 have H259 := bk253 _ _ HQ258
 refine fw (.bool r255) (Yl.pickT rfl h249 rfl) (Az rfl (WL.nil (bN (Fin.then (Wp.region (fw (.int .i64 ((k229 + 1 : Nat) : Int)) (Yl.int (e := IntKind.i64.wrap (((k229 : Nat) : Int) + 1)) yk (by rw [IntWalk.i64_in _ (by omega)]; omega)) (Mz rfl (WL.nil ?_))))))))
 have H260 := H259.pk []
 exact Fin.round (r255, k229 + 1) ⟨rfl, rfl, rfl, rfl, rfl, trivial⟩ (dm237.2 ⟨H260, by omega, et (hq238) (et (congrArg (fun q => r18_Check_L0 q b228) hd243) (et (ip h249) (bnd_of hr256)))⟩) (by show p0.xOps.ls.length - (k229 + 1) < p0.xOps.ls.length - k229; omega)
 refine Sz h249 (Sz h249 (fw (.bool false) (Yl.pickF rfl h249 rfl) (Az rfl (WL.nil (bN (Fin.then (Wp.region (fw (.int .i64 ((k229 + 1 : Nat) : Int)) (Yl.int (e := IntKind.i64.wrap (((k229 : Nat) : Int) + 1)) yk (by rw [IntWalk.i64_in _ (by omega)]; omega)) (Mz rfl (WL.nil ?_))))))))))
 have H261 := H248.pk []
 exact Fin.round (false, k229 + 1) ⟨rfl, rfl, rfl, rfl, rfl, trivial⟩ (dm237.2 ⟨H261, (show (k229 + 1) ≤ p0.xOps.ls.length ∧ r18_Check_L0 p0.xOps.ls (decide (r223 = 0)) = r18_Check_L0 (List.drop (k229 + 1) p0.xOps.ls) false from ⟨by omega, et (hq238) (et (congrArg (fun q => r18_Check_L0 q b228) hd243) (ifF h249))⟩)⟩) (by show p0.xOps.ls.length - (k229 + 1) < p0.xOps.ls.length - k229; omega)
 refine jF (dF h240) (Wp.exit (Fin.thenX ?_))
 have hL262 : r18_Check_L0 p0.xOps.ls (decide (r223 = 0)) = b228 := et (hq238) (et (congrArg (fun q => r18_Check_L0 q b228) (drop_end (ls := p0.xOps.ls) (i := k229) (by omega))) rfl)
 refine Fin.thenX (Fin.blockX (bN (Fin.then (Wp.seq (sr (Mz rfl (Kz (.bool (!b228)) (nt ?_))))))))
 rcases Bool.eq_false_or_eq_true (b228) with h263 | h263
 refine jF (cn h263) (sk (sr (An rfl (rt (rs ?_)))))
 have H264 := H233.pk []
 obtain rfl : _ = 0 := hr.symm.trans (et (bnd_of hr30) (et (iN h35) (et (bnd_of hr43) (et (ip h47) (et (bnd_of hr54) (et (ip h58) (et (iN h59) (et (iN h73) (et (iN h103) (et (iN h121) (et (iN h165) (et (iN h179) (et (ip h205) (et (ip h206) (et (bnd_of hr213) (et (ip h217) (et (bnd_of hr224) (et (bnd_of hL262) (ip h263)))))))))))))))))))
 exact ⟨rfl, H264⟩
 refine jT (cn h263) (sr (An rfl (rt (tR (rs ?_)))))
 have H265 := H233.pk []
 obtain rfl : _ = 180 := hr.symm.trans (et (bnd_of hr30) (et (iN h35) (et (bnd_of hr43) (et (ip h47) (et (bnd_of hr54) (et (ip h58) (et (iN h59) (et (iN h73) (et (iN h103) (et (iN h121) (et (iN h165) (et (iN h179) (et (ip h205) (et (ip h206) (et (bnd_of hr213) (et (ip h217) (et (bnd_of hr224) (et (bnd_of hL262) (ifF h263)))))))))))))))))))
 exact ⟨rfl, H265⟩
 refine Sz (dF h217) (Sz (dF h217) (Sz (dF h217) (Sz (dF h217) (fw (.bool false) (Yl.pickF rfl (dF h217) rfl) (Ar rfl (Kz (.pointer (some ⟨g21, 18, none⟩)) (Lz (.slice A0x0 p0.xOps.ls.length c0x0) H216 0 Tryz.isAgg25 (Kz (.int .i64 ((p0.xOps.ls.length : Nat) : Int)) (Mn rfl (bo ?_))))))))))
 have H268 := H216.pk []
 obtain ⟨I272, hI273⟩ : ∃ q : Nat → World → Prop, q = fun (i : Nat) w' => Own w D w' [] ∧ (i ≤ p0.xOps.ls.length ∧ r18_Check_L1 p0.xOps.ls = r18_Check_L1 (List.drop i p0.xOps.ls)) := ⟨_, rfl⟩
 have dm274 : ∀ {k266 : Nat} {w' : World}, I272 k266 w' ↔ Own w D w' [] ∧ k266 ≤ p0.xOps.ls.length ∧ r18_Check_L1 p0.xOps.ls = r18_Check_L1 (List.drop k266 p0.xOps.ls) := by intros; subst hI273; exact Iff.rfl
 refine Wp.loop (fun i : Nat => [(3, .bool false), (119, .int .i64 ((i : Nat) : Int)), (118, .int .i64 ((p0.xOps.ls.length : Nat) : Int)), (117, .slice A0x0 p0.xOps.ls.length c0x0), (2, .int .i64 0)]) I272 (fun i => p0.xOps.ls.length - i) 0 ⟨rfl, rfl, rfl, rfl, rfl, trivial⟩ (dm274.2 ⟨H268, by omega, rfl⟩) ?_
 rintro k266 w269 hf271
 show Wp _ _ _ [(3, .bool false), (119, .int .i64 ((k266 : Nat) : Int)), (118, .int .i64 ((p0.xOps.ls.length : Nat) : Int)), (117, .slice A0x0 p0.xOps.ls.length c0x0), (2, .int .i64 0)] _ _
 obtain ⟨H270, hi276, hq275⟩ := dm274.1 hf271
 refine sr (Kz (.bool (decide (((k266 : Nat) : Int) < ((p0.xOps.ls.length : Nat) : Int)))) (nt (Wp.seq ?_)))
 by_cases h277 : ((k266 : Nat) : Int) < ((p0.xOps.ls.length : Nat) : Int)
 obtain ⟨x278, hx279⟩ := rds_at (ls := p0.xOps.ls) (i := k266) OpD.len (by decide) (H270.ro hx0x0) (by first | omega | (simp; done) | (simp; omega))
 have hd280 := drop_at hx279
 refine jT (dT h277) (sk (Wp.seq (bo (sr (fw (.pointer (some ⟨ab A0x0, ao A0x0 + k266 * 6, none⟩)) (Yl.indexAddr (El25) rfl rfl ((H270.ro hx0x0).addr (i := k266) (by omega)) (by omega)) (fw (.agg (OpD.cells x278).toArray) (Yl.load rfl (Lds.agg (cs := (OpD.cells x278)) Tryz.isAgg64 Tryz.sizeOf64 ((H270.ro hx0x0).elem OpD.len hx279 (by decide)))) ?_))))))
 refine npw [.int .i64 0, .string ⟨List.toArray ([])⟩, .string ⟨List.toArray ([])⟩, .string ⟨List.toArray ([])⟩, .string ⟨List.toArray ([])⟩, .int .i64 0] 64 H270 ?_
 intro g281 w282 H283
 refine sto (OpD.cells x278) 0 H283 Tryz.sizeOf64 ?_
 intro w284 H285
 refine nt (Wp.region (Mz rfl (Mz rfl (Sz rfl (Sz rfl (fw (.bool false) (Yl.pickF rfl rfl rfl) (Az rfl (WL.nil (bN (Fin.then (Wp.region (fw (.int .i64 ((k266 + 1 : Nat) : Int)) (Yl.int (e := IntKind.i64.wrap (((k266 : Nat) : Int) + 1)) yk (by rw [IntWalk.i64_in _ (by omega)]; omega)) (Mz rfl (WL.nil ?_))))))))))))))
 have H286 := H285.pk []
 exact Fin.round (k266 + 1) ⟨rfl, rfl, rfl, rfl, rfl, trivial⟩ (dm274.2 ⟨H286, by omega, et (hq275) (et (congrArg (fun q => r18_Check_L1 q) hd280) rfl)⟩) (by show p0.xOps.ls.length - (k266 + 1) < p0.xOps.ls.length - k266; omega)
 refine jF (dF h277) (Wp.exit (Fin.thenX ?_))
 have hL287 : r18_Check_L1 p0.xOps.ls = () := et (hq275) (et (congrArg (fun q => r18_Check_L1 q) (drop_end (ls := p0.xOps.ls) (i := k266) (by omega))) rfl)
 refine Fin.thenX (Fin.blockX (bN (Fin.then (Wp.seq (sr (Mz rfl (Kz (.bool true) (nt (jt (sr (An rfl (rt (tR (rs ?_))))))))))))))
 have H288 := H270.pk []
 obtain rfl : _ = 180 := hr.symm.trans (et (bnd_of hr30) (et (iN h35) (et (bnd_of hr43) (et (ip h47) (et (bnd_of hr54) (et (ip h58) (et (iN h59) (et (iN h73) (et (iN h103) (et (iN h121) (et (iN h165) (et (iN h179) (et (ip h205) (et (ip h206) (et (bnd_of hr213) (et (iN h217) (bnd_of hL287)))))))))))))))))
 exact ⟨rfl, H288⟩
 refine Sz (dF h206) (Sz (dF h206) (Sz (dF h206) (Sz (dF h206) (fw (.bool false) (Yl.pickF rfl (dF h206) rfl) (Mz rfl (Sz rfl (Sz rfl (Sz rfl (Sz rfl (fw (.bool false) (Yl.pickF rfl rfl rfl) (Ar rfl (Kz (.pointer (some ⟨g21, 18, none⟩)) (Lz (.slice A0x0 p0.xOps.ls.length c0x0) H57 0 Tryz.isAgg25 (Kz (.int .i64 ((p0.xOps.ls.length : Nat) : Int)) (Mn rfl (bo ?_))))))))))))))))
 have H291 := H57.pk []
 obtain ⟨I295, hI296⟩ : ∃ q : Nat → World → Prop, q = fun (i : Nat) w' => Own w D w' [] ∧ (i ≤ p0.xOps.ls.length ∧ r18_Check_L2 p0.xOps.ls = r18_Check_L2 (List.drop i p0.xOps.ls)) := ⟨_, rfl⟩
 have dm297 : ∀ {k289 : Nat} {w' : World}, I295 k289 w' ↔ Own w D w' [] ∧ k289 ≤ p0.xOps.ls.length ∧ r18_Check_L2 p0.xOps.ls = r18_Check_L2 (List.drop k289 p0.xOps.ls) := by intros; subst hI296; exact Iff.rfl
 refine Wp.loop (fun i : Nat => [(3, .bool false), (119, .int .i64 ((i : Nat) : Int)), (118, .int .i64 ((p0.xOps.ls.length : Nat) : Int)), (117, .slice A0x0 p0.xOps.ls.length c0x0), (2, .int .i64 0)]) I295 (fun i => p0.xOps.ls.length - i) 0 ⟨rfl, rfl, rfl, rfl, rfl, trivial⟩ (dm297.2 ⟨H291, by omega, rfl⟩) ?_
 rintro k289 w292 hf294
 show Wp _ _ _ [(3, .bool false), (119, .int .i64 ((k289 : Nat) : Int)), (118, .int .i64 ((p0.xOps.ls.length : Nat) : Int)), (117, .slice A0x0 p0.xOps.ls.length c0x0), (2, .int .i64 0)] _ _
 obtain ⟨H293, hi299, hq298⟩ := dm297.1 hf294
 refine sr (Kz (.bool (decide (((k289 : Nat) : Int) < ((p0.xOps.ls.length : Nat) : Int)))) (nt (Wp.seq ?_)))
 by_cases h300 : ((k289 : Nat) : Int) < ((p0.xOps.ls.length : Nat) : Int)
 obtain ⟨x301, hx302⟩ := rds_at (ls := p0.xOps.ls) (i := k289) OpD.len (by decide) (H293.ro hx0x0) (by first | omega | (simp; done) | (simp; omega))
 have hd303 := drop_at hx302
 refine jT (dT h300) (sk (Wp.seq (bo (sr (fw (.pointer (some ⟨ab A0x0, ao A0x0 + k289 * 6, none⟩)) (Yl.indexAddr (El25) rfl rfl ((H293.ro hx0x0).addr (i := k289) (by omega)) (by omega)) (fw (.agg (OpD.cells x301).toArray) (Yl.load rfl (Lds.agg (cs := (OpD.cells x301)) Tryz.isAgg64 Tryz.sizeOf64 ((H293.ro hx0x0).elem OpD.len hx302 (by decide)))) ?_))))))
 refine npw [.int .i64 0, .string ⟨List.toArray ([])⟩, .string ⟨List.toArray ([])⟩, .string ⟨List.toArray ([])⟩, .string ⟨List.toArray ([])⟩, .int .i64 0] 64 H293 ?_
 intro g304 w305 H306
 refine sto (OpD.cells x301) 0 H306 Tryz.sizeOf64 ?_
 intro w307 H308
 refine nt (Wp.region (Mz rfl (Mz rfl (Sz rfl (Sz rfl (fw (.bool false) (Yl.pickF rfl rfl rfl) (Az rfl (WL.nil (bN (Fin.then (Wp.region (fw (.int .i64 ((k289 + 1 : Nat) : Int)) (Yl.int (e := IntKind.i64.wrap (((k289 : Nat) : Int) + 1)) yk (by rw [IntWalk.i64_in _ (by omega)]; omega)) (Mz rfl (WL.nil ?_))))))))))))))
 have H309 := H308.pk []
 exact Fin.round (k289 + 1) ⟨rfl, rfl, rfl, rfl, rfl, trivial⟩ (dm297.2 ⟨H309, by omega, et (hq298) (et (congrArg (fun q => r18_Check_L2 q) hd303) rfl)⟩) (by show p0.xOps.ls.length - (k289 + 1) < p0.xOps.ls.length - k289; omega)
 refine jF (dF h300) (Wp.exit (Fin.thenX ?_))
 have hL310 : r18_Check_L2 p0.xOps.ls = () := et (hq298) (et (congrArg (fun q => r18_Check_L2 q) (drop_end (ls := p0.xOps.ls) (i := k289) (by omega))) rfl)
 refine Fin.thenX (Fin.blockX (bN (Fin.then (Wp.seq (sr (Mz rfl (Kz (.bool true) (nt (jt (sr (An rfl (rt (tR (rs ?_))))))))))))))
 have H311 := H293.pk []
 obtain rfl : _ = 180 := hr.symm.trans (et (bnd_of hr30) (et (iN h35) (et (bnd_of hr43) (et (ip h47) (et (bnd_of hr54) (et (ip h58) (et (iN h59) (et (iN h73) (et (iN h103) (et (iN h121) (et (iN h165) (et (iN h179) (et (ip h205) (et (iN h206) (bnd_of hL310)))))))))))))))
 exact ⟨rfl, H311⟩
 refine jF (dF h205) (Wp.skip (bN (Fin.then (Wp.seq (sr (Mz rfl (Kz (.bool false) (nt (jf (sk (sr (An rfl (rt (rs ?_))))))))))))))
 have H312 := H57.pk []
 obtain rfl : _ = 0 := hr.symm.trans (et (bnd_of hr30) (et (iN h35) (et (bnd_of hr43) (et (ip h47) (et (bnd_of hr54) (et (ip h58) (et (iN h59) (et (iN h73) (et (iN h103) (et (iN h121) (et (iN h165) (et (iN h179) (iN h205)))))))))))))
 exact ⟨rfl, H312⟩
 refine jT (cn h58) (sr (An rfl (rt (tR (rs ?_)))))
 have H313 := H57.pk []
 obtain rfl : _ = 180 := hr.symm.trans (et (bnd_of hr30) (et (iN h35) (et (bnd_of hr43) (et (ip h47) (et (bnd_of hr54) (ifF h58))))))
 exact ⟨rfl, H313⟩
 refine Sz (cn h47) (Sz (cn h47) (Sz (cn h47) (fw (.bool true) (Yl.pickT rfl (cn h47) rfl) (nt (jt (sr (An rfl (rt (tR (rs ?_))))))))))
 have H314 := H46.pk []
 obtain rfl : _ = 180 := hr.symm.trans (et (bnd_of hr30) (et (iN h35) (et (bnd_of hr43) (ifF h47))))
 exact ⟨rfl, H314⟩
end Go.Proofs.YtccjclalngabhaaGreat
