/-
 locks: the document's answers.
-/
import Derived.Test.YtggnajpokhaaiaaLh
namespace Go.Proofs.Ytggnajpokhaaiaa
open Go.RowKit
set_option linter.unusedVariables false
set_option linter.unusedSectionVars false
set_option linter.unusedSimpArgs false
def r02_Check (p0 : RangeD) : Int :=
 if ((p0.xLo.length : Nat) : Int) > 12 then 21 else if ((p0.xHi.length : Nat) : Int) > 12 then 21 else if p0.xHi ≠ ([]) then if p0.xHi ≤ p0.xLo then 21 else 0 else 0
set_option maxRecDepth 100000 in
theorem r02_Check_ok (w : World) (D : Nat → Prop) (p0 : RangeD) (r0 : Int) (H : Own w D w [])  (hr : r02_Check p0 = r0) :
    Calls Try.prog 29 #[.agg (RangeD.cells p0).toArray] w (Ret fun v w' => v = .int .i64 r0 ∧ Own w D w' []) := by
 refine Calls.body (args := [.agg (RangeD.cells p0).toArray]) Try.func29 rfl rfl rfl ?_
 show Wp _ _ _ [(0, .agg (RangeD.cells p0).toArray)] _ _
 refine sr ?_
 refine npw (RangeD.cells p0) 32 H ?_
 intro g21 w22 H23
 refine An rfl (Wp.seq (sr (Kz (.pointer (some ⟨g21, 0, none⟩)) (Lz (.string ⟨List.toArray p0.xLo⟩) H23 0 Try.isAgg9 (Kz (.int .i64 ((p0.xLo.length : Nat) : Int)) (Kz (.bool (decide (((p0.xLo.length : Nat) : Int) > 12))) (Mz rfl ?_)))))))
 by_cases h24 : ((p0.xLo.length : Nat) : Int) > 12
 refine Sz (dT h24) (Sz (dT h24) (Sz (dT h24) (Sz (dT h24) (fw (.bool true) (Yl.pickT rfl (dT h24) rfl) (Mz rfl (Sz rfl (Sz rfl (Sz rfl (Sz rfl (WL.skipU rfl rfl rfl (WL.skipU rfl rfl rfl (WL.skipU rfl rfl rfl (WL.skipU rfl rfl rfl (WL.skipU rfl rfl rfl (Sz rfl (fw (.bool true) (Yl.pickT rfl rfl rfl) (nt (jt (sr (An rfl (rt (tR (rs ?_)))))))))))))))))))))))
 have H25 := H23.pk []
 obtain rfl : _ = 21 := hr.symm.trans (ip h24)
 exact ⟨rfl, H25⟩
 refine Gz (.pointer (some ⟨g21, 1, none⟩)) (dF h24) (Gl (.string ⟨List.toArray p0.xHi⟩) (dF h24) H23 0 Try.isAgg9 (Gz (.int .i64 ((p0.xHi.length : Nat) : Int)) (dF h24) (Gz (.bool (decide (((p0.xHi.length : Nat) : Int) > 12))) (dF h24) (fw (.bool (decide (((p0.xHi.length : Nat) : Int) > 12))) (Yl.pickF rfl (dF h24) rfl) (Mz rfl ?_)))))
 by_cases h26 : ((p0.xHi.length : Nat) : Int) > 12
 refine Sz (dT h26) (Sz (dT h26) (Sz (dT h26) (Sz (dT h26) (WL.skipU rfl rfl rfl (WL.skipU rfl rfl rfl (WL.skipU rfl rfl rfl (WL.skipU rfl rfl rfl (WL.skipU rfl rfl rfl (Sz (dT h26) (fw (.bool true) (Yl.pickT rfl (dT h26) rfl) (nt (jt (sr (An rfl (rt (tR (rs ?_)))))))))))))))))
 have H27 := H23.pk []
 obtain rfl : _ = 21 := hr.symm.trans (et (iN h24) (ip h26))
 exact ⟨rfl, H27⟩
 refine Gz (.pointer (some ⟨g21, 1, none⟩)) (dF h26) (Gl (.string ⟨List.toArray p0.xHi⟩) (dF h26) H23 0 Try.isAgg9 (gw (.bool (decide (p0.xHi ≠ ([])))) (dF h26) (Yl.strNe rfl rfl) (gw (.bool (decide (p0.xHi ≠ ([])))) (dF h26) (Yl.move rfl) ?_)))
 by_cases h28 : p0.xHi ≠ ([])
 refine Gz (.pointer (some ⟨g21, 0, none⟩)) (dT h28) (Gl (.string ⟨List.toArray p0.xLo⟩) (dT h28) H23 0 Try.isAgg9 (Gz (.pointer (some ⟨g21, 1, none⟩)) (dT h28) (Gl (.string ⟨List.toArray p0.xHi⟩) (dT h28) H23 0 Try.isAgg9 (gw (.bool (decide (p0.xHi ≤ p0.xLo))) (dT h28) (Yl.bool (e := !(Op.bytesLess p0.xLo p0.xHi)) (Yl.strGe rfl rfl) (bl_ge _ _)) (gw (.bool (decide (p0.xHi ≤ p0.xLo))) (dF h26) (Yl.pickT rfl (dT h28) rfl) (fw (.bool (decide (p0.xHi ≤ p0.xLo))) (Yl.pickF rfl (dF h26) rfl) (nt ?_)))))))
 by_cases h29 : p0.xHi ≤ p0.xLo
 refine jT (dT h29) (sr (An rfl (rt (tR (rs ?_)))))
 have H30 := H23.pk []
 obtain rfl : _ = 21 := hr.symm.trans (et (iN h24) (et (iN h26) (et (ip h28) (ip h29))))
 exact ⟨rfl, H30⟩
 refine jF (dF h29) (sk (sr (An rfl (rt (rs ?_)))))
 have H31 := H23.pk []
 obtain rfl : _ = 0 := hr.symm.trans (et (iN h24) (et (iN h26) (et (ip h28) (iN h29))))
 exact ⟨rfl, H31⟩
 refine Sz (dF h28) (Sz (dF h28) (Sz (dF h28) (Sz (dF h28) (Sz (dF h28) (gw (.bool false) (dF h26) (Yl.pickF rfl (dF h28) rfl) (fw (.bool false) (Yl.pickF rfl (dF h26) rfl) (nt (jf (sk (sr (An rfl (rt (rs ?_)))))))))))))
 have H32 := H23.pk []
 obtain rfl : _ = 0 := hr.symm.trans (et (iN h24) (et (iN h26) (iN h28)))
 exact ⟨rfl, H32⟩
def r02_below (p0 : List UInt8) (p1 : List UInt8) : Bool :=
 if p0 ≠ ([]) then if p1 = ([]) then true else decide (p0 < p1) else false
set_option maxRecDepth 100000 in
theorem r02_below_ok (w : World) (D : Nat → Prop) (p0 : List UInt8) (p1 : List UInt8) (r0 : Bool) (H : Own w D w [])  (hr : r02_below p0 p1 = r0) :
    Calls Try.prog 54 #[.string ⟨List.toArray p0⟩, .string ⟨List.toArray p1⟩] w (Ret fun v w' => v = .bool r0 ∧ Own w D w' []) := by
 refine Calls.body (args := [.string ⟨List.toArray p0⟩, .string ⟨List.toArray p1⟩]) Try.func54 rfl rfl rfl ?_
 show Wp _ _ _ [(0, .string ⟨List.toArray p0⟩), (1, .string ⟨List.toArray p1⟩)] _ _
 refine sr (Ar rfl (Mz rfl (fw (.bool (decide (p0 ≠ ([])))) (Yl.strNe rfl rfl) (Mz rfl ?_))))
 by_cases h21 : p0 ≠ ([])
 refine gw (.string ⟨List.toArray p1⟩) (dT h21) (Yl.move rfl) (gw (.bool (decide (p1 = ([])))) (dT h21) (Yl.strEq rfl rfl) (gw (.bool (decide (p1 = ([])))) (dT h21) (Yl.move rfl) ?_))
 by_cases h22 : p1 = ([])
 refine Sz (dT h22) (Sz (dT h22) (Sz (dT h22) (gw (.bool true) (dT h21) (Yl.pickT rfl (dT h22) rfl) (fw (.bool true) (Yl.pickT rfl (dT h21) rfl) (An rfl (rt (rs ?_)))))))
 have H23 : Own w D w [] := H.pk []
 obtain rfl : _ = true := hr.symm.trans (et (ip h21) (ip h22))
 exact ⟨rfl, H23⟩
 refine gw (.string ⟨List.toArray p0⟩) (dF h22) (Yl.move rfl) (gw (.string ⟨List.toArray p1⟩) (dF h22) (Yl.move rfl) (gw (.bool (decide (p0 < p1))) (dF h22) (Yl.bool (e := Op.bytesLess p0 p1) (Yl.strLt rfl rfl) (bl_lt _ _)) (gw (.bool (decide (p0 < p1))) (dT h21) (Yl.pickF rfl (dF h22) rfl) (fw (.bool (decide (p0 < p1))) (Yl.pickT rfl (dT h21) rfl) (An rfl (rt (rs ?_)))))))
 have H24 : Own w D w [] := H.pk []
 obtain rfl : _ = decide (p0 < p1) := hr.symm.trans (et (ip h21) (iN h22))
 exact ⟨rfl, H24⟩
 refine Sz (dF h21) (Sz (dF h21) (Sz (dF h21) (WL.skipU rfl rfl rfl (WL.skipU rfl rfl rfl (WL.skipU rfl rfl rfl (Sz (dF h21) (fw (.bool false) (Yl.pickF rfl (dF h21) rfl) (An rfl (rt (rs ?_))))))))))
 have H25 : Own w D w [] := H.pk []
 obtain rfl : _ = false := hr.symm.trans (iN h21)
 exact ⟨rfl, H25⟩
def r02_Meet (p0 : RangeD) (p1 : RangeD) : RangeD × Bool :=
 bnd (r02_Check p0) fun yr35 => if yr35 = 0 then bnd (r02_Check p1) fun yr46 => if yr46 = 0 then bnd (r02_below p1.xHi p0.xHi) fun yr62 => bnd (if yr62 = true then p1.xHi else p0.xHi) fun sJrbtbtbJ => if sJrbtbtbJ ≠ ([]) then if sJrbtbtbJ ≤ (maxL p0.xLo p1.xLo) then (RangeD.mk ([]) ([]), false) else (RangeD.mk (maxL p0.xLo p1.xLo) sJrbtbtbJ, true) else (RangeD.mk (maxL p0.xLo p1.xLo) sJrbtbtbJ, true) else (RangeD.mk ([]) ([]), false) else (RangeD.mk ([]) ([]), false)
set_option maxRecDepth 100000 in
theorem r02_Meet_ok (w : World) (D : Nat → Prop) (p0 : RangeD) (p1 : RangeD) (r0 : RangeD) (r1 : Bool) (H : Own w D w [])  (hr : r02_Meet p0 p1 = (r0, r1)) :
    Calls Try.prog 55 #[.agg (RangeD.cells p0).toArray, .agg (RangeD.cells p1).toArray] w (Ret fun v w' => v = .tuple #[.agg (RangeD.cells r0).toArray, .bool r1] ∧ Own w D w' []) := by
 refine Calls.body (args := [.agg (RangeD.cells p0).toArray, .agg (RangeD.cells p1).toArray]) Try.func55 rfl rfl rfl ?_
 show Wp _ _ _ [(0, .agg (RangeD.cells p0).toArray), (1, .agg (RangeD.cells p1).toArray)] _ _
 refine sr ?_
 refine npw (RangeD.cells p0) 32 H ?_
 intro g21 w22 H23
 refine npw (RangeD.cells p1) 32 H23 ?_
 intro g24 w25 H26
 refine npw [.string ⟨List.toArray ([])⟩, .string ⟨List.toArray ([])⟩] 32 H26 ?_
 intro g27 w28 H29
 refine An rfl (Wp.seq (sr (La (RangeD.cells p0) H29 2 Try.isAgg32 Try.sizeOf32 ?_)))
 obtain ⟨r35, hr36⟩ : ∃ q, r02_Check p0 = q := ⟨_, rfl⟩
 obtain ⟨D30, HP31, ro32, bk33, rr34⟩ := Own.enter0 H29
 refine cl Try.call29 (r02_Check_ok _ _ p0 r35 HP31 hr36) ?_
 rintro _ w37 ⟨rfl, HQ38⟩
 have H39 := bk33 _ _ HQ38
 refine fw (.bool (decide (¬ (r35 = 0)))) (Yl.bool (e := !(decide (r35 = 0))) yk decide_not.symm) (Mz rfl ?_)
 by_cases h40 : r35 = 0
 refine gw (.agg (RangeD.cells p1).toArray) (dF (not_not_intro h40)) (Yl.load rfl (Lds.agg (cs := (RangeD.cells p1)) Try.isAgg32 Try.sizeOf32 ((H39.cls (i := 1) rfl).lit (k := 0) (m := 2) rfl))) ?_
 obtain ⟨r46, hr47⟩ : ∃ q, r02_Check p1 = q := ⟨_, rfl⟩
 obtain ⟨D41, HP42, ro43, bk44, rr45⟩ := Own.enter0 H39
 refine clG (dF (not_not_intro h40)) Try.call29 (r02_Check_ok _ _ p1 r46 HP42 hr47) ?_
 rintro _ w48 ⟨rfl, HQ49⟩
 have H50 := bk44 _ _ HQ49
 refine gw (.bool (decide (¬ (r46 = 0)))) (dF (not_not_intro h40)) (Yl.bool (e := !(decide (r46 = 0))) yk decide_not.symm) (fw (.bool (decide (¬ (r46 = 0)))) (Yl.pickF rfl (dF (not_not_intro h40)) rfl) (nt ?_))
 by_cases h51 : r46 = 0
 refine jF (dF (not_not_intro h51)) (sk (sr (Kz (.pointer (some ⟨g21, 0, none⟩)) (Lz (.string ⟨List.toArray p0.xLo⟩) H50 2 Try.isAgg9 (Kz (.pointer (some ⟨g24, 0, none⟩)) (Lz (.string ⟨List.toArray p1.xLo⟩) H50 1 Try.isAgg9 (fw (.string ⟨List.toArray (maxL p0.xLo p1.xLo)⟩) (Yl.maxStr rfl) (Kz (.pointer (some ⟨g21, 1, none⟩)) (Lz (.string ⟨List.toArray p0.xHi⟩) H50 2 Try.isAgg9 (Kz (.agg #[.string ⟨List.toArray (maxL p0.xLo p1.xLo)⟩, .string ⟨List.toArray p0.xHi⟩]) ?_))))))))))
 refine npw [.string ⟨List.toArray ([])⟩, .string ⟨List.toArray ([])⟩] 32 H50 ?_
 intro g52 w53 H54
 refine sto [.string ⟨List.toArray (maxL p0.xLo p1.xLo)⟩, .string ⟨List.toArray p0.xHi⟩] 0 H54 Try.sizeOf32 ?_
 intro w55 H56
 refine nt (Wp.seq (sr (Kz (.pointer (some ⟨g24, 1, none⟩)) (Lz (.string ⟨List.toArray p1.xHi⟩) H56 2 Try.isAgg9 (Kz (.pointer (some ⟨g21, 1, none⟩)) (Lz (.string ⟨List.toArray p0.xHi⟩) H56 3 Try.isAgg9 ?_))))))
 obtain ⟨r62, hr63⟩ : ∃ q, r02_below p1.xHi p0.xHi = q := ⟨_, rfl⟩
 obtain ⟨D57, HP58, ro59, bk60, rr61⟩ := Own.enter0 H56
 refine cl Try.call54 (r02_below_ok _ _ p1.xHi p0.xHi r62 HP58 hr63) ?_
 rintro _ w64 ⟨rfl, HQ65⟩
 have H66 := bk60 _ _ HQ65
 refine nt ?_
 obtain ⟨I68, hI69⟩ : ∃ q : (List UInt8) → World → Prop, q = fun (i : (List UInt8)) w' => Own w D w' [blk g52 [.string ⟨List.toArray (maxL p0.xLo p1.xLo)⟩, .string ⟨List.toArray i⟩] 32, blk g27 [.string ⟨List.toArray ([])⟩, .string ⟨List.toArray ([])⟩] 32, blk g24 (RangeD.cells p1) 32] ∧ ((if r62 = true then p1.xHi else p0.xHi) = i) := ⟨_, rfl⟩
 have dm70 : ∀ {s67 : List UInt8} {w' : World}, I68 s67 w' ↔ Own w D w' [blk g52 [.string ⟨List.toArray (maxL p0.xLo p1.xLo)⟩, .string ⟨List.toArray s67⟩] 32, blk g27 [.string ⟨List.toArray ([])⟩, .string ⟨List.toArray ([])⟩] 32, blk g24 (RangeD.cells p1) 32] ∧ (if r62 = true then p1.xHi else p0.xHi) = s67 := by intros; subst hI69; exact Iff.rfl
 refine Wp.joinT (fun i : (List UInt8) => [(6, .pointer (some ⟨g52, 0, none⟩)), (5, .bool false), (4, .pointer (some ⟨g27, 0, none⟩))]) I68 ?_ ?_
 rcases Bool.eq_false_or_eq_true (r62) with h71 | h71
 refine jT h71 ?_
 have H72 := H66.pk [0, 1, 2]
 refine Wp.region (Kz (.pointer (some ⟨g24, 1, none⟩)) (Lz (.string ⟨List.toArray p1.xHi⟩) H72 2 Try.isAgg9 (Kz (.pointer (some ⟨g52, 1, none⟩)) ?_)))
 refine sto [.string ⟨List.toArray p1.xHi⟩] 1 H72 Try.sizeOf9 ?_
 intro w73 H74
 refine WL.nil ?_
 have H75 := H74.pk [0, 1, 2]
 exact Fin.join p1.xHi ⟨rfl, rfl, rfl, trivial⟩ (dm70.2 ⟨H75, ip h71⟩)
 refine jF h71 (Wp.skip ?_)
 have H76 := H66.pk [0, 1, 2]
 exact Fin.join p0.xHi ⟨rfl, rfl, rfl, trivial⟩ (dm70.2 ⟨H76, ifF h71⟩)
 rintro s67 w77 hf79
 show Wp _ _ _ [(6, .pointer (some ⟨g52, 0, none⟩)), (5, .bool false), (4, .pointer (some ⟨g27, 0, none⟩))] _ _
 obtain ⟨H78, hj80⟩ := dm70.1 hf79
 refine Wp.seq (Wp.seq ?_)
 have H81 := H78.pk [0, 1]
 refine Wp.region (Kz (.pointer (some ⟨g52, 1, none⟩)) (Lz (.string ⟨List.toArray s67⟩) H81 0 Try.isAgg9 (fw (.bool (decide (s67 ≠ ([])))) (Yl.strNe rfl rfl) (Mz rfl ?_))))
 by_cases h82 : s67 ≠ ([])
 refine Gz (.pointer (some ⟨g52, 0, none⟩)) (dT h82) (Gl (.string ⟨List.toArray (maxL p0.xLo p1.xLo)⟩) (dT h82) H81 0 Try.isAgg9 (Gz (.pointer (some ⟨g52, 1, none⟩)) (dT h82) (Gl (.string ⟨List.toArray s67⟩) (dT h82) H81 0 Try.isAgg9 (gw (.bool (decide (s67 ≤ (maxL p0.xLo p1.xLo)))) (dT h82) (Yl.bool (e := !(Op.bytesLess (maxL p0.xLo p1.xLo) s67)) (Yl.strGe rfl rfl) (bl_ge _ _)) (fw (.bool (decide (s67 ≤ (maxL p0.xLo p1.xLo)))) (Yl.pickT rfl (dT h82) rfl) (nt ?_))))))
 by_cases h83 : s67 ≤ (maxL p0.xLo p1.xLo)
 refine jT (dT h83) (sr (Kz (.agg #[.string ⟨List.toArray ([])⟩, .string ⟨List.toArray ([])⟩]) ?_))
 have H84 := H81.pk [1, 0]
 refine sto [.string ⟨List.toArray ([])⟩, .string ⟨List.toArray ([])⟩] 0 H84 Try.sizeOf32 ?_
 intro w85 H86
 refine An rfl (rt (tR (Fin.res (resN (vs := [.agg #[.string ⟨List.toArray ([])⟩, .string ⟨List.toArray ([])⟩], .bool false]) rfl (ResV.cell rfl (Lds.agg (cs := [.string ⟨List.toArray ([])⟩, .string ⟨List.toArray ([])⟩]) Try.isAgg32 Try.sizeOf32 ((H86.cls (i := 0) rfl).lit (k := 0) (m := 2) rfl)) (ResV.tmp rfl ResV.nil)) (Nat.le_of_ble_eq_true rfl)) ?_)))
 have H87 := H86.pk []
 have e : r02_Meet p0 p1 = (RangeD.mk ([]) ([]), false) := et (bnd_of hr36) (et (ip h40) (et (bnd_of hr47) (et (ip h51) (et (bnd_of hr63) (et (bnd_of hj80) (et (ip h82) (ip h83)))))))
 obtain ⟨rfl, rfl⟩ := pj2 (e.symm.trans hr)
 exact ⟨rfl, H87⟩
 refine jF (dF h83) (sk (sr (La ([.string ⟨List.toArray (maxL p0.xLo p1.xLo)⟩, .string ⟨List.toArray s67⟩]) H81 0 Try.isAgg32 Try.sizeOf32 ?_)))
 have H88 := H81.pk [1, 0]
 refine sto [.string ⟨List.toArray (maxL p0.xLo p1.xLo)⟩, .string ⟨List.toArray s67⟩] 0 H88 Try.sizeOf32 ?_
 intro w89 H90
 refine An rfl (rt (Fin.res (resN (vs := [.agg #[.string ⟨List.toArray (maxL p0.xLo p1.xLo)⟩, .string ⟨List.toArray s67⟩], .bool true]) rfl (ResV.cell rfl (Lds.agg (cs := [.string ⟨List.toArray (maxL p0.xLo p1.xLo)⟩, .string ⟨List.toArray s67⟩]) Try.isAgg32 Try.sizeOf32 ((H90.cls (i := 0) rfl).lit (k := 0) (m := 2) rfl)) (ResV.tmp rfl ResV.nil)) (Nat.le_of_ble_eq_true rfl)) ?_))
 have H91 := H90.pk []
 have e : r02_Meet p0 p1 = (RangeD.mk (maxL p0.xLo p1.xLo) s67, true) := et (bnd_of hr36) (et (ip h40) (et (bnd_of hr47) (et (ip h51) (et (bnd_of hr63) (et (bnd_of hj80) (et (ip h82) (iN h83)))))))
 obtain ⟨rfl, rfl⟩ := pj2 (e.symm.trans hr)
 exact ⟨rfl, H91⟩
 refine Sz (dF h82) (Sz (dF h82) (Sz (dF h82) (Sz (dF h82) (Sz (dF h82) (fw (.bool false) (Yl.pickF rfl (dF h82) rfl) (nt (jf (sk (sr (La ([.string ⟨List.toArray (maxL p0.xLo p1.xLo)⟩, .string ⟨List.toArray s67⟩]) H81 0 Try.isAgg32 Try.sizeOf32 ?_))))))))))
 have H92 := H81.pk [1, 0]
 refine sto [.string ⟨List.toArray (maxL p0.xLo p1.xLo)⟩, .string ⟨List.toArray s67⟩] 0 H92 Try.sizeOf32 ?_
 intro w93 H94
 refine An rfl (rt (Fin.res (resN (vs := [.agg #[.string ⟨List.toArray (maxL p0.xLo p1.xLo)⟩, .string ⟨List.toArray s67⟩], .bool true]) rfl (ResV.cell rfl (Lds.agg (cs := [.string ⟨List.toArray (maxL p0.xLo p1.xLo)⟩, .string ⟨List.toArray s67⟩]) Try.isAgg32 Try.sizeOf32 ((H94.cls (i := 0) rfl).lit (k := 0) (m := 2) rfl)) (ResV.tmp rfl ResV.nil)) (Nat.le_of_ble_eq_true rfl)) ?_))
 have H95 := H94.pk []
 have e : r02_Meet p0 p1 = (RangeD.mk (maxL p0.xLo p1.xLo) s67, true) := et (bnd_of hr36) (et (ip h40) (et (bnd_of hr47) (et (ip h51) (et (bnd_of hr63) (et (bnd_of hj80) (iN h82))))))
 obtain ⟨rfl, rfl⟩ := pj2 (e.symm.trans hr)
 exact ⟨rfl, H95⟩
 refine jT (dT h51) (sr (Kz (.agg #[.string ⟨List.toArray ([])⟩, .string ⟨List.toArray ([])⟩]) ?_))
 refine sto [.string ⟨List.toArray ([])⟩, .string ⟨List.toArray ([])⟩] 0 H50 Try.sizeOf32 ?_
 intro w96 H97
 refine An rfl (rt (tR (Fin.res (resN (vs := [.agg #[.string ⟨List.toArray ([])⟩, .string ⟨List.toArray ([])⟩], .bool false]) rfl (ResV.cell rfl (Lds.agg (cs := [.string ⟨List.toArray ([])⟩, .string ⟨List.toArray ([])⟩]) Try.isAgg32 Try.sizeOf32 ((H97.cls (i := 0) rfl).lit (k := 0) (m := 2) rfl)) (ResV.tmp rfl ResV.nil)) (Nat.le_of_ble_eq_true rfl)) ?_)))
 have H98 := H97.pk []
 have e : r02_Meet p0 p1 = (RangeD.mk ([]) ([]), false) := et (bnd_of hr36) (et (ip h40) (et (bnd_of hr47) (iN h51)))
 obtain ⟨rfl, rfl⟩ := pj2 (e.symm.trans hr)
 exact ⟨rfl, H98⟩
 refine Sz (dT h40) (Sz (dT h40) (Sz (dT h40) (fw (.bool true) (Yl.pickT rfl (dT h40) rfl) (nt (jt (sr (Kz (.agg #[.string ⟨List.toArray ([])⟩, .string ⟨List.toArray ([])⟩]) ?_)))))))
 refine sto [.string ⟨List.toArray ([])⟩, .string ⟨List.toArray ([])⟩] 0 H39 Try.sizeOf32 ?_
 intro w99 H100
 refine An rfl (rt (tR (Fin.res (resN (vs := [.agg #[.string ⟨List.toArray ([])⟩, .string ⟨List.toArray ([])⟩], .bool false]) rfl (ResV.cell rfl (Lds.agg (cs := [.string ⟨List.toArray ([])⟩, .string ⟨List.toArray ([])⟩]) Try.isAgg32 Try.sizeOf32 ((H100.cls (i := 0) rfl).lit (k := 0) (m := 2) rfl)) (ResV.tmp rfl ResV.nil)) (Nat.le_of_ble_eq_true rfl)) ?_)))
 have H101 := H100.pk []
 have e : r02_Meet p0 p1 = (RangeD.mk ([]) ([]), false) := et (bnd_of hr36) (iN h40)
 obtain ⟨rfl, rfl⟩ := pj2 (e.symm.trans hr)
 exact ⟨rfl, H101⟩
def r02_Covers (p0 : RangeD) (p1 : RangeD) : Bool :=
 bnd (r02_Check p0) fun yr32 => if yr32 = 0 then bnd (r02_Check p1) fun yr43 => if yr43 = 0 then if p0.xLo ≤ p1.xLo then bnd (r02_below p0.xHi p1.xHi) fun yr55 => !yr55 else false else false else false
set_option maxRecDepth 100000 in
theorem r02_Covers_ok (w : World) (D : Nat → Prop) (p0 : RangeD) (p1 : RangeD) (r0 : Bool) (H : Own w D w [])  (hr : r02_Covers p0 p1 = r0) :
    Calls Try.prog 31 #[.agg (RangeD.cells p0).toArray, .agg (RangeD.cells p1).toArray] w (Ret fun v w' => v = .bool r0 ∧ Own w D w' []) := by
 refine Calls.body (args := [.agg (RangeD.cells p0).toArray, .agg (RangeD.cells p1).toArray]) Try.func31 rfl rfl rfl ?_
 show Wp _ _ _ [(0, .agg (RangeD.cells p0).toArray), (1, .agg (RangeD.cells p1).toArray)] _ _
 refine sr ?_
 refine npw (RangeD.cells p0) 32 H ?_
 intro g21 w22 H23
 refine npw (RangeD.cells p1) 32 H23 ?_
 intro g24 w25 H26
 refine Ar rfl (La (RangeD.cells p0) H26 1 Try.isAgg32 Try.sizeOf32 ?_)
 obtain ⟨r32, hr33⟩ : ∃ q, r02_Check p0 = q := ⟨_, rfl⟩
 obtain ⟨D27, HP28, ro29, bk30, rr31⟩ := Own.enter0 H26
 refine cl Try.call29 (r02_Check_ok _ _ p0 r32 HP28 hr33) ?_
 rintro _ w34 ⟨rfl, HQ35⟩
 have H36 := bk30 _ _ HQ35
 refine Kz (.bool (decide (r32 = 0))) (Mz rfl ?_)
 by_cases h37 : r32 = 0
 refine Ga (RangeD.cells p1) (dT h37) H36 0 Try.isAgg32 Try.sizeOf32 ?_
 obtain ⟨r43, hr44⟩ : ∃ q, r02_Check p1 = q := ⟨_, rfl⟩
 obtain ⟨D38, HP39, ro40, bk41, rr42⟩ := Own.enter0 H36
 refine clG (dT h37) Try.call29 (r02_Check_ok _ _ p1 r43 HP39 hr44) ?_
 rintro _ w45 ⟨rfl, HQ46⟩
 have H47 := bk41 _ _ HQ46
 refine Gz (.bool (decide (r43 = 0))) (dT h37) (fw (.bool (decide (r43 = 0))) (Yl.pickT rfl (dT h37) rfl) (Mz rfl ?_))
 by_cases h48 : r43 = 0
 refine Gz (.pointer (some ⟨g21, 0, none⟩)) (dT h48) (Gl (.string ⟨List.toArray p0.xLo⟩) (dT h48) H47 1 Try.isAgg9 (Gz (.pointer (some ⟨g24, 0, none⟩)) (dT h48) (Gl (.string ⟨List.toArray p1.xLo⟩) (dT h48) H47 0 Try.isAgg9 (gw (.bool (decide (p0.xLo ≤ p1.xLo))) (dT h48) (Yl.bool (e := Op.bytesLess p0.xLo p1.xLo || decide (p0.xLo = p1.xLo)) (Yl.strLe rfl rfl) (bl_le _ _)) (fw (.bool (decide (p0.xLo ≤ p1.xLo))) (Yl.pickT rfl (dT h48) rfl) (Mz rfl ?_))))))
 by_cases h49 : p0.xLo ≤ p1.xLo
 refine Gz (.pointer (some ⟨g21, 1, none⟩)) (dT h49) (Gl (.string ⟨List.toArray p0.xHi⟩) (dT h49) H47 1 Try.isAgg9 (Gz (.pointer (some ⟨g24, 1, none⟩)) (dT h49) (Gl (.string ⟨List.toArray p1.xHi⟩) (dT h49) H47 0 Try.isAgg9 ?_)))
 obtain ⟨r55, hr56⟩ : ∃ q, r02_below p0.xHi p1.xHi = q := ⟨_, rfl⟩
 obtain ⟨D50, HP51, ro52, bk53, rr54⟩ := Own.enter0 H47
 refine clG (dT h49) Try.call54 (r02_below_ok _ _ p0.xHi p1.xHi r55 HP51 hr56) ?_
 rintro _ w57 ⟨rfl, HQ58⟩
 have H59 := bk53 _ _ HQ58
 refine Gz (.bool (!r55)) (dT h49) (fw (.bool (!r55)) (Yl.pickT rfl (dT h49) rfl) (An rfl (rt (rs ?_))))
 have H60 := H59.pk []
 obtain rfl : _ = !r55 := hr.symm.trans (et (bnd_of hr33) (et (ip h37) (et (bnd_of hr44) (et (ip h48) (et (ip h49) (bnd_of hr56))))))
 exact ⟨rfl, H60⟩
 refine Sz (dF h49) (Sz (dF h49) (Sz (dF h49) (Sz (dF h49) (Sz (dF h49) (Sz (dF h49) (fw (.bool false) (Yl.pickF rfl (dF h49) rfl) (An rfl (rt (rs ?_)))))))))
 have H61 := H47.pk []
 obtain rfl : _ = false := hr.symm.trans (et (bnd_of hr33) (et (ip h37) (et (bnd_of hr44) (et (ip h48) (iN h49)))))
 exact ⟨rfl, H61⟩
 refine Sz (dF h48) (Sz (dF h48) (Sz (dF h48) (Sz (dF h48) (Sz (dF h48) (fw (.bool false) (Yl.pickF rfl (dF h48) rfl) (Mz rfl (Sz rfl (Sz rfl (Sz rfl (Sz rfl (Sz rfl (Sz rfl (fw (.bool false) (Yl.pickF rfl rfl rfl) (An rfl (rt (rs ?_))))))))))))))))
 have H62 := H47.pk []
 obtain rfl : _ = false := hr.symm.trans (et (bnd_of hr33) (et (ip h37) (et (bnd_of hr44) (iN h48))))
 exact ⟨rfl, H62⟩
 refine Sz (dF h37) (Sz (dF h37) (Sz (dF h37) (fw (.bool false) (Yl.pickF rfl (dF h37) rfl) (Mz rfl (Sz rfl (Sz rfl (Sz rfl (Sz rfl (Sz rfl (fw (.bool false) (Yl.pickF rfl rfl rfl) (Mz rfl (Sz rfl (Sz rfl (Sz rfl (Sz rfl (Sz rfl (Sz rfl (fw (.bool false) (Yl.pickF rfl rfl rfl) (An rfl (rt (rs ?_)))))))))))))))))))))
 have H63 := H36.pk []
 obtain rfl : _ = false := hr.symm.trans (et (bnd_of hr33) (iN h37))
 exact ⟨rfl, H63⟩
structure HeldD where
 xTxn : Nat
 xLock : LockD
def HeldD.cells (x : HeldD) : List Value := [.int .u64 ((x.xTxn : Nat) : Int), .string ⟨List.toArray x.xLock.xRange.xLo⟩, .string ⟨List.toArray x.xLock.xRange.xHi⟩, .bool x.xLock.xWrite]
instance : Bk HeldD := ⟨fun x _ => bk x.xTxn + (bk x.xLock + (0))⟩
theorem HeldD.len : ∀ x, (HeldD.cells x).length = 4 := fun _ => rfl
theorem HeldD.one : ∀ x, ∀ u ∈ HeldD.cells x, u.oneCell' = true := fun x u hu => by
 simp only [HeldD.cells, List.mem_cons, List.not_mem_nil, or_false] at hu
 rcases hu with rfl | rfl | rfl | rfl <;> rfl
def HeldD.Ok (w : World) (x : HeldD) : Prop := (x.xTxn ≤ 18446744073709551615) ∧ (LockD.Ok w x.xLock)
instance : Inhabited HeldD := ⟨⟨default, default⟩⟩
def r16_Way (p0 : HeldD) (p1 : HeldD) : Bool :=
 bnd (r02_Meet p0.xLock.xRange p1.xLock.xRange) fun yr32 => if ((p0.xTxn : Nat) : Int) = ((p1.xTxn : Nat) : Int) then false else if yr32.2 = true then if p0.xLock.xWrite = true then true else p1.xLock.xWrite else false
set_option maxRecDepth 100000 in
theorem r16_Way_ok (w : World) (D : Nat → Prop) (p0 : HeldD) (p1 : HeldD) (r0 : Bool) (H : Own w D w [])  (hr : r16_Way p0 p1 = r0) :
    Calls Try.prog 32 #[.agg (HeldD.cells p0).toArray, .agg (HeldD.cells p1).toArray] w (Ret fun v w' => v = .bool r0 ∧ Own w D w' []) := by
 refine Calls.body (args := [.agg (HeldD.cells p0).toArray, .agg (HeldD.cells p1).toArray]) Try.func32 rfl rfl rfl ?_
 show Wp _ _ _ [(0, .agg (HeldD.cells p0).toArray), (1, .agg (HeldD.cells p1).toArray)] _ _
 refine sr ?_
 refine npw (HeldD.cells p0) 73 H ?_
 intro g21 w22 H23
 refine npw (HeldD.cells p1) 73 H23 ?_
 intro g24 w25 H26
 refine Ar rfl (Kz (.pointer (some ⟨g21, 1, none⟩)) (Kz (.pointer (some ⟨g21, 1, none⟩)) (La (RangeD.cells p0.xLock.xRange) H26 1 Try.isAgg32 Try.sizeOf32 (Kz (.pointer (some ⟨g24, 1, none⟩)) (Kz (.pointer (some ⟨g24, 1, none⟩)) (La (RangeD.cells p1.xLock.xRange) H26 0 Try.isAgg32 Try.sizeOf32 ?_))))))
 obtain ⟨⟨r32, r33⟩, hr34⟩ : ∃ q : RangeD × Bool, r02_Meet p0.xLock.xRange p1.xLock.xRange = q := ⟨_, rfl⟩
 obtain ⟨D27, HP28, ro29, bk30, rr31⟩ := Own.enter0 H26
 refine cl Try.call55 (r02_Meet_ok _ _ p0.xLock.xRange p1.xLock.xRange r32 r33 HP28 hr34) ?_
 rintro _ w35 ⟨rfl, HQ36⟩
 have H37 := bk30 _ _ HQ36
 refine Mz rfl (Kz (.agg (RangeD.cells r32).toArray) (Kz (.bool r33) ?_))
 refine npw [.string ⟨List.toArray ([])⟩, .string ⟨List.toArray ([])⟩] 32 H37 ?_
 intro g38 w39 H40
 refine sto (RangeD.cells r32) 0 H40 Try.sizeOf32 ?_
 intro w41 H42
 refine An rfl (Wp.seq ?_)
 have H43 := H42.pk [1, 2]
 refine Wp.region (Kz (.pointer (some ⟨g21, 0, none⟩)) (Lz (.int .u64 ((p0.xTxn : Nat) : Int)) H43 1 Try.isAgg30 (Kz (.pointer (some ⟨g24, 0, none⟩)) (Lz (.int .u64 ((p1.xTxn : Nat) : Int)) H43 0 Try.isAgg30 (fw (.bool (decide (¬ (((p0.xTxn : Nat) : Int) = ((p1.xTxn : Nat) : Int))))) (Yl.bool (e := !(decide (((p0.xTxn : Nat) : Int) = ((p1.xTxn : Nat) : Int)))) yk decide_not.symm) (Mz rfl ?_))))))
 by_cases h44 : ((p0.xTxn : Nat) : Int) = ((p1.xTxn : Nat) : Int)
 refine Sk rfl rfl (dF (not_not_intro h44)) rfl (fw (.bool false) (Yl.pickF rfl (dF (not_not_intro h44)) rfl) (Mz rfl (Sz rfl (Sz rfl (Sz rfl (Sz rfl (WL.skipU rfl rfl rfl (WL.skipU rfl rfl rfl (WL.skipU rfl rfl rfl (Sz rfl (fw (.bool false) (Yl.pickF rfl rfl rfl) (An rfl (rt (rs ?_))))))))))))))
 have H45 := H43.pk []
 obtain rfl : _ = false := hr.symm.trans (et (bnd_of hr34) (ip h44))
 exact ⟨rfl, H45⟩
 refine gw (.bool r33) (dT h44) (Yl.move rfl) (fw (.bool r33) (Yl.pickT rfl (dT h44) rfl) (Mz rfl ?_))
 rcases Bool.eq_false_or_eq_true (r33) with h46 | h46
 refine Gz (.pointer (some ⟨g21, 1, none⟩)) h46 (Gz (.pointer (some ⟨g21, 3, none⟩)) h46 (Gl (.bool p0.xLock.xWrite) h46 H43 1 Try.isAgg4 (WL.valG (v := .bool p0.xLock.xWrite) rfl rfl h46 rfl (Yl.move rfl) ?_)))
 rcases Bool.eq_false_or_eq_true (p0.xLock.xWrite) with h47 | h47
 refine Sz h47 (Sz h47 (Sz h47 (WL.valG (v := .bool true) rfl rfl h46 rfl (Yl.pickT rfl h47 rfl) (fw (.bool true) (Yl.pickT rfl h46 rfl) (An rfl (rt (rs ?_)))))))
 have H48 := H43.pk []
 obtain rfl : _ = true := hr.symm.trans (et (bnd_of hr34) (et (iN h44) (et (ip h46) (ip h47))))
 exact ⟨rfl, H48⟩
 refine Gz (.pointer (some ⟨g24, 1, none⟩)) h47 (Gz (.pointer (some ⟨g24, 3, none⟩)) h47 (Gl (.bool p1.xLock.xWrite) h47 H43 0 Try.isAgg4 (WL.valG (v := .bool p1.xLock.xWrite) rfl rfl h46 rfl (Yl.pickF rfl h47 rfl) (fw (.bool p1.xLock.xWrite) (Yl.pickT rfl h46 rfl) (An rfl (rt (rs ?_)))))))
 have H49 := H43.pk []
 obtain rfl : _ = p1.xLock.xWrite := hr.symm.trans (et (bnd_of hr34) (et (iN h44) (et (ip h46) (ifF h47))))
 exact ⟨rfl, H49⟩
 refine Sz h46 (Sz h46 (Sz h46 (Sz h46 (WL.skipU rfl rfl rfl (WL.skipU rfl rfl rfl (WL.skipU rfl rfl rfl (Sz h46 (fw (.bool false) (Yl.pickF rfl h46 rfl) (An rfl (rt (rs ?_)))))))))))
 have H50 := H43.pk []
 obtain rfl : _ = false := hr.symm.trans (et (bnd_of hr34) (et (iN h44) (ifF h46)))
 exact ⟨rfl, H50⟩
def r16_Add_L0 (p1 : Nat) : List Nat → Nat → Nat
  | [], k25 => k25
  | x37 :: q26, k25 => if ((x37 : Nat) : Int) < ((p1 : Nat) : Int) then r16_Add_L0 p1 q26 (k25 + 1) else k25
def r16_Add (l0 : List Nat) (p1 : Nat) : (List Nat) :=
 bnd (bnd (r16_Add_L0 p1 l0 0) fun sLrJjL => sLrJjL) fun sJrJ => if ((sJrJ : Nat) : Int) < ((l0.length : Nat) : Int) then bnd (List.getD l0 sJrJ default) fun yx51 => if ((yx51 : Nat) : Int) = ((p1 : Nat) : Int) then l0 else (((List.take sJrJ l0) ++ [p1]) ++ (List.drop sJrJ l0)) else (((List.take sJrJ l0) ++ [p1]) ++ (List.drop sJrJ l0))
set_option maxRecDepth 100000 in
theorem r16_Add_ok (w : World) (D : Nat → Prop) (A0 : Option Addr) (n0 c0 : Nat) (l0 : List Nat) (p1 : Nat) (r0 : List Nat) (H : Own w D w [row A0 n0 c0 (List.flatMap (eN .u64) l0) 30 1]) (hn0 : n0 = l0.length) (hl0 : l0.length * 8 ≤ 211106232532992) (hh0 : l0.length ≤ 1000000) (hr : r16_Add l0 p1 = r0) :
    Calls Try.prog 56 #[.slice A0 n0 c0, .int .u64 ((p1 : Nat) : Int)] w (Ret fun v w' => ∃ (B0 : Option Addr) (b0 : Nat), v = .slice B0 r0.length b0 ∧ Own w D w' [row B0 r0.length b0 (List.flatMap (eN .u64) r0) 30 1] ∧ (r0.length ≤ l0.length + 1)) := by
 subst hn0
 have hc0 := H.rowC (i := 0) rfl
 refine Calls.body (args := [.slice A0 l0.length c0, .int .u64 ((p1 : Nat) : Int)]) Try.func56 rfl rfl rfl ?_
 show Wp _ _ _ [(0, .slice A0 l0.length c0), (1, .int .u64 ((p1 : Nat) : Int))] _ _
 refine sr (Ar rfl (An rfl (Wp.seq ?_)))
 obtain ⟨I22, hI23⟩ : ∃ q : Nat → World → Prop, q = fun (i : Nat) w' => Own w D w' [row A0 l0.length c0 (List.flatMap (eN .u64) l0) 30 1] ∧ (i ≤ 9223372036854775807 ∧ i ≤ l0.length ∧ (bnd (r16_Add_L0 p1 l0 0) fun sLrJjL => sLrJjL) = i) := ⟨_, rfl⟩
 have dm24 : ∀ {k21 : Nat} {w' : World}, I22 k21 w' ↔ Own w D w' [row A0 l0.length c0 (List.flatMap (eN .u64) l0) 30 1] ∧ k21 ≤ 9223372036854775807 ∧ k21 ≤ l0.length ∧ (bnd (r16_Add_L0 p1 l0 0) fun sLrJjL => sLrJjL) = k21 := by intros; subst hI23; exact Iff.rfl
 refine Wp.joinT (fun i : Nat => [(5, .int .i64 ((i : Nat) : Int)), (4, .slice none 0 0), (0, .slice A0 l0.length c0), (1, .int .u64 ((p1 : Nat) : Int))]) I22 ?_ ?_
 refine bo ?_
 have H27 : Own w D w [row A0 l0.length c0 (List.flatMap (eN .u64) l0) 30 1] := H.pk [0]
 obtain ⟨I31, hI32⟩ : ∃ q : Nat → World → Prop, q = fun (i : Nat) w' => Own w D w' [row A0 l0.length c0 (List.flatMap (eN .u64) l0) 30 1] ∧ (i ≤ l0.length ∧ r16_Add_L0 p1 l0 0 = r16_Add_L0 p1 (List.drop i l0) i) := ⟨_, rfl⟩
 have dm33 : ∀ {k25 : Nat} {w' : World}, I31 k25 w' ↔ Own w D w' [row A0 l0.length c0 (List.flatMap (eN .u64) l0) 30 1] ∧ k25 ≤ l0.length ∧ r16_Add_L0 p1 l0 0 = r16_Add_L0 p1 (List.drop k25 l0) k25 := by intros; subst hI32; exact Iff.rfl
 refine Wp.loop (fun i : Nat => [(5, .int .i64 ((i : Nat) : Int)), (4, .slice none 0 0), (0, .slice A0 l0.length c0), (1, .int .u64 ((p1 : Nat) : Int))]) I31 (fun i => l0.length - i) 0 ⟨rfl, rfl, rfl, rfl, trivial⟩ (dm33.2 ⟨H27, by omega, rfl⟩) ?_
 rintro k25 w28 hf30
 show Wp _ _ _ [(5, .int .i64 ((k25 : Nat) : Int)), (4, .slice none 0 0), (0, .slice A0 l0.length c0), (1, .int .u64 ((p1 : Nat) : Int))] _ _
 obtain ⟨H29, hi35, hq34⟩ := dm33.1 hf30
 refine Wp.seq (sr (Mz rfl (Mz rfl (Kz (.int .i64 ((l0.length : Nat) : Int)) (Kz (.bool (decide (((k25 : Nat) : Int) < ((l0.length : Nat) : Int)))) (Mz rfl ?_))))))
 by_cases h36 : ((k25 : Nat) : Int) < ((l0.length : Nat) : Int)
 obtain ⟨x37, hx38⟩ := rds_at (ls := l0) (i := k25) eN_len (by decide) (H29.rds (i := 0) rfl) (by first | omega | (simp; done) | (simp; omega))
 have hd39 := drop_at hx38
 refine gw (.slice A0 l0.length c0) (dT h36) (Yl.move rfl) (gw (.int .i64 ((k25 : Nat) : Int)) (dT h36) (Yl.move rfl) (gw (.pointer (some ⟨ab A0, ao A0 + k25 * 1, none⟩)) (dT h36) (Yl.indexAddr (El37) rfl rfl ((H29.rds (i := 0) rfl).addr (i := k25) (by omega)) (by omega)) (gw (.int .u64 ((x37 : Nat) : Int)) (dT h36) (Yl.load rfl (Lds.one Try.isAgg30 (((H29.rds (i := 0) rfl).elem eN_len hx38 (by decide)).at_ (k := 0) rfl))) (gw (.int .u64 ((p1 : Nat) : Int)) (dT h36) (Yl.move rfl) (Gz (.bool (decide (((x37 : Nat) : Int) < ((p1 : Nat) : Int)))) (dT h36) (fw (.bool (decide (((x37 : Nat) : Int) < ((p1 : Nat) : Int)))) (Yl.pickT rfl (dT h36) rfl) (nt ?_)))))))
 by_cases h40 : ((x37 : Nat) : Int) < ((p1 : Nat) : Int)
 refine jT (dT h40) (sk (bo (Wp.region (Mz rfl (fw (.int .i64 ((k25 + 1 : Nat) : Int)) (Yl.int (e := IntKind.i64.wrap (((k25 : Nat) : Int) + 1)) yk (by rw [IntWalk.i64_in _ (by omega)]; omega)) (Az rfl (WL.nil (bN ?_))))))))
 have H41 := H29.pk [0]
 exact Fin.round (k25 + 1) ⟨rfl, rfl, rfl, rfl, trivial⟩ (dm33.2 ⟨H41, by omega, et (hq34) (et (congrArg (fun q => r16_Add_L0 p1 q k25) hd39) (ip h40))⟩) (by show l0.length - (k25 + 1) < l0.length - k25; omega)
 refine jF (dF h40) (Wp.exit (Fin.thenX (Fin.thenX (Fin.blockX ?_))))
 have H42 := H29.pk [0]
 exact Fin.join k25 ⟨rfl, rfl, rfl, rfl, trivial⟩ (dm24.2 ⟨H42, by omega, by omega, bnd_of (et (hq34) (et (congrArg (fun q => r16_Add_L0 p1 q k25) hd39) (iN h40)))⟩)
 refine Sz (dF h36) (Sz (dF h36) (Sz (dF h36) (Sz (dF h36) (Sz (dF h36) (Sz (dF h36) (fw (.bool false) (Yl.pickF rfl (dF h36) rfl) (nt (jf (Wp.exit (Fin.thenX (Fin.thenX (Fin.blockX ?_))))))))))))
 have H43 := H29.pk [0]
 exact Fin.join k25 ⟨rfl, rfl, rfl, rfl, trivial⟩ (dm24.2 ⟨H43, by omega, by omega, bnd_of (et (hq34) (et (congrArg (fun q => r16_Add_L0 p1 q k25) (drop_end (ls := l0) (i := k25) (by omega))) rfl))⟩)
 rintro k21 w44 hf46
 show Wp _ _ _ [(5, .int .i64 ((k21 : Nat) : Int)), (4, .slice none 0 0), (0, .slice A0 l0.length c0), (1, .int .u64 ((p1 : Nat) : Int))] _ _
 obtain ⟨H45, hi48, hi49, hj47⟩ := dm24.1 hf46
 refine Wp.seq (sr (Mz rfl (Mz rfl (Kz (.int .i64 ((l0.length : Nat) : Int)) (Kz (.bool (decide (((k21 : Nat) : Int) < ((l0.length : Nat) : Int)))) (Mz rfl ?_))))))
 by_cases h50 : ((k21 : Nat) : Int) < ((l0.length : Nat) : Int)
 refine gw (.slice A0 l0.length c0) (dT h50) (Yl.move rfl) (gw (.int .i64 ((k21 : Nat) : Int)) (dT h50) (Yl.move rfl) ?_)
 obtain ⟨x51, hx52⟩ := rds_at (ls := l0) (i := k21) eN_len (by decide) (H45.rds (i := 0) rfl) (by first | omega | (simp; done) | (simp; omega))
 refine gw (.pointer (some ⟨ab A0, ao A0 + k21 * 1, none⟩)) (dT h50) (Yl.indexAddr (El37) rfl rfl ((H45.rds (i := 0) rfl).addr (i := k21) (by omega)) (by omega)) (gw (.int .u64 ((x51 : Nat) : Int)) (dT h50) (Yl.load rfl (Lds.one Try.isAgg30 (((H45.rds (i := 0) rfl).elem eN_len hx52 (by decide)).at_ (k := 0) rfl))) (gw (.int .u64 ((p1 : Nat) : Int)) (dT h50) (Yl.move rfl) (Gz (.bool (decide (((x51 : Nat) : Int) = ((p1 : Nat) : Int)))) (dT h50) (fw (.bool (decide (((x51 : Nat) : Int) = ((p1 : Nat) : Int)))) (Yl.pickT rfl (dT h50) rfl) (nt ?_)))))
 by_cases h53 : ((x51 : Nat) : Int) = ((p1 : Nat) : Int)
 refine jT (dT h53) (sr (Mz rfl (An rfl (rt (tR (rs ?_))))))
 have H54 := H45.pk [0]
 obtain rfl : _ = l0 := hr.symm.trans (et (bnd_of hj47) (et (ip h50) (et (bnd_of (getD_of hx52)) (ip h53))))
 exact ⟨A0, c0, rfl, H54, (by first | omega | (simp only [List.length_append, List.length_take, List.length_drop, List.length_cons, List.length_nil]; omega))⟩
 refine jF (dF h53) (sk (sr (Mz rfl (Mz rfl (fw (.slice A0 k21 c0) (Yl.cutTo (El37) rfl rfl (by omega)) ?_)))))
 have hz55 : k21 = List.length (List.take k21 l0) := (by first | rfl | omega | (simp only [List.length_append, List.length_cons, List.length_nil, List.length_take, List.length_drop, List.length_set, List.length_replicate, List.length_map] <;> omega))
 have H56 : Own w D w44 [row none 0 0 (List.flatMap (eN .u64) ([])) 30 1, row A0 l0.length c0 (List.flatMap (eN .u64) l0) 30 1] := H45.free (row_nil 30 1)
 refine WL.do rfl (Do.appendW (k := 0) (m := k21) (El37) H56 rfl rfl (src_of Try.underlying37 (Rds.toE (hi := k21) eN_len (H56.rds (i := 1) rfl) (by omega)) (flat_one eN_one (List.take k21 l0))) rfl (by omega) (s := List.length (List.take k21 l0)) (by first | omega | (simp only [List.length_append, List.length_cons, List.length_nil] <;> omega)) rfl ?_)
 intro A57 c58 w59 H60
 refine Ar rfl (Mz rfl (Mz rfl ?_))
 refine nrw [.int .u64 ((p1 : Nat) : Int)] 30 1 1 H60 ?_
 intro A61 w62 H63
 replace H63 := Own.reh (y := row A61 1 1 (List.flatMap (eN .u64) ([p1])) 30 1) rfl H63
 have H64 := H63.pk [1, 0, 2]
 refine WL.do rfl (Do.appendW (k := List.length (List.take k21 l0)) (m := 1) (El37) H64 rfl rfl (src_of Try.underlying37 (H64.rds (i := 1) rfl) (flat_one eN_one ([p1]))) rfl (by omega) (s := List.length ((List.take k21 l0) ++ [p1])) (by first | omega | (simp only [List.length_append, List.length_cons, List.length_nil] <;> omega)) (List.flatMap_append).symm ?_)
 intro A65 c66 w67 H68
 have hl69 : List.length ((List.take k21 l0) ++ [p1]) = (List.length (List.take k21 l0)) + 1 := by simp only [List.length_append, List.length_cons, List.length_nil]
 refine An rfl (Wp.seq ?_)
 have H70 := H68.pk [0, 2]
 refine Wp.region (Mz rfl (Mz rfl (Mz rfl (fw (.slice (cutA A0 k21 1 c0) (l0.length - k21) (c0 - k21)) (Yl.cutFrom (El37) rfl rfl (by omega)) ?_))))
 have hz71 : l0.length - k21 = List.length (List.drop k21 l0) := (by first | rfl | omega | (simp only [List.length_append, List.length_cons, List.length_nil, List.length_take, List.length_drop, List.length_set, List.length_replicate, List.length_map] <;> omega))
 refine WL.do rfl (Do.appendW (k := List.length ((List.take k21 l0) ++ [p1])) (m := l0.length - k21) (El37) H70 rfl rfl (src_of Try.underlying37 (Rds.fromE (lo := k21) eN_len (H70.rds (i := 1) rfl) (by omega) (by omega) (by decide)) (flat_one eN_one (List.drop k21 l0))) rfl (by omega) (s := List.length (((List.take k21 l0) ++ [p1]) ++ (List.drop k21 l0))) (by first | omega | (simp only [List.length_append, List.length_cons, List.length_nil] <;> omega)) (List.flatMap_append).symm ?_)
 intro A72 c73 w74 H75
 have hl76 : List.length (((List.take k21 l0) ++ [p1]) ++ (List.drop k21 l0)) = (List.length ((List.take k21 l0) ++ [p1])) + (List.length (List.drop k21 l0)) := by simp only [List.length_append, List.length_cons, List.length_nil]
 refine An rfl (rt (rs ?_))
 have H77 := H75.pk [0]
 obtain rfl : _ = (((List.take k21 l0) ++ [p1]) ++ (List.drop k21 l0)) := hr.symm.trans (et (bnd_of hj47) (et (ip h50) (et (bnd_of (getD_of hx52)) (iN h53))))
 exact ⟨A72, c73, rfl, H77, (by first | omega | (simp only [List.length_append, List.length_take, List.length_drop, List.length_cons, List.length_nil]; omega))⟩
 refine Sz (dF h50) (Sz (dF h50) (Sz (dF h50) (Sz (dF h50) (Sz (dF h50) (Sz (dF h50) (fw (.bool false) (Yl.pickF rfl (dF h50) rfl) (nt (jf (sk (sr (Mz rfl (Mz rfl (fw (.slice A0 k21 c0) (Yl.cutTo (El37) rfl rfl (by omega)) ?_)))))))))))))
 have hz78 : k21 = List.length (List.take k21 l0) := (by first | rfl | omega | (simp only [List.length_append, List.length_cons, List.length_nil, List.length_take, List.length_drop, List.length_set, List.length_replicate, List.length_map] <;> omega))
 have H79 : Own w D w44 [row none 0 0 (List.flatMap (eN .u64) ([])) 30 1, row A0 l0.length c0 (List.flatMap (eN .u64) l0) 30 1] := H45.free (row_nil 30 1)
 refine WL.do rfl (Do.appendW (k := 0) (m := k21) (El37) H79 rfl rfl (src_of Try.underlying37 (Rds.toE (hi := k21) eN_len (H79.rds (i := 1) rfl) (by omega)) (flat_one eN_one (List.take k21 l0))) rfl (by omega) (s := List.length (List.take k21 l0)) (by first | omega | (simp only [List.length_append, List.length_cons, List.length_nil] <;> omega)) rfl ?_)
 intro A80 c81 w82 H83
 refine Ar rfl (Mz rfl (Mz rfl ?_))
 refine nrw [.int .u64 ((p1 : Nat) : Int)] 30 1 1 H83 ?_
 intro A84 w85 H86
 replace H86 := Own.reh (y := row A84 1 1 (List.flatMap (eN .u64) ([p1])) 30 1) rfl H86
 have H87 := H86.pk [1, 0, 2]
 refine WL.do rfl (Do.appendW (k := List.length (List.take k21 l0)) (m := 1) (El37) H87 rfl rfl (src_of Try.underlying37 (H87.rds (i := 1) rfl) (flat_one eN_one ([p1]))) rfl (by omega) (s := List.length ((List.take k21 l0) ++ [p1])) (by first | omega | (simp only [List.length_append, List.length_cons, List.length_nil] <;> omega)) (List.flatMap_append).symm ?_)
 intro A88 c89 w90 H91
 have hl92 : List.length ((List.take k21 l0) ++ [p1]) = (List.length (List.take k21 l0)) + 1 := by simp only [List.length_append, List.length_cons, List.length_nil]
 refine An rfl (Wp.seq ?_)
 have H93 := H91.pk [0, 2]
 refine Wp.region (Mz rfl (Mz rfl (Mz rfl (fw (.slice (cutA A0 k21 1 c0) (l0.length - k21) (c0 - k21)) (Yl.cutFrom (El37) rfl rfl (by omega)) ?_))))
 have hz94 : l0.length - k21 = List.length (List.drop k21 l0) := (by first | rfl | omega | (simp only [List.length_append, List.length_cons, List.length_nil, List.length_take, List.length_drop, List.length_set, List.length_replicate, List.length_map] <;> omega))
 refine WL.do rfl (Do.appendW (k := List.length ((List.take k21 l0) ++ [p1])) (m := l0.length - k21) (El37) H93 rfl rfl (src_of Try.underlying37 (Rds.fromE (lo := k21) eN_len (H93.rds (i := 1) rfl) (by omega) (by omega) (by decide)) (flat_one eN_one (List.drop k21 l0))) rfl (by omega) (s := List.length (((List.take k21 l0) ++ [p1]) ++ (List.drop k21 l0))) (by first | omega | (simp only [List.length_append, List.length_cons, List.length_nil] <;> omega)) (List.flatMap_append).symm ?_)
 intro A95 c96 w97 H98
 have hl99 : List.length (((List.take k21 l0) ++ [p1]) ++ (List.drop k21 l0)) = (List.length ((List.take k21 l0) ++ [p1])) + (List.length (List.drop k21 l0)) := by simp only [List.length_append, List.length_cons, List.length_nil]
 refine An rfl (rt (rs ?_))
 have H100 := H98.pk [0]
 obtain rfl : _ = (((List.take k21 l0) ++ [p1]) ++ (List.drop k21 l0)) := hr.symm.trans (et (bnd_of hj47) (iN h50))
 exact ⟨A95, c96, rfl, H100, (by first | omega | (simp only [List.length_append, List.length_take, List.length_drop, List.length_cons, List.length_nil]; omega))⟩
theorem El27 : Elem Try.prog 27 73 4 48 := elem_of (z := .agg #[.int .u64 0, .string ⟨List.toArray ([])⟩, .string ⟨List.toArray ([])⟩, .bool false]) Try.underlying27 (by kernel_rfl) rfl (by decide)
def r16_without_L0 (p1 : Nat) : List HeldD → List HeldD → (List HeldD)
  | [], l24 => l24
  | x38 :: q26, l24 => if ((x38.xTxn : Nat) : Int) = ((p1 : Nat) : Int) then r16_without_L0 p1 q26 l24 else r16_without_L0 p1 q26 (l24 ++ [x38])
def r16_without (l0 : List HeldD) (p1 : Nat) : (List HeldD) :=
 bnd (r16_without_L0 p1 l0 ([])) fun sLrL => sLrL
set_option maxRecDepth 100000 in
theorem r16_without_ok (w : World) (D : Nat → Prop) (A0 : Option Addr) (n0 c0 : Nat) (l0 : List HeldD) (p1 : Nat) (r0 : List HeldD) (H : Own w D w []) (hx0 : Ro w D fun w' => Rds w' 4 A0 n0 (List.flatMap HeldD.cells l0)) (hn0 : n0 = l0.length) (hl0 : l0.length ≤ 9223372036854775807) (hq0 : l0.length ≤ c0) (hh0 : l0.length ≤ 1000000) (hr : r16_without l0 p1 = r0) :
    Calls Try.prog 38 #[.slice A0 n0 c0, .int .u64 ((p1 : Nat) : Int)] w (Ret fun v w' => ∃ (B0 : Option Addr) (b0 : Nat), v = .slice B0 r0.length b0 ∧ Own w D w' [row B0 r0.length b0 (List.flatMap HeldD.cells r0) 73 4] ∧ (r0.length ≤ l0.length)) := by
 subst hn0
 refine Calls.body (args := [.slice A0 l0.length c0, .int .u64 ((p1 : Nat) : Int)]) Try.func38 rfl rfl rfl ?_
 show Wp _ _ _ [(0, .slice A0 l0.length c0), (1, .int .u64 ((p1 : Nat) : Int))] _ _
 refine sr (Ar rfl (An rfl (Wp.seq (sr (Mz rfl (Kz (.int .i64 ((l0.length : Nat) : Int)) (Mn rfl (bo ?_))))))))
 have H21 : Own w D w [row none 0 0 (List.flatMap HeldD.cells ([])) 73 4] := H.free (row_nil 73 4)
 have H27 := H21.pk [0]
 obtain ⟨I31, hI32⟩ : ∃ q : ((Option Addr) × Nat × (List HeldD) × Nat) → World → Prop, q = fun (i : (Option Addr) × Nat × (List HeldD) × Nat) w' => Own w D w' [row i.1 i.2.2.1.length i.2.1 (List.flatMap HeldD.cells i.2.2.1) 73 4] ∧ (i.2.2.2 ≤ l0.length ∧ i.2.2.1.length ≤ i.2.2.2 ∧ r16_without_L0 p1 l0 ([]) = r16_without_L0 p1 (List.drop i.2.2.2 l0) i.2.2.1) := ⟨_, rfl⟩
 have dm33 : ∀ {A22 : Option Addr} {c23 : Nat} {l24 : List HeldD} {k25 : Nat} {w' : World}, I31 (A22, c23, l24, k25) w' ↔ Own w D w' [row A22 l24.length c23 (List.flatMap HeldD.cells l24) 73 4] ∧ k25 ≤ l0.length ∧ l24.length ≤ k25 ∧ r16_without_L0 p1 l0 ([]) = r16_without_L0 p1 (List.drop k25 l0) l24 := by intros; subst hI32; exact Iff.rfl
 refine Wp.loop (fun i : (Option Addr) × Nat × (List HeldD) × Nat => [(5, .slice i.1 i.2.2.1.length i.2.1), (10, .int .i64 ((i.2.2.2 : Nat) : Int)), (9, .int .i64 ((l0.length : Nat) : Int)), (8, .slice A0 l0.length c0), (4, .slice none 0 0), (1, .int .u64 ((p1 : Nat) : Int))]) I31 (fun i => l0.length - i.2.2.2) (none, 0, [], 0) ⟨rfl, rfl, rfl, rfl, rfl, rfl, trivial⟩ (dm33.2 ⟨H27, (show 0 ≤ l0.length ∧ 0 ≤ 0 ∧ r16_without_L0 p1 l0 ([]) = r16_without_L0 p1 (List.drop 0 l0) ([]) from ⟨by omega, by omega, rfl⟩)⟩) ?_
 rintro ⟨A22, c23, l24, k25⟩ w28 hf30
 show Wp _ _ _ [(5, .slice A22 l24.length c23), (10, .int .i64 ((k25 : Nat) : Int)), (9, .int .i64 ((l0.length : Nat) : Int)), (8, .slice A0 l0.length c0), (4, .slice none 0 0), (1, .int .u64 ((p1 : Nat) : Int))] _ _
 obtain ⟨H29, hi35, hi36, hq34⟩ := dm33.1 hf30
 refine sr (Kz (.bool (decide (((k25 : Nat) : Int) < ((l0.length : Nat) : Int)))) (nt (Wp.seq ?_)))
 by_cases h37 : ((k25 : Nat) : Int) < ((l0.length : Nat) : Int)
 obtain ⟨x38, hx39⟩ := rds_at (ls := l0) (i := k25) HeldD.len (by decide) (H29.ro hx0) (by first | omega | (simp; done) | (simp; omega))
 have hd40 := drop_at hx39
 refine jT (dT h37) (sk (Wp.seq (bo (sr (fw (.pointer (some ⟨ab A0, ao A0 + k25 * 4, none⟩)) (Yl.indexAddr (El27) rfl rfl ((H29.ro hx0).addr (i := k25) (by omega)) (by omega)) (fw (.agg (HeldD.cells x38).toArray) (Yl.load rfl (Lds.agg (cs := (HeldD.cells x38)) Try.isAgg73 Try.sizeOf73 ((H29.ro hx0).elem HeldD.len hx39 (by decide)))) ?_))))))
 refine npw [.int .u64 0, .string ⟨List.toArray ([])⟩, .string ⟨List.toArray ([])⟩, .bool false] 73 H29 ?_
 intro g41 w42 H43
 refine sto (HeldD.cells x38) 0 H43 Try.sizeOf73 ?_
 intro w44 H45
 refine ns (Kz (.pointer (some ⟨g41, 0, none⟩)) (Lz (.int .u64 ((x38.xTxn : Nat) : Int)) H45 0 Try.isAgg30 (Mz rfl (fw (.bool (decide (¬ (((x38.xTxn : Nat) : Int) = ((p1 : Nat) : Int))))) (Yl.bool (e := !(decide (((x38.xTxn : Nat) : Int) = ((p1 : Nat) : Int)))) yk decide_not.symm) (nt ?_)))))
 by_cases h46 : ((x38.xTxn : Nat) : Int) = ((p1 : Nat) : Int)
 refine jF (dF (not_not_intro h46)) (Wp.skip (bN (Fin.then ?_)))
 have H47 := H45.pk [1]
 refine Wp.region (fw (.int .i64 ((k25 + 1 : Nat) : Int)) (Yl.int (e := IntKind.i64.wrap (((k25 : Nat) : Int) + 1)) yk (by rw [IntWalk.i64_in _ (by omega)]; omega)) (Mz rfl (WL.nil ?_)))
 have H48 := H47.pk [0]
 exact Fin.round (A22, c23, l24, k25 + 1) ⟨rfl, rfl, rfl, rfl, rfl, rfl, trivial⟩ (dm33.2 ⟨H48, by omega, by omega, et (hq34) (et (congrArg (fun q => r16_without_L0 p1 q l24) hd40) (ip h46))⟩) (by show l0.length - (k25 + 1) < l0.length - k25; omega)
 refine jT (dT h46) (Wp.region (Mz rfl (La (HeldD.cells x38) H45 0 Try.isAgg73 Try.sizeOf73 ?_)))
 refine nrw (HeldD.cells x38) 73 4 1 H45 ?_
 intro A49 w50 H51
 replace H51 := Own.reh (y := row A49 1 1 (List.flatMap HeldD.cells ([x38])) 73 4) rfl H51
 have H52 := H51.pk [2, 0, 1]
 refine WL.do rfl (Do.appendW (k := l24.length) (m := 1) (El27) H52 rfl rfl (src_of Try.underlying27 (H52.rds (i := 1) rfl) (flat_one HeldD.one ([x38]))) rfl (by omega) (s := List.length (l24 ++ [x38])) (by first | omega | (simp only [List.length_append, List.length_cons, List.length_nil] <;> omega)) (List.flatMap_append).symm ?_)
 intro A53 c54 w55 H56
 have hl57 : List.length (l24 ++ [x38]) = l24.length + 1 := by simp only [List.length_append, List.length_cons, List.length_nil]
 refine Az rfl (WL.nil (bN (Fin.then ?_)))
 have H58 := H56.pk [0]
 refine Wp.region (fw (.int .i64 ((k25 + 1 : Nat) : Int)) (Yl.int (e := IntKind.i64.wrap (((k25 : Nat) : Int) + 1)) yk (by rw [IntWalk.i64_in _ (by omega)]; omega)) (Mz rfl (WL.nil ?_)))
 have H59 := H58.pk [0]
 exact Fin.round (A53, c54, (l24 ++ [x38]), k25 + 1) ⟨rfl, rfl, rfl, rfl, rfl, rfl, trivial⟩ (dm33.2 ⟨H59, by omega, by omega, et (hq34) (et (congrArg (fun q => r16_without_L0 p1 q l24) hd40) (iN h46))⟩) (by show l0.length - (k25 + 1) < l0.length - k25; omega)
 refine jF (dF h37) (Wp.exit (Fin.thenX ?_))
 have hL60 : r16_without_L0 p1 l0 ([]) = l24 := et (hq34) (et (congrArg (fun q => r16_without_L0 p1 q l24) (drop_end (ls := l0) (i := k25) (by omega))) rfl)
 refine Fin.thenX (Fin.blockX (Fin.then (sr (Mz rfl (An rfl (rt (rs ?_)))))))
 have H61 := H29.pk [0]
 obtain rfl : _ = l24 := hr.symm.trans (bnd_of hL60)
 exact ⟨A22, c23, rfl, H61, (by omega)⟩
structure TableDx where
 xH : Sv HeldD
 xW : Sv HeldD
def TableDx.cells (x : TableDx) : List Value := [.slice x.xH.A x.xH.ls.length x.xH.c, .slice x.xW.A x.xW.ls.length x.xW.c]
instance : Bk TableDx := ⟨fun x _ => bk x.xH + (bk x.xW + (0))⟩
theorem TableDx.len : ∀ x, (TableDx.cells x).length = 2 := fun _ => rfl
theorem TableDx.one : ∀ x, ∀ u ∈ TableDx.cells x, u.oneCell' = true := fun x u hu => by
 simp only [TableDx.cells, List.mem_cons, List.not_mem_nil, or_false] at hu
 rcases hu with rfl | rfl <;> rfl
def TableDx.Ok (w : World) (x : TableDx) : Prop := (SvOk w 4 48 HeldD.cells (HeldD.Ok w) x.xH) ∧ (SvOk w 4 48 HeldD.cells (HeldD.Ok w) x.xW)
instance : Inhabited TableDx := ⟨⟨default, default⟩⟩
structure TableDT where
 xH : Ll HeldD
 xW : Ll HeldD
instance : Inhabited TableDT := ⟨⟨default, default⟩⟩
def TableDx.abs (x : TableDx) : TableDT := ⟨⟨x.xH.ls⟩, ⟨x.xW.ls⟩⟩
def TableDx.own (x : TableDx) : List HP := [row x.xH.A x.xH.ls.length x.xH.c (List.flatMap HeldD.cells x.xH.ls) 73 4, row x.xW.A x.xW.ls.length x.xW.c (List.flatMap HeldD.cells x.xW.ls) 73 4]
def r16_Table_waits_L0 (p1 : Nat) : List HeldD → Unit ⊕ Bool
  | [] => Sum.inl ()
  | x33 :: q22 => if ((x33.xTxn : Nat) : Int) = ((p1 : Nat) : Int) then Sum.inr (true) else r16_Table_waits_L0 p1 q22
def r16_Table_waits (p0 : TableDT) (p1 : Nat) : Bool :=
 lp (r16_Table_waits_L0 p1 p0.xW.ls) fun _ => false
set_option maxRecDepth 100000 in
theorem r16_Table_waits_ok (w : World) (D : Nat → Prop) (g0 : Nat) (p0 : TableDT) (A0x0 : Option Addr) (c0x0 : Nat) (A0x1 : Option Addr) (c0x1 : Nat) (p1 : Nat) (r0 : Bool) (H : Own w D w [blk g0 [.slice A0x0 p0.xH.ls.length c0x0, .slice A0x1 p0.xW.ls.length c0x1] 29]) (hx0x0 : Ro w D fun w' => Rds w' 4 A0x0 p0.xH.ls.length (List.flatMap HeldD.cells p0.xH.ls)) (hb0x0 : p0.xH.ls.length ≤ c0x0 ∧ p0.xH.ls.length ≤ 9223372036854775807) (hx0x1 : Ro w D fun w' => Rds w' 4 A0x1 p0.xW.ls.length (List.flatMap HeldD.cells p0.xW.ls)) (hb0x1 : p0.xW.ls.length ≤ c0x1 ∧ p0.xW.ls.length ≤ 9223372036854775807) (hr : r16_Table_waits p0 p1 = r0) :
    Calls Try.prog 30 #[.pointer (some ⟨g0, 0, none⟩), .int .u64 ((p1 : Nat) : Int)] w (Ret fun v w' => v = .bool r0 ∧ Own w D w' [blk g0 [.slice A0x0 p0.xH.ls.length c0x0, .slice A0x1 p0.xW.ls.length c0x1] 29]) := by
 refine Calls.body (args := [.pointer (some ⟨g0, 0, none⟩), .int .u64 ((p1 : Nat) : Int)]) Try.func30 rfl rfl rfl ?_
 show Wp _ _ _ [(0, .pointer (some ⟨g0, 0, none⟩)), (1, .int .u64 ((p1 : Nat) : Int))] _ _
 refine sr (An rfl (Wp.seq (sr (Mz rfl (Kz (.pointer (some ⟨g0, 0, none⟩)) (Kz (.pointer (some ⟨g0, 1, none⟩)) (Lz (.slice A0x1 p0.xW.ls.length c0x1) H 0 Try.isAgg27 (Kz (.int .i64 ((p0.xW.ls.length : Nat) : Int)) (Mn rfl (bo ?_))))))))))
 have H23 : Own w D w [blk g0 [.slice A0x0 p0.xH.ls.length c0x0, .slice A0x1 p0.xW.ls.length c0x1] 29] := H.pk [0]
 obtain ⟨I27, hI28⟩ : ∃ q : Nat → World → Prop, q = fun (i : Nat) w' => Own w D w' [blk g0 [.slice A0x0 p0.xH.ls.length c0x0, .slice A0x1 p0.xW.ls.length c0x1] 29] ∧ (i ≤ p0.xW.ls.length ∧ r16_Table_waits_L0 p1 p0.xW.ls = r16_Table_waits_L0 p1 (List.drop i p0.xW.ls)) := ⟨_, rfl⟩
 have dm29 : ∀ {k21 : Nat} {w' : World}, I27 k21 w' ↔ Own w D w' [blk g0 [.slice A0x0 p0.xH.ls.length c0x0, .slice A0x1 p0.xW.ls.length c0x1] 29] ∧ k21 ≤ p0.xW.ls.length ∧ r16_Table_waits_L0 p1 p0.xW.ls = r16_Table_waits_L0 p1 (List.drop k21 p0.xW.ls) := by intros; subst hI28; exact Iff.rfl
 refine Wp.loop (fun i : Nat => [(4, .bool false), (12, .int .i64 ((i : Nat) : Int)), (11, .int .i64 ((p0.xW.ls.length : Nat) : Int)), (10, .slice A0x1 p0.xW.ls.length c0x1), (1, .int .u64 ((p1 : Nat) : Int))]) I27 (fun i => p0.xW.ls.length - i) 0 ⟨rfl, rfl, rfl, rfl, rfl, trivial⟩ (dm29.2 ⟨H23, by omega, rfl⟩) ?_
 rintro k21 w24 hf26
 show Wp _ _ _ [(4, .bool false), (12, .int .i64 ((k21 : Nat) : Int)), (11, .int .i64 ((p0.xW.ls.length : Nat) : Int)), (10, .slice A0x1 p0.xW.ls.length c0x1), (1, .int .u64 ((p1 : Nat) : Int))] _ _
 obtain ⟨H25, hi31, hq30⟩ := dm29.1 hf26
 refine sr (Kz (.bool (decide (((k21 : Nat) : Int) < ((p0.xW.ls.length : Nat) : Int)))) (nt (Wp.seq ?_)))
 by_cases h32 : ((k21 : Nat) : Int) < ((p0.xW.ls.length : Nat) : Int)
 obtain ⟨x33, hx34⟩ := rds_at (ls := p0.xW.ls) (i := k21) HeldD.len (by decide) (H25.ro hx0x1) (by first | omega | (simp; done) | (simp; omega))
 have hd35 := drop_at hx34
 refine jT (dT h32) (sk (Wp.seq (bo (sr (fw (.pointer (some ⟨ab A0x1, ao A0x1 + k21 * 4, none⟩)) (Yl.indexAddr (El27) rfl rfl ((H25.ro hx0x1).addr (i := k21) (by omega)) (by omega)) (fw (.agg (HeldD.cells x33).toArray) (Yl.load rfl (Lds.agg (cs := (HeldD.cells x33)) Try.isAgg73 Try.sizeOf73 ((H25.ro hx0x1).elem HeldD.len hx34 (by decide)))) ?_))))))
 refine npw [.int .u64 0, .string ⟨List.toArray ([])⟩, .string ⟨List.toArray ([])⟩, .bool false] 73 H25 ?_
 intro g36 w37 H38
 refine sto (HeldD.cells x33) 0 H38 Try.sizeOf73 ?_
 intro w39 H40
 refine ns (Kz (.pointer (some ⟨g36, 0, none⟩)) (Lz (.int .u64 ((x33.xTxn : Nat) : Int)) H40 0 Try.isAgg30 (Mz rfl (Kz (.bool (decide (((x33.xTxn : Nat) : Int) = ((p1 : Nat) : Int)))) (nt ?_)))))
 by_cases h41 : ((x33.xTxn : Nat) : Int) = ((p1 : Nat) : Int)
 refine jT (dT h41) (Wp.seq ?_)
 have H42 := H40.pk [1]
 refine Wp.region (An rfl (rt (bR (tR (tR (bR (tR (rs ?_))))))))
 have H43 := H42.pk [0]
 obtain rfl : _ = true := hr.symm.trans (lp_r (et (hq30) (et (congrArg (fun q => r16_Table_waits_L0 p1 q) hd35) (ip h41))))
 exact ⟨rfl, H43⟩
 refine jF (dF h41) (Wp.skip (bN (Fin.then ?_)))
 have H44 := H40.pk [1]
 refine Wp.region (fw (.int .i64 ((k21 + 1 : Nat) : Int)) (Yl.int (e := IntKind.i64.wrap (((k21 : Nat) : Int) + 1)) yk (by rw [IntWalk.i64_in _ (by omega)]; omega)) (Mz rfl (WL.nil ?_)))
 have H45 := H44.pk [0]
 exact Fin.round (k21 + 1) ⟨rfl, rfl, rfl, rfl, rfl, trivial⟩ (dm29.2 ⟨H45, by omega, et (hq30) (et (congrArg (fun q => r16_Table_waits_L0 p1 q) hd35) (iN h41))⟩) (by show p0.xW.ls.length - (k21 + 1) < p0.xW.ls.length - k21; omega)
 refine jF (dF h32) (Wp.exit (Fin.thenX ?_))
 have hL46 : r16_Table_waits_L0 p1 p0.xW.ls = Sum.inl () := et (hq30) (et (congrArg (fun q => r16_Table_waits_L0 p1 q) (drop_end (ls := p0.xW.ls) (i := k21) (by omega))) rfl)
 refine Fin.thenX (Fin.blockX (Fin.then (sr (An rfl (rt (rs ?_))))))
 have H47 := H25.pk [0]
 obtain rfl : _ = false := hr.symm.trans (lp_l hL46)
 exact ⟨rfl, H47⟩
def r16_Table_free_L0 (p1 : HeldD) : List HeldD → Unit ⊕ Bool
  | [] => Sum.inl ()
  | x36 :: q25 => bnd (r16_Way x36 p1) fun yr49 => if yr49 = true then Sum.inr (false) else r16_Table_free_L0 p1 q25
def r16_Table_free (p0 : TableDT) (p1 : HeldD) : Bool :=
 lp (r16_Table_free_L0 p1 p0.xH.ls) fun _ => true
set_option maxRecDepth 100000 in
theorem r16_Table_free_ok (w : World) (D : Nat → Prop) (g0 : Nat) (p0 : TableDT) (A0x0 : Option Addr) (c0x0 : Nat) (A0x1 : Option Addr) (c0x1 : Nat) (p1 : HeldD) (r0 : Bool) (H : Own w D w [blk g0 [.slice A0x0 p0.xH.ls.length c0x0, .slice A0x1 p0.xW.ls.length c0x1] 29]) (hx0x0 : Ro w D fun w' => Rds w' 4 A0x0 p0.xH.ls.length (List.flatMap HeldD.cells p0.xH.ls)) (hb0x0 : p0.xH.ls.length ≤ c0x0 ∧ p0.xH.ls.length ≤ 9223372036854775807) (hx0x1 : Ro w D fun w' => Rds w' 4 A0x1 p0.xW.ls.length (List.flatMap HeldD.cells p0.xW.ls)) (hb0x1 : p0.xW.ls.length ≤ c0x1 ∧ p0.xW.ls.length ≤ 9223372036854775807) (hr : r16_Table_free p0 p1 = r0) :
    Calls Try.prog 33 #[.pointer (some ⟨g0, 0, none⟩), .agg (HeldD.cells p1).toArray] w (Ret fun v w' => v = .bool r0 ∧ Own w D w' [blk g0 [.slice A0x0 p0.xH.ls.length c0x0, .slice A0x1 p0.xW.ls.length c0x1] 29]) := by
 refine Calls.body (args := [.pointer (some ⟨g0, 0, none⟩), .agg (HeldD.cells p1).toArray]) Try.func33 rfl rfl rfl ?_
 show Wp _ _ _ [(0, .pointer (some ⟨g0, 0, none⟩)), (1, .agg (HeldD.cells p1).toArray)] _ _
 refine sr ?_
 refine npw (HeldD.cells p1) 73 H ?_
 intro g21 w22 H23
 refine An rfl (Wp.seq (sr (Mz rfl (Kz (.pointer (some ⟨g0, 0, none⟩)) (Kz (.pointer (some ⟨g0, 0, none⟩)) (Lz (.slice A0x0 p0.xH.ls.length c0x0) H23 1 Try.isAgg27 (Kz (.int .i64 ((p0.xH.ls.length : Nat) : Int)) (Mn rfl (bo ?_)))))))))
 have H26 := H23.pk [0, 1]
 obtain ⟨I30, hI31⟩ : ∃ q : Nat → World → Prop, q = fun (i : Nat) w' => Own w D w' [blk g21 (HeldD.cells p1) 73, blk g0 [.slice A0x0 p0.xH.ls.length c0x0, .slice A0x1 p0.xW.ls.length c0x1] 29] ∧ (i ≤ p0.xH.ls.length ∧ r16_Table_free_L0 p1 p0.xH.ls = r16_Table_free_L0 p1 (List.drop i p0.xH.ls)) := ⟨_, rfl⟩
 have dm32 : ∀ {k24 : Nat} {w' : World}, I30 k24 w' ↔ Own w D w' [blk g21 (HeldD.cells p1) 73, blk g0 [.slice A0x0 p0.xH.ls.length c0x0, .slice A0x1 p0.xW.ls.length c0x1] 29] ∧ k24 ≤ p0.xH.ls.length ∧ r16_Table_free_L0 p1 p0.xH.ls = r16_Table_free_L0 p1 (List.drop k24 p0.xH.ls) := by intros; subst hI31; exact Iff.rfl
 refine Wp.loop (fun i : Nat => [(4, .bool false), (12, .int .i64 ((i : Nat) : Int)), (11, .int .i64 ((p0.xH.ls.length : Nat) : Int)), (10, .slice A0x0 p0.xH.ls.length c0x0), (3, .pointer (some ⟨g21, 0, none⟩))]) I30 (fun i => p0.xH.ls.length - i) 0 ⟨rfl, rfl, rfl, rfl, rfl, trivial⟩ (dm32.2 ⟨H26, by omega, rfl⟩) ?_
 rintro k24 w27 hf29
 show Wp _ _ _ [(4, .bool false), (12, .int .i64 ((k24 : Nat) : Int)), (11, .int .i64 ((p0.xH.ls.length : Nat) : Int)), (10, .slice A0x0 p0.xH.ls.length c0x0), (3, .pointer (some ⟨g21, 0, none⟩))] _ _
 obtain ⟨H28, hi34, hq33⟩ := dm32.1 hf29
 refine sr (Kz (.bool (decide (((k24 : Nat) : Int) < ((p0.xH.ls.length : Nat) : Int)))) (nt (Wp.seq ?_)))
 by_cases h35 : ((k24 : Nat) : Int) < ((p0.xH.ls.length : Nat) : Int)
 obtain ⟨x36, hx37⟩ := rds_at (ls := p0.xH.ls) (i := k24) HeldD.len (by decide) (H28.ro hx0x0) (by first | omega | (simp; done) | (simp; omega))
 have hd38 := drop_at hx37
 refine jT (dT h35) (sk (Wp.seq (bo (sr (fw (.pointer (some ⟨ab A0x0, ao A0x0 + k24 * 4, none⟩)) (Yl.indexAddr (El27) rfl rfl ((H28.ro hx0x0).addr (i := k24) (by omega)) (by omega)) (fw (.agg (HeldD.cells x36).toArray) (Yl.load rfl (Lds.agg (cs := (HeldD.cells x36)) Try.isAgg73 Try.sizeOf73 ((H28.ro hx0x0).elem HeldD.len hx37 (by decide)))) ?_))))))
 refine npw [.int .u64 0, .string ⟨List.toArray ([])⟩, .string ⟨List.toArray ([])⟩, .bool false] 73 H28 ?_
 intro g39 w40 H41
 refine sto (HeldD.cells x36) 0 H41 Try.sizeOf73 ?_
 intro w42 H43
 refine ns (La (HeldD.cells x36) H43 0 Try.isAgg73 Try.sizeOf73 (La (HeldD.cells p1) H43 1 Try.isAgg73 Try.sizeOf73 ?_))
 obtain ⟨r49, hr50⟩ : ∃ q, r16_Way x36 p1 = q := ⟨_, rfl⟩
 obtain ⟨D44, HP45, ro46, bk47, rr48⟩ := Own.enter0 H43
 refine cl Try.call32 (r16_Way_ok _ _ x36 p1 r49 HP45 hr50) ?_
 rintro _ w51 ⟨rfl, HQ52⟩
 have H53 := bk47 _ _ HQ52
 refine nt ?_
 rcases Bool.eq_false_or_eq_true (r49) with h54 | h54
 refine jT h54 (Wp.seq ?_)
 have H55 := H53.pk [1, 2]
 refine Wp.region (An rfl (rt (bR (tR (tR (bR (tR (rs ?_))))))))
 have H56 := H55.pk [1]
 obtain rfl : _ = false := hr.symm.trans (lp_r (et (hq33) (et (congrArg (fun q => r16_Table_free_L0 p1 q) hd38) (et (bnd_of hr50) (ip h54)))))
 exact ⟨rfl, H56⟩
 refine jF h54 (Wp.skip (bN (Fin.then ?_)))
 have H57 := H53.pk [1, 2]
 refine Wp.region (fw (.int .i64 ((k24 + 1 : Nat) : Int)) (Yl.int (e := IntKind.i64.wrap (((k24 : Nat) : Int) + 1)) yk (by rw [IntWalk.i64_in _ (by omega)]; omega)) (Mz rfl (WL.nil ?_)))
 have H58 := H57.pk [0, 1]
 exact Fin.round (k24 + 1) ⟨rfl, rfl, rfl, rfl, rfl, trivial⟩ (dm32.2 ⟨H58, by omega, et (hq33) (et (congrArg (fun q => r16_Table_free_L0 p1 q) hd38) (et (bnd_of hr50) (ifF h54)))⟩) (by show p0.xH.ls.length - (k24 + 1) < p0.xH.ls.length - k24; omega)
 refine jF (dF h35) (Wp.exit (Fin.thenX ?_))
 have hL59 : r16_Table_free_L0 p1 p0.xH.ls = Sum.inl () := et (hq33) (et (congrArg (fun q => r16_Table_free_L0 p1 q) (drop_end (ls := p0.xH.ls) (i := k24) (by omega))) rfl)
 refine Fin.thenX (Fin.blockX (Fin.then (Wp.seq ?_)))
 have H60 := H28.pk [1]
 refine Wp.region (An rfl (rt (rs ?_)))
 have H61 := H60.pk [0]
 obtain rfl : _ = true := hr.symm.trans (lp_l hL59)
 exact ⟨rfl, H61⟩
def r16_Table_next_L0 (p0 : TableDT) : List HeldD → Unit ⊕ (HeldD × Bool)
  | [] => Sum.inl ()
  | x36 :: q25 => bnd (r16_Table_free p0 x36) fun yr50 => if yr50 = true then Sum.inr (x36, true) else r16_Table_next_L0 p0 q25
def r16_Table_next (p0 : TableDT) : HeldD × Bool :=
 lp (r16_Table_next_L0 p0 p0.xW.ls) fun _ => (HeldD.mk 0 (LockD.mk (RangeD.mk ([]) ([])) false), false)
set_option maxRecDepth 100000 in
theorem r16_Table_next_ok (w : World) (D : Nat → Prop) (g0 : Nat) (p0 : TableDT) (A0x0 : Option Addr) (c0x0 : Nat) (A0x1 : Option Addr) (c0x1 : Nat) (r0 : HeldD) (r1 : Bool) (H : Own w D w [blk g0 [.slice A0x0 p0.xH.ls.length c0x0, .slice A0x1 p0.xW.ls.length c0x1] 29]) (hx0x0 : Ro w D fun w' => Rds w' 4 A0x0 p0.xH.ls.length (List.flatMap HeldD.cells p0.xH.ls)) (hb0x0 : p0.xH.ls.length ≤ c0x0 ∧ p0.xH.ls.length ≤ 9223372036854775807) (hx0x1 : Ro w D fun w' => Rds w' 4 A0x1 p0.xW.ls.length (List.flatMap HeldD.cells p0.xW.ls)) (hb0x1 : p0.xW.ls.length ≤ c0x1 ∧ p0.xW.ls.length ≤ 9223372036854775807) (hr : r16_Table_next p0 = (r0, r1)) :
    Calls Try.prog 57 #[.pointer (some ⟨g0, 0, none⟩)] w (Ret fun v w' => v = .tuple #[.agg (HeldD.cells r0).toArray, .bool r1] ∧ Own w D w' [blk g0 [.slice A0x0 p0.xH.ls.length c0x0, .slice A0x1 p0.xW.ls.length c0x1] 29]) := by
 refine Calls.body (args := [.pointer (some ⟨g0, 0, none⟩)]) Try.func57 rfl rfl rfl ?_
 show Wp _ _ _ [(0, .pointer (some ⟨g0, 0, none⟩))] _ _
 refine sr ?_
 refine npw [.int .u64 0, .string ⟨List.toArray ([])⟩, .string ⟨List.toArray ([])⟩, .bool false] 73 H ?_
 intro g21 w22 H23
 refine An rfl (Wp.seq (sr (Mz rfl (Kz (.pointer (some ⟨g0, 0, none⟩)) (Kz (.pointer (some ⟨g0, 1, none⟩)) (Lz (.slice A0x1 p0.xW.ls.length c0x1) H23 1 Try.isAgg27 (Kz (.int .i64 ((p0.xW.ls.length : Nat) : Int)) (Mn rfl (bo ?_)))))))))
 have H26 := H23.pk [0, 1]
 obtain ⟨I30, hI31⟩ : ∃ q : Nat → World → Prop, q = fun (i : Nat) w' => Own w D w' [blk g21 [.int .u64 0, .string ⟨List.toArray ([])⟩, .string ⟨List.toArray ([])⟩, .bool false] 73, blk g0 [.slice A0x0 p0.xH.ls.length c0x0, .slice A0x1 p0.xW.ls.length c0x1] 29] ∧ (i ≤ p0.xW.ls.length ∧ r16_Table_next_L0 p0 p0.xW.ls = r16_Table_next_L0 p0 (List.drop i p0.xW.ls)) := ⟨_, rfl⟩
 have dm32 : ∀ {k24 : Nat} {w' : World}, I30 k24 w' ↔ Own w D w' [blk g21 [.int .u64 0, .string ⟨List.toArray ([])⟩, .string ⟨List.toArray ([])⟩, .bool false] 73, blk g0 [.slice A0x0 p0.xH.ls.length c0x0, .slice A0x1 p0.xW.ls.length c0x1] 29] ∧ k24 ≤ p0.xW.ls.length ∧ r16_Table_next_L0 p0 p0.xW.ls = r16_Table_next_L0 p0 (List.drop k24 p0.xW.ls) := by intros; subst hI31; exact Iff.rfl
 refine Wp.loop (fun i : Nat => [(3, .bool false), (11, .int .i64 ((i : Nat) : Int)), (10, .int .i64 ((p0.xW.ls.length : Nat) : Int)), (9, .slice A0x1 p0.xW.ls.length c0x1), (2, .pointer (some ⟨g21, 0, none⟩)), (0, .pointer (some ⟨g0, 0, none⟩))]) I30 (fun i => p0.xW.ls.length - i) 0 ⟨rfl, rfl, rfl, rfl, rfl, rfl, trivial⟩ (dm32.2 ⟨H26, by omega, rfl⟩) ?_
 rintro k24 w27 hf29
 show Wp _ _ _ [(3, .bool false), (11, .int .i64 ((k24 : Nat) : Int)), (10, .int .i64 ((p0.xW.ls.length : Nat) : Int)), (9, .slice A0x1 p0.xW.ls.length c0x1), (2, .pointer (some ⟨g21, 0, none⟩)), (0, .pointer (some ⟨g0, 0, none⟩))] _ _
 obtain ⟨H28, hi34, hq33⟩ := dm32.1 hf29
 refine sr (Kz (.bool (decide (((k24 : Nat) : Int) < ((p0.xW.ls.length : Nat) : Int)))) (nt (Wp.seq ?_)))
 by_cases h35 : ((k24 : Nat) : Int) < ((p0.xW.ls.length : Nat) : Int)
 obtain ⟨x36, hx37⟩ := rds_at (ls := p0.xW.ls) (i := k24) HeldD.len (by decide) (H28.ro hx0x1) (by first | omega | (simp; done) | (simp; omega))
 have hd38 := drop_at hx37
 refine jT (dT h35) (sk (Wp.seq (bo (sr (fw (.pointer (some ⟨ab A0x1, ao A0x1 + k24 * 4, none⟩)) (Yl.indexAddr (El27) rfl rfl ((H28.ro hx0x1).addr (i := k24) (by omega)) (by omega)) (fw (.agg (HeldD.cells x36).toArray) (Yl.load rfl (Lds.agg (cs := (HeldD.cells x36)) Try.isAgg73 Try.sizeOf73 ((H28.ro hx0x1).elem HeldD.len hx37 (by decide)))) ?_))))))
 refine npw [.int .u64 0, .string ⟨List.toArray ([])⟩, .string ⟨List.toArray ([])⟩, .bool false] 73 H28 ?_
 intro g39 w40 H41
 refine sto (HeldD.cells x36) 0 H41 Try.sizeOf73 ?_
 intro w42 H43
 refine ns (Mz rfl (La (HeldD.cells x36) H43 0 Try.isAgg73 Try.sizeOf73 ?_))
 have H44 := H43.pk [2, 0, 1]
 obtain ⟨r50, hr51⟩ : ∃ q, r16_Table_free p0 x36 = q := ⟨_, rfl⟩
 obtain ⟨D45, HP46, ro47, bk48, rr49⟩ := Own.enter1 H44
 refine cl Try.call33 (r16_Table_free_ok _ _ g0 p0 A0x0 c0x0 A0x1 c0x1 x36 r50 HP46 (ro47 _ hx0x0) (show p0.xH.ls.length ≤ c0x0 ∧ p0.xH.ls.length ≤ 9223372036854775807 from by omega) (ro47 _ hx0x1) (show p0.xW.ls.length ≤ c0x1 ∧ p0.xW.ls.length ≤ 9223372036854775807 from by omega) hr51) ?_
 rintro _ w52 ⟨rfl, HQ53⟩
 have H54 := bk48 _ _ HQ53
 refine nt ?_
 rcases Bool.eq_false_or_eq_true (r50) with h55 | h55
 refine jT h55 (sr (La (HeldD.cells x36) H54 1 Try.isAgg73 Try.sizeOf73 ?_))
 have H56 := H54.pk [2, 0, 1]
 refine sto (HeldD.cells x36) 0 H56 Try.sizeOf73 ?_
 intro w57 H58
 refine An rfl (rt (bR (tR (tR (bR (tR (Fin.res (resN (vs := [.agg (HeldD.cells x36).toArray, .bool true]) rfl (ResV.cell rfl (Lds.agg (cs := (HeldD.cells x36)) Try.isAgg73 Try.sizeOf73 ((H58.cls (i := 0) rfl).lit (k := 0) (m := 4) rfl)) (ResV.tmp rfl ResV.nil)) (Nat.le_of_ble_eq_true rfl)) ?_)))))))
 have H59 := H58.pk [1]
 have e : r16_Table_next p0 = (x36, true) := lp_r (et (hq33) (et (congrArg (fun q => r16_Table_next_L0 p0 q) hd38) (et (bnd_of hr51) (ip h55))))
 obtain ⟨rfl, rfl⟩ := pj2 (e.symm.trans hr)
 exact ⟨rfl, H59⟩
 refine jF h55 (Wp.skip (bN (Fin.then ?_)))
 have H60 := H54.pk [0, 2]
 refine Wp.region (fw (.int .i64 ((k24 + 1 : Nat) : Int)) (Yl.int (e := IntKind.i64.wrap (((k24 : Nat) : Int) + 1)) yk (by rw [IntWalk.i64_in _ (by omega)]; omega)) (Mz rfl (WL.nil ?_)))
 have H61 := H60.pk [1, 0]
 exact Fin.round (k24 + 1) ⟨rfl, rfl, rfl, rfl, rfl, rfl, trivial⟩ (dm32.2 ⟨H61, by omega, et (hq33) (et (congrArg (fun q => r16_Table_next_L0 p0 q) hd38) (et (bnd_of hr51) (ifF h55)))⟩) (by show p0.xW.ls.length - (k24 + 1) < p0.xW.ls.length - k24; omega)
 refine jF (dF h35) (Wp.exit (Fin.thenX ?_))
 have hL62 : r16_Table_next_L0 p0 p0.xW.ls = Sum.inl () := et (hq33) (et (congrArg (fun q => r16_Table_next_L0 p0 q) (drop_end (ls := p0.xW.ls) (i := k24) (by omega))) rfl)
 refine Fin.thenX (Fin.blockX (Fin.then (sr (Kz (.agg #[.int .u64 0, .string ⟨List.toArray ([])⟩, .string ⟨List.toArray ([])⟩, .bool false]) ?_))))
 refine sto [.int .u64 0, .string ⟨List.toArray ([])⟩, .string ⟨List.toArray ([])⟩, .bool false] 0 H28 Try.sizeOf73 ?_
 intro w63 H64
 refine An rfl (rt (Fin.res (resN (vs := [.agg #[.int .u64 0, .string ⟨List.toArray ([])⟩, .string ⟨List.toArray ([])⟩, .bool false], .bool false]) rfl (ResV.cell rfl (Lds.agg (cs := [.int .u64 0, .string ⟨List.toArray ([])⟩, .string ⟨List.toArray ([])⟩, .bool false]) Try.isAgg73 Try.sizeOf73 ((H64.cls (i := 0) rfl).lit (k := 0) (m := 4) rfl)) (ResV.tmp rfl ResV.nil)) (Nat.le_of_ble_eq_true rfl)) ?_))
 have H65 := H64.pk [1]
 have e : r16_Table_next p0 = (HeldD.mk 0 (LockD.mk (RangeD.mk ([]) ([])) false), false) := lp_l hL62
 obtain ⟨rfl, rfl⟩ := pj2 (e.symm.trans hr)
 exact ⟨rfl, H65⟩
def r16_Table_Holds_L0 (p1 : Nat) : List HeldD → List LockD → (List LockD)
  | [], l24 => l24
  | x38 :: q26, l24 => if ((x38.xTxn : Nat) : Int) = ((p1 : Nat) : Int) then r16_Table_Holds_L0 p1 q26 (l24 ++ [x38.xLock]) else r16_Table_Holds_L0 p1 q26 l24
def r16_Table_Holds (p0 : TableDT) (p1 : Nat) : (List LockD) :=
 bnd (r16_Table_Holds_L0 p1 p0.xH.ls ([])) fun sLrL => sLrL
set_option maxRecDepth 100000 in
theorem r16_Table_Holds_ok (w : World) (D : Nat → Prop) (g0 : Nat) (p0 : TableDT) (A0x0 : Option Addr) (c0x0 : Nat) (A0x1 : Option Addr) (c0x1 : Nat) (p1 : Nat) (r0 : List LockD) (H : Own w D w [blk g0 [.slice A0x0 p0.xH.ls.length c0x0, .slice A0x1 p0.xW.ls.length c0x1] 29]) (hx0x0 : Ro w D fun w' => Rds w' 4 A0x0 p0.xH.ls.length (List.flatMap HeldD.cells p0.xH.ls)) (hb0x0 : p0.xH.ls.length ≤ c0x0 ∧ p0.xH.ls.length ≤ 9223372036854775807) (hx0x1 : Ro w D fun w' => Rds w' 4 A0x1 p0.xW.ls.length (List.flatMap HeldD.cells p0.xW.ls)) (hb0x1 : p0.xW.ls.length ≤ c0x1 ∧ p0.xW.ls.length ≤ 9223372036854775807) (hh0 : p0.xH.ls.length ≤ 400 ∧ p0.xW.ls.length ≤ 400) (hr : r16_Table_Holds p0 p1 = r0) :
    Calls Try.prog 40 #[.pointer (some ⟨g0, 0, none⟩), .int .u64 ((p1 : Nat) : Int)] w (Ret fun v w' => ∃ (B0 : Option Addr) (b0 : Nat), v = .slice B0 r0.length b0 ∧ Own w D w' [row B0 r0.length b0 (List.flatMap LockD.cells r0) 34 3, blk g0 [.slice A0x0 p0.xH.ls.length c0x0, .slice A0x1 p0.xW.ls.length c0x1] 29]) := by
 refine Calls.body (args := [.pointer (some ⟨g0, 0, none⟩), .int .u64 ((p1 : Nat) : Int)]) Try.func40 rfl rfl rfl ?_
 show Wp _ _ _ [(0, .pointer (some ⟨g0, 0, none⟩)), (1, .int .u64 ((p1 : Nat) : Int))] _ _
 refine sr (Ar rfl (An rfl (Wp.seq (sr (Mz rfl (Kz (.pointer (some ⟨g0, 0, none⟩)) (Kz (.pointer (some ⟨g0, 0, none⟩)) (Lz (.slice A0x0 p0.xH.ls.length c0x0) H 0 Try.isAgg27 (Kz (.int .i64 ((p0.xH.ls.length : Nat) : Int)) (Mn rfl (bo ?_)))))))))))
 have H21 : Own w D w [row none 0 0 (List.flatMap LockD.cells ([])) 34 3, blk g0 [.slice A0x0 p0.xH.ls.length c0x0, .slice A0x1 p0.xW.ls.length c0x1] 29] := H.free (row_nil 34 3)
 have H27 := H21.pk [1, 0]
 obtain ⟨I31, hI32⟩ : ∃ q : ((Option Addr) × Nat × (List LockD) × Nat) → World → Prop, q = fun (i : (Option Addr) × Nat × (List LockD) × Nat) w' => Own w D w' [blk g0 [.slice A0x0 p0.xH.ls.length c0x0, .slice A0x1 p0.xW.ls.length c0x1] 29, row i.1 i.2.2.1.length i.2.1 (List.flatMap LockD.cells i.2.2.1) 34 3] ∧ (i.2.2.2 ≤ p0.xH.ls.length ∧ i.2.2.1.length ≤ i.2.2.2 ∧ r16_Table_Holds_L0 p1 p0.xH.ls ([]) = r16_Table_Holds_L0 p1 (List.drop i.2.2.2 p0.xH.ls) i.2.2.1) := ⟨_, rfl⟩
 have dm33 : ∀ {A22 : Option Addr} {c23 : Nat} {l24 : List LockD} {k25 : Nat} {w' : World}, I31 (A22, c23, l24, k25) w' ↔ Own w D w' [blk g0 [.slice A0x0 p0.xH.ls.length c0x0, .slice A0x1 p0.xW.ls.length c0x1] 29, row A22 l24.length c23 (List.flatMap LockD.cells l24) 34 3] ∧ k25 ≤ p0.xH.ls.length ∧ l24.length ≤ k25 ∧ r16_Table_Holds_L0 p1 p0.xH.ls ([]) = r16_Table_Holds_L0 p1 (List.drop k25 p0.xH.ls) l24 := by intros; subst hI32; exact Iff.rfl
 refine Wp.loop (fun i : (Option Addr) × Nat × (List LockD) × Nat => [(5, .slice i.1 i.2.2.1.length i.2.1), (13, .int .i64 ((i.2.2.2 : Nat) : Int)), (12, .int .i64 ((p0.xH.ls.length : Nat) : Int)), (11, .slice A0x0 p0.xH.ls.length c0x0), (4, .slice none 0 0), (1, .int .u64 ((p1 : Nat) : Int))]) I31 (fun i => p0.xH.ls.length - i.2.2.2) (none, 0, [], 0) ⟨rfl, rfl, rfl, rfl, rfl, rfl, trivial⟩ (dm33.2 ⟨H27, (show 0 ≤ p0.xH.ls.length ∧ 0 ≤ 0 ∧ r16_Table_Holds_L0 p1 p0.xH.ls ([]) = r16_Table_Holds_L0 p1 (List.drop 0 p0.xH.ls) ([]) from ⟨by omega, by omega, rfl⟩)⟩) ?_
 rintro ⟨A22, c23, l24, k25⟩ w28 hf30
 show Wp _ _ _ [(5, .slice A22 l24.length c23), (13, .int .i64 ((k25 : Nat) : Int)), (12, .int .i64 ((p0.xH.ls.length : Nat) : Int)), (11, .slice A0x0 p0.xH.ls.length c0x0), (4, .slice none 0 0), (1, .int .u64 ((p1 : Nat) : Int))] _ _
 obtain ⟨H29, hi35, hi36, hq34⟩ := dm33.1 hf30
 refine sr (Kz (.bool (decide (((k25 : Nat) : Int) < ((p0.xH.ls.length : Nat) : Int)))) (nt (Wp.seq ?_)))
 by_cases h37 : ((k25 : Nat) : Int) < ((p0.xH.ls.length : Nat) : Int)
 obtain ⟨x38, hx39⟩ := rds_at (ls := p0.xH.ls) (i := k25) HeldD.len (by decide) (H29.ro hx0x0) (by first | omega | (simp; done) | (simp; omega))
 have hd40 := drop_at hx39
 refine jT (dT h37) (sk (Wp.seq (bo (sr (fw (.pointer (some ⟨ab A0x0, ao A0x0 + k25 * 4, none⟩)) (Yl.indexAddr (El27) rfl rfl ((H29.ro hx0x0).addr (i := k25) (by omega)) (by omega)) (fw (.agg (HeldD.cells x38).toArray) (Yl.load rfl (Lds.agg (cs := (HeldD.cells x38)) Try.isAgg73 Try.sizeOf73 ((H29.ro hx0x0).elem HeldD.len hx39 (by decide)))) ?_))))))
 refine npw [.int .u64 0, .string ⟨List.toArray ([])⟩, .string ⟨List.toArray ([])⟩, .bool false] 73 H29 ?_
 intro g41 w42 H43
 refine sto (HeldD.cells x38) 0 H43 Try.sizeOf73 ?_
 intro w44 H45
 refine ns (Kz (.pointer (some ⟨g41, 0, none⟩)) (Lz (.int .u64 ((x38.xTxn : Nat) : Int)) H45 0 Try.isAgg30 (Mz rfl (Kz (.bool (decide (((x38.xTxn : Nat) : Int) = ((p1 : Nat) : Int)))) (nt ?_)))))
 by_cases h46 : ((x38.xTxn : Nat) : Int) = ((p1 : Nat) : Int)
 refine jT (dT h46) (Wp.region (Mz rfl (Kz (.pointer (some ⟨g41, 1, none⟩)) (La (LockD.cells x38.xLock) H45 0 Try.isAgg34 Try.sizeOf34 ?_))))
 refine nrw (LockD.cells x38.xLock) 34 3 1 H45 ?_
 intro A47 w48 H49
 replace H49 := Own.reh (y := row A47 1 1 (List.flatMap LockD.cells ([x38.xLock])) 34 3) rfl H49
 have H50 := H49.pk [3, 0, 1, 2]
 refine WL.do rfl (Do.appendW (k := l24.length) (m := 1) (El46) H50 rfl rfl (src_of Try.underlying46 (H50.rds (i := 1) rfl) (flat_one LockD.one ([x38.xLock]))) rfl (by omega) (s := List.length (l24 ++ [x38.xLock])) (by first | omega | (simp only [List.length_append, List.length_cons, List.length_nil] <;> omega)) (List.flatMap_append).symm ?_)
 intro A51 c52 w53 H54
 have hl55 : List.length (l24 ++ [x38.xLock]) = l24.length + 1 := by simp only [List.length_append, List.length_cons, List.length_nil]
 refine Az rfl (WL.nil (bN (Fin.then ?_)))
 have H56 := H54.pk [0, 3]
 refine Wp.region (fw (.int .i64 ((k25 + 1 : Nat) : Int)) (Yl.int (e := IntKind.i64.wrap (((k25 : Nat) : Int) + 1)) yk (by rw [IntWalk.i64_in _ (by omega)]; omega)) (Mz rfl (WL.nil ?_)))
 have H57 := H56.pk [1, 0]
 exact Fin.round (A51, c52, (l24 ++ [x38.xLock]), k25 + 1) ⟨rfl, rfl, rfl, rfl, rfl, rfl, trivial⟩ (dm33.2 ⟨H57, by omega, by omega, et (hq34) (et (congrArg (fun q => r16_Table_Holds_L0 p1 q l24) hd40) (ip h46))⟩) (by show p0.xH.ls.length - (k25 + 1) < p0.xH.ls.length - k25; omega)
 refine jF (dF h46) (Wp.skip (bN (Fin.then ?_)))
 have H58 := H45.pk [1, 2]
 refine Wp.region (fw (.int .i64 ((k25 + 1 : Nat) : Int)) (Yl.int (e := IntKind.i64.wrap (((k25 : Nat) : Int) + 1)) yk (by rw [IntWalk.i64_in _ (by omega)]; omega)) (Mz rfl (WL.nil ?_)))
 have H59 := H58.pk [0, 1]
 exact Fin.round (A22, c23, l24, k25 + 1) ⟨rfl, rfl, rfl, rfl, rfl, rfl, trivial⟩ (dm33.2 ⟨H59, by omega, by omega, et (hq34) (et (congrArg (fun q => r16_Table_Holds_L0 p1 q l24) hd40) (iN h46))⟩) (by show p0.xH.ls.length - (k25 + 1) < p0.xH.ls.length - k25; omega)
 refine jF (dF h37) (Wp.exit (Fin.thenX ?_))
 have hL60 : r16_Table_Holds_L0 p1 p0.xH.ls ([]) = l24 := et (hq34) (et (congrArg (fun q => r16_Table_Holds_L0 p1 q l24) (drop_end (ls := p0.xH.ls) (i := k25) (by omega))) rfl)
 refine Fin.thenX (Fin.blockX (Fin.then (sr (Mz rfl (An rfl (rt (rs ?_)))))))
 have H61 := H29.pk [1, 0]
 obtain rfl : _ = l24 := hr.symm.trans (bnd_of hL60)
 exact ⟨A22, c23, rfl, H61⟩
def r16_Table_Txns_L0 (p0 : TableDT) : List HeldD → List Nat → (List Nat)
  | [], l24 => l24
  | x38 :: q26, l24 => bnd (r16_Add l24 x38.xTxn) fun yr52 => r16_Table_Txns_L0 p0 q26 yr52
def r16_Table_Txns_L1 : List HeldD → List Nat → (List Nat)
  | [], l66 => l66
  | x80 :: q68, l66 => bnd (r16_Add l66 x80.xTxn) fun yr94 => r16_Table_Txns_L1 q68 yr94
def r16_Table_Txns (p0 : TableDT) : (List Nat) :=
 bnd (r16_Table_Txns_L0 p0 p0.xH.ls ([])) fun sLrL => bnd (r16_Table_Txns_L1 p0.xW.ls sLrL) fun sLrLaL => sLrLaL
set_option maxRecDepth 100000 in
theorem r16_Table_Txns_ok (w : World) (D : Nat → Prop) (g0 : Nat) (p0 : TableDT) (A0x0 : Option Addr) (c0x0 : Nat) (A0x1 : Option Addr) (c0x1 : Nat) (r0 : List Nat) (H : Own w D w [blk g0 [.slice A0x0 p0.xH.ls.length c0x0, .slice A0x1 p0.xW.ls.length c0x1] 29]) (hx0x0 : Ro w D fun w' => Rds w' 4 A0x0 p0.xH.ls.length (List.flatMap HeldD.cells p0.xH.ls)) (hb0x0 : p0.xH.ls.length ≤ c0x0 ∧ p0.xH.ls.length ≤ 9223372036854775807) (hx0x1 : Ro w D fun w' => Rds w' 4 A0x1 p0.xW.ls.length (List.flatMap HeldD.cells p0.xW.ls)) (hb0x1 : p0.xW.ls.length ≤ c0x1 ∧ p0.xW.ls.length ≤ 9223372036854775807) (hh0 : p0.xH.ls.length ≤ 400 ∧ p0.xW.ls.length ≤ 400) (hr : r16_Table_Txns p0 = r0) :
    Calls Try.prog 39 #[.pointer (some ⟨g0, 0, none⟩)] w (Ret fun v w' => ∃ (B0 : Option Addr) (b0 : Nat), v = .slice B0 r0.length b0 ∧ Own w D w' [row B0 r0.length b0 (List.flatMap (eN .u64) r0) 30 1, blk g0 [.slice A0x0 p0.xH.ls.length c0x0, .slice A0x1 p0.xW.ls.length c0x1] 29] ∧ (r0.length ≤ p0.xH.ls.length + p0.xW.ls.length)) := by
 refine Calls.body (args := [.pointer (some ⟨g0, 0, none⟩)]) Try.func39 rfl rfl rfl ?_
 show Wp _ _ _ [(0, .pointer (some ⟨g0, 0, none⟩))] _ _
 refine sr (Ar rfl (An rfl (Wp.seq (sr (Mz rfl (Kz (.pointer (some ⟨g0, 0, none⟩)) (Kz (.pointer (some ⟨g0, 0, none⟩)) (Lz (.slice A0x0 p0.xH.ls.length c0x0) H 0 Try.isAgg27 (Kz (.int .i64 ((p0.xH.ls.length : Nat) : Int)) (Mn rfl (bo ?_)))))))))))
 have H21 : Own w D w [row none 0 0 (List.flatMap (eN .u64) ([])) 30 1, blk g0 [.slice A0x0 p0.xH.ls.length c0x0, .slice A0x1 p0.xW.ls.length c0x1] 29] := H.free (row_nil 30 1)
 have H27 := H21.pk [1, 0]
 obtain ⟨I31, hI32⟩ : ∃ q : ((Option Addr) × Nat × (List Nat) × Nat) → World → Prop, q = fun (i : (Option Addr) × Nat × (List Nat) × Nat) w' => Own w D w' [blk g0 [.slice A0x0 p0.xH.ls.length c0x0, .slice A0x1 p0.xW.ls.length c0x1] 29, row i.1 i.2.2.1.length i.2.1 (List.flatMap (eN .u64) i.2.2.1) 30 1] ∧ (i.2.2.2 ≤ p0.xH.ls.length ∧ i.2.2.1.length ≤ i.2.2.2 ∧ r16_Table_Txns_L0 p0 p0.xH.ls ([]) = r16_Table_Txns_L0 p0 (List.drop i.2.2.2 p0.xH.ls) i.2.2.1) := ⟨_, rfl⟩
 have dm33 : ∀ {A22 : Option Addr} {c23 : Nat} {l24 : List Nat} {k25 : Nat} {w' : World}, I31 (A22, c23, l24, k25) w' ↔ Own w D w' [blk g0 [.slice A0x0 p0.xH.ls.length c0x0, .slice A0x1 p0.xW.ls.length c0x1] 29, row A22 l24.length c23 (List.flatMap (eN .u64) l24) 30 1] ∧ k25 ≤ p0.xH.ls.length ∧ l24.length ≤ k25 ∧ r16_Table_Txns_L0 p0 p0.xH.ls ([]) = r16_Table_Txns_L0 p0 (List.drop k25 p0.xH.ls) l24 := by intros; subst hI32; exact Iff.rfl
 refine Wp.loop (fun i : (Option Addr) × Nat × (List Nat) × Nat => [(3, .slice i.1 i.2.2.1.length i.2.1), (13, .int .i64 ((i.2.2.2 : Nat) : Int)), (12, .int .i64 ((p0.xH.ls.length : Nat) : Int)), (11, .slice A0x0 p0.xH.ls.length c0x0), (2, .slice none 0 0), (0, .pointer (some ⟨g0, 0, none⟩))]) I31 (fun i => p0.xH.ls.length - i.2.2.2) (none, 0, [], 0) ⟨rfl, rfl, rfl, rfl, rfl, rfl, trivial⟩ (dm33.2 ⟨H27, (show 0 ≤ p0.xH.ls.length ∧ 0 ≤ 0 ∧ r16_Table_Txns_L0 p0 p0.xH.ls ([]) = r16_Table_Txns_L0 p0 (List.drop 0 p0.xH.ls) ([]) from ⟨by omega, by omega, rfl⟩)⟩) ?_
 rintro ⟨A22, c23, l24, k25⟩ w28 hf30
 show Wp _ _ _ [(3, .slice A22 l24.length c23), (13, .int .i64 ((k25 : Nat) : Int)), (12, .int .i64 ((p0.xH.ls.length : Nat) : Int)), (11, .slice A0x0 p0.xH.ls.length c0x0), (2, .slice none 0 0), (0, .pointer (some ⟨g0, 0, none⟩))] _ _
 obtain ⟨H29, hi35, hi36, hq34⟩ := dm33.1 hf30
 refine sr (Kz (.bool (decide (((k25 : Nat) : Int) < ((p0.xH.ls.length : Nat) : Int)))) (nt (Wp.seq ?_)))
 by_cases h37 : ((k25 : Nat) : Int) < ((p0.xH.ls.length : Nat) : Int)
 obtain ⟨x38, hx39⟩ := rds_at (ls := p0.xH.ls) (i := k25) HeldD.len (by decide) (H29.ro hx0x0) (by first | omega | (simp; done) | (simp; omega))
 have hd40 := drop_at hx39
 refine jT (dT h37) (sk (Wp.seq (bo (sr (fw (.pointer (some ⟨ab A0x0, ao A0x0 + k25 * 4, none⟩)) (Yl.indexAddr (El27) rfl rfl ((H29.ro hx0x0).addr (i := k25) (by omega)) (by omega)) (fw (.agg (HeldD.cells x38).toArray) (Yl.load rfl (Lds.agg (cs := (HeldD.cells x38)) Try.isAgg73 Try.sizeOf73 ((H29.ro hx0x0).elem HeldD.len hx39 (by decide)))) ?_))))))
 refine npw [.int .u64 0, .string ⟨List.toArray ([])⟩, .string ⟨List.toArray ([])⟩, .bool false] 73 H29 ?_
 intro g41 w42 H43
 refine sto (HeldD.cells x38) 0 H43 Try.sizeOf73 ?_
 intro w44 H45
 refine nt (Wp.region (Mz rfl (Kz (.pointer (some ⟨g41, 0, none⟩)) (Lz (.int .u64 ((x38.xTxn : Nat) : Int)) H45 0 Try.isAgg30 ?_))))
 have H46 := H45.pk [2, 0, 1]
 obtain ⟨r52, hr53⟩ : ∃ q, r16_Add l24 x38.xTxn = q := ⟨_, rfl⟩
 obtain ⟨D47, HP48, ro49, bk50, rr51⟩ := Own.enter1 H46
 refine cl Try.call56 (r16_Add_ok _ _ A22 l24.length c23 l24 x38.xTxn r52 HP48 rfl (by omega) (by first | omega | exact Nat.zero_le _) hr53) ?_
 rintro _ w54 ⟨A57, c58, rfl, HQ55, hk59⟩
 have H56 := bk50 _ _ HQ55
 have hb60 := H56.rowC (i := 0) rfl
 replace hk59 : r52.length ≤ l24.length + 1 := hk59
 refine Az rfl (WL.nil (bN (Fin.then ?_)))
 have H61 := H56.pk [0, 2]
 refine Wp.region (fw (.int .i64 ((k25 + 1 : Nat) : Int)) (Yl.int (e := IntKind.i64.wrap (((k25 : Nat) : Int) + 1)) yk (by rw [IntWalk.i64_in _ (by omega)]; omega)) (Mz rfl (WL.nil ?_)))
 have H62 := H61.pk [1, 0]
 exact Fin.round (A57, c58, r52, k25 + 1) ⟨rfl, rfl, rfl, rfl, rfl, rfl, trivial⟩ (dm33.2 ⟨H62, by omega, by omega, et (hq34) (et (congrArg (fun q => r16_Table_Txns_L0 p0 q l24) hd40) (bnd_of hr53))⟩) (by show p0.xH.ls.length - (k25 + 1) < p0.xH.ls.length - k25; omega)
 refine jF (dF h37) (Wp.exit (Fin.thenX ?_))
 have hL63 : r16_Table_Txns_L0 p0 p0.xH.ls ([]) = l24 := et (hq34) (et (congrArg (fun q => r16_Table_Txns_L0 p0 q l24) (drop_end (ls := p0.xH.ls) (i := k25) (by omega))) rfl)
 refine Fin.thenX (Fin.blockX (Fin.then (Wp.seq (sr (Mz rfl (Kz (.pointer (some ⟨g0, 0, none⟩)) (Kz (.pointer (some ⟨g0, 1, none⟩)) (Lz (.slice A0x1 p0.xW.ls.length c0x1) H29 0 Try.isAgg27 (Kz (.int .i64 ((p0.xW.ls.length : Nat) : Int)) (Mn rfl (bo ?_)))))))))))
 have H69 := H29.pk [0, 1]
 obtain ⟨I73, hI74⟩ : ∃ q : ((Option Addr) × Nat × (List Nat) × Nat) → World → Prop, q = fun (i : (Option Addr) × Nat × (List Nat) × Nat) w' => Own w D w' [blk g0 [.slice A0x0 p0.xH.ls.length c0x0, .slice A0x1 p0.xW.ls.length c0x1] 29, row i.1 i.2.2.1.length i.2.1 (List.flatMap (eN .u64) i.2.2.1) 30 1] ∧ (i.2.2.2 ≤ p0.xW.ls.length ∧ i.2.2.1.length ≤ l24.length + i.2.2.2 ∧ r16_Table_Txns_L1 p0.xW.ls l24 = r16_Table_Txns_L1 (List.drop i.2.2.2 p0.xW.ls) i.2.2.1) := ⟨_, rfl⟩
 have dm75 : ∀ {A64 : Option Addr} {c65 : Nat} {l66 : List Nat} {k67 : Nat} {w' : World}, I73 (A64, c65, l66, k67) w' ↔ Own w D w' [blk g0 [.slice A0x0 p0.xH.ls.length c0x0, .slice A0x1 p0.xW.ls.length c0x1] 29, row A64 l66.length c65 (List.flatMap (eN .u64) l66) 30 1] ∧ k67 ≤ p0.xW.ls.length ∧ l66.length ≤ l24.length + k67 ∧ r16_Table_Txns_L1 p0.xW.ls l24 = r16_Table_Txns_L1 (List.drop k67 p0.xW.ls) l66 := by intros; subst hI74; exact Iff.rfl
 refine Wp.loop (fun i : (Option Addr) × Nat × (List Nat) × Nat => [(3, .slice i.1 i.2.2.1.length i.2.1), (27, .int .i64 ((i.2.2.2 : Nat) : Int)), (26, .int .i64 ((p0.xW.ls.length : Nat) : Int)), (25, .slice A0x1 p0.xW.ls.length c0x1), (2, .slice none 0 0)]) I73 (fun i => p0.xW.ls.length - i.2.2.2) (A22, c23, l24, 0) ⟨rfl, rfl, rfl, rfl, rfl, trivial⟩ (dm75.2 ⟨H69, by omega, by omega, rfl⟩) ?_
 rintro ⟨A64, c65, l66, k67⟩ w70 hf72
 show Wp _ _ _ [(3, .slice A64 l66.length c65), (27, .int .i64 ((k67 : Nat) : Int)), (26, .int .i64 ((p0.xW.ls.length : Nat) : Int)), (25, .slice A0x1 p0.xW.ls.length c0x1), (2, .slice none 0 0)] _ _
 obtain ⟨H71, hi77, hi78, hq76⟩ := dm75.1 hf72
 refine sr (Kz (.bool (decide (((k67 : Nat) : Int) < ((p0.xW.ls.length : Nat) : Int)))) (nt (Wp.seq ?_)))
 by_cases h79 : ((k67 : Nat) : Int) < ((p0.xW.ls.length : Nat) : Int)
 obtain ⟨x80, hx81⟩ := rds_at (ls := p0.xW.ls) (i := k67) HeldD.len (by decide) (H71.ro hx0x1) (by first | omega | (simp; done) | (simp; omega))
 have hd82 := drop_at hx81
 refine jT (dT h79) (sk (Wp.seq (bo (sr (fw (.pointer (some ⟨ab A0x1, ao A0x1 + k67 * 4, none⟩)) (Yl.indexAddr (El27) rfl rfl ((H71.ro hx0x1).addr (i := k67) (by omega)) (by omega)) (fw (.agg (HeldD.cells x80).toArray) (Yl.load rfl (Lds.agg (cs := (HeldD.cells x80)) Try.isAgg73 Try.sizeOf73 ((H71.ro hx0x1).elem HeldD.len hx81 (by decide)))) ?_))))))
 refine npw [.int .u64 0, .string ⟨List.toArray ([])⟩, .string ⟨List.toArray ([])⟩, .bool false] 73 H71 ?_
 intro g83 w84 H85
 refine sto (HeldD.cells x80) 0 H85 Try.sizeOf73 ?_
 intro w86 H87
 refine nt (Wp.region (Mz rfl (Kz (.pointer (some ⟨g83, 0, none⟩)) (Lz (.int .u64 ((x80.xTxn : Nat) : Int)) H87 0 Try.isAgg30 ?_))))
 have H88 := H87.pk [2, 0, 1]
 obtain ⟨r94, hr95⟩ : ∃ q, r16_Add l66 x80.xTxn = q := ⟨_, rfl⟩
 obtain ⟨D89, HP90, ro91, bk92, rr93⟩ := Own.enter1 H88
 refine cl Try.call56 (r16_Add_ok _ _ A64 l66.length c65 l66 x80.xTxn r94 HP90 rfl (by omega) (by first | omega | exact Nat.zero_le _) hr95) ?_
 rintro _ w96 ⟨A99, c100, rfl, HQ97, hk101⟩
 have H98 := bk92 _ _ HQ97
 have hb102 := H98.rowC (i := 0) rfl
 replace hk101 : r94.length ≤ l66.length + 1 := hk101
 refine Az rfl (WL.nil (bN (Fin.then ?_)))
 have H103 := H98.pk [0, 2]
 refine Wp.region (fw (.int .i64 ((k67 + 1 : Nat) : Int)) (Yl.int (e := IntKind.i64.wrap (((k67 : Nat) : Int) + 1)) yk (by rw [IntWalk.i64_in _ (by omega)]; omega)) (Mz rfl (WL.nil ?_)))
 have H104 := H103.pk [1, 0]
 exact Fin.round (A99, c100, r94, k67 + 1) ⟨rfl, rfl, rfl, rfl, rfl, trivial⟩ (dm75.2 ⟨H104, by omega, by omega, et (hq76) (et (congrArg (fun q => r16_Table_Txns_L1 q l66) hd82) (bnd_of hr95))⟩) (by show p0.xW.ls.length - (k67 + 1) < p0.xW.ls.length - k67; omega)
 refine jF (dF h79) (Wp.exit (Fin.thenX ?_))
 have hL105 : r16_Table_Txns_L1 p0.xW.ls l24 = l66 := et (hq76) (et (congrArg (fun q => r16_Table_Txns_L1 q l66) (drop_end (ls := p0.xW.ls) (i := k67) (by omega))) rfl)
 refine Fin.thenX (Fin.blockX (Fin.then (sr (Mz rfl (An rfl (rt (rs ?_)))))))
 have H106 := H71.pk [1, 0]
 obtain rfl : _ = l66 := hr.symm.trans (et (bnd_of hL63) (bnd_of hL105))
 exact ⟨A64, c65, rfl, H106, (by omega)⟩
def r16_Table_wait_L0 (p1 : HeldD) : List HeldD → Nat → Nat
  | [], k28 => k28
  | x42 :: q29, k28 => if ((x42.xTxn : Nat) : Int) < ((p1.xTxn : Nat) : Int) then r16_Table_wait_L0 p1 q29 (k28 + 1) else k28
def r16_Table_wait (p0 : TableDT) (p1 : HeldD) : TableDT :=
 bnd (bnd (r16_Table_wait_L0 p1 p0.xW.ls 0) fun sLrJjL => sLrJjL) fun sJrJ => TableDT.mk (Ll.mk p0.xH.ls) (Ll.mk (((List.take sJrJ p0.xW.ls) ++ [p1]) ++ (List.drop sJrJ p0.xW.ls)))
set_option maxRecDepth 100000 in
theorem r16_Table_wait_ok (w : World) (D : Nat → Prop) (g0 : Nat) (p0 : TableDT) (A0x0 : Option Addr) (c0x0 : Nat) (A0x1 : Option Addr) (c0x1 : Nat) (p1 : HeldD) (r0 : TableDT) (H : Own w D w [blk g0 [.slice A0x0 p0.xH.ls.length c0x0, .slice A0x1 p0.xW.ls.length c0x1] 29, row A0x0 p0.xH.ls.length c0x0 (List.flatMap HeldD.cells p0.xH.ls) 73 4, row A0x1 p0.xW.ls.length c0x1 (List.flatMap HeldD.cells p0.xW.ls) 73 4]) (hh0 : p0.xH.ls.length ≤ 400 ∧ p0.xW.ls.length ≤ 400) (hr : r16_Table_wait p0 p1 = r0) :
    Calls Try.prog 36 #[.pointer (some ⟨g0, 0, none⟩), .agg (HeldD.cells p1).toArray] w (Ret fun v w' => ∃ (B0ox0 : Option Addr) (b0ox0 : Nat) (B0ox1 : Option Addr) (b0ox1 : Nat), v = .tuple #[] ∧ Own w D w' [blk g0 [.slice B0ox0 r0.xH.ls.length b0ox0, .slice B0ox1 r0.xW.ls.length b0ox1] 29, row B0ox0 r0.xH.ls.length b0ox0 (List.flatMap HeldD.cells r0.xH.ls) 73 4, row B0ox1 r0.xW.ls.length b0ox1 (List.flatMap HeldD.cells r0.xW.ls) 73 4]) := by
 have hc0x0 := H.rowC (i := 1) rfl
 have hc0x1 := H.rowC (i := 2) rfl
 refine Calls.body (args := [.pointer (some ⟨g0, 0, none⟩), .agg (HeldD.cells p1).toArray]) Try.func36 rfl rfl rfl ?_
 show Wp _ _ _ [(0, .pointer (some ⟨g0, 0, none⟩)), (1, .agg (HeldD.cells p1).toArray)] _ _
 refine sr ?_
 refine npw (HeldD.cells p1) 73 H ?_
 intro g21 w22 H23
 refine ns (An rfl (Wp.seq ?_))
 obtain ⟨I25, hI26⟩ : ∃ q : Nat → World → Prop, q = fun (i : Nat) w' => Own w D w' [blk g21 (HeldD.cells p1) 73, blk g0 [.slice A0x0 p0.xH.ls.length c0x0, .slice A0x1 p0.xW.ls.length c0x1] 29, row A0x0 p0.xH.ls.length c0x0 (List.flatMap HeldD.cells p0.xH.ls) 73 4, row A0x1 p0.xW.ls.length c0x1 (List.flatMap HeldD.cells p0.xW.ls) 73 4] ∧ (i ≤ 9223372036854775807 ∧ i ≤ p0.xW.ls.length ∧ (bnd (r16_Table_wait_L0 p1 p0.xW.ls 0) fun sLrJjL => sLrJjL) = i) := ⟨_, rfl⟩
 have dm27 : ∀ {k24 : Nat} {w' : World}, I25 k24 w' ↔ Own w D w' [blk g21 (HeldD.cells p1) 73, blk g0 [.slice A0x0 p0.xH.ls.length c0x0, .slice A0x1 p0.xW.ls.length c0x1] 29, row A0x0 p0.xH.ls.length c0x0 (List.flatMap HeldD.cells p0.xH.ls) 73 4, row A0x1 p0.xW.ls.length c0x1 (List.flatMap HeldD.cells p0.xW.ls) 73 4] ∧ k24 ≤ 9223372036854775807 ∧ k24 ≤ p0.xW.ls.length ∧ (bnd (r16_Table_wait_L0 p1 p0.xW.ls 0) fun sLrJjL => sLrJjL) = k24 := by intros; subst hI26; exact Iff.rfl
 refine Wp.joinT (fun i : Nat => [(4, .int .i64 ((i : Nat) : Int)), (3, .pointer (some ⟨g21, 0, none⟩)), (0, .pointer (some ⟨g0, 0, none⟩))]) I25 ?_ ?_
 refine bo ?_
 have H30 := H23.pk [0, 1, 2, 3]
 obtain ⟨I34, hI35⟩ : ∃ q : Nat → World → Prop, q = fun (i : Nat) w' => Own w D w' [blk g21 (HeldD.cells p1) 73, blk g0 [.slice A0x0 p0.xH.ls.length c0x0, .slice A0x1 p0.xW.ls.length c0x1] 29, row A0x0 p0.xH.ls.length c0x0 (List.flatMap HeldD.cells p0.xH.ls) 73 4, row A0x1 p0.xW.ls.length c0x1 (List.flatMap HeldD.cells p0.xW.ls) 73 4] ∧ (i ≤ p0.xW.ls.length ∧ r16_Table_wait_L0 p1 p0.xW.ls 0 = r16_Table_wait_L0 p1 (List.drop i p0.xW.ls) i) := ⟨_, rfl⟩
 have dm36 : ∀ {k28 : Nat} {w' : World}, I34 k28 w' ↔ Own w D w' [blk g21 (HeldD.cells p1) 73, blk g0 [.slice A0x0 p0.xH.ls.length c0x0, .slice A0x1 p0.xW.ls.length c0x1] 29, row A0x0 p0.xH.ls.length c0x0 (List.flatMap HeldD.cells p0.xH.ls) 73 4, row A0x1 p0.xW.ls.length c0x1 (List.flatMap HeldD.cells p0.xW.ls) 73 4] ∧ k28 ≤ p0.xW.ls.length ∧ r16_Table_wait_L0 p1 p0.xW.ls 0 = r16_Table_wait_L0 p1 (List.drop k28 p0.xW.ls) k28 := by intros; subst hI35; exact Iff.rfl
 refine Wp.loop (fun i : Nat => [(4, .int .i64 ((i : Nat) : Int)), (3, .pointer (some ⟨g21, 0, none⟩)), (0, .pointer (some ⟨g0, 0, none⟩))]) I34 (fun i => p0.xW.ls.length - i) 0 ⟨rfl, rfl, rfl, trivial⟩ (dm36.2 ⟨H30, by omega, rfl⟩) ?_
 rintro k28 w31 hf33
 show Wp _ _ _ [(4, .int .i64 ((k28 : Nat) : Int)), (3, .pointer (some ⟨g21, 0, none⟩)), (0, .pointer (some ⟨g0, 0, none⟩))] _ _
 obtain ⟨H32, hi38, hq37⟩ := dm36.1 hf33
 refine Wp.seq (Wp.seq ?_)
 have H40 := H32.drew
 refine Wp.drawnX [] (fun W => ∃ L', Own w D W ([blk g21 (HeldD.cells p1) 73, blk g0 [.slice A0x0 p0.xH.ls.length c0x0, .slice A0x1 p0.xW.ls.length c0x1] 29, row A0x0 p0.xH.ls.length c0x0 (List.flatMap HeldD.cells p0.xH.ls) 73 4, row A0x1 p0.xW.ls.length c0x1 (List.flatMap HeldD.cells p0.xW.ls) 73 4] ++ L')) (by kernel_rfl) (by kernel_rfl) (NoP.then (NoP.then (NoP.then (NoP.block (NoP.then NoP.base))))) ⟨_, H40⟩ ?_
 revert H40
 generalize World.drew w31 = w39
 intro H40
 refine GX.take (v := .int .i64 ((k28 : Nat) : Int)) (rs := []) 0 rfl (by kernel_rfl) (fun _ _ => Yl.move rfl) (GX.take (v := .pointer (some ⟨g0, 0, none⟩)) (rs := []) 1 rfl (by kernel_rfl) (fun _ _ => Yl.move rfl) (GX.take (v := .pointer (some ⟨g0, 0, none⟩)) (rs := []) 2 rfl (by kernel_rfl) (fun _ _ => yk) (GX.take (v := .pointer (some ⟨g0, 1, none⟩)) (rs := []) 3 rfl (by kernel_rfl) (fun _ _ => yk) (GX.take (v := .slice A0x1 p0.xW.ls.length c0x1) (rs := []) 4 rfl (by kernel_rfl) (fun _ ⟨_, H9⟩ => Yl.load rfl (Lds.one Try.isAgg27 (Cls.of (H9.cls (i := 1) rfl) rfl))) (GX.take (v := .int .i64 ((p0.xW.ls.length : Nat) : Int)) (rs := []) 5 rfl (by kernel_rfl) (fun _ _ => yk) (GX.take (v := .bool (decide (((k28 : Nat) : Int) < ((p0.xW.ls.length : Nat) : Int)))) (rs := []) 6 rfl (by kernel_rfl) (fun _ _ => yk) (GX.take (v := .bool (decide (((k28 : Nat) : Int) < ((p0.xW.ls.length : Nat) : Int)))) (rs := []) 7 rfl (by kernel_rfl) (fun _ _ => Yl.move rfl) ?_)))))))
 by_cases h41 : ((k28 : Nat) : Int) < ((p0.xW.ls.length : Nat) : Int)
 obtain ⟨x42, hx43⟩ := rds_at (ls := p0.xW.ls) (i := k28) HeldD.len (by decide) (H40.rds (i := 3) rfl) (by first | omega | (simp; done) | (simp; omega))
 have hd44 := drop_at hx43
 refine GX.takeG (v := .pointer (some ⟨g0, 0, none⟩)) (rs := []) 8 rfl rfl rfl (dT h41) (by kernel_rfl) (fun _ _ => Yl.move rfl) (GX.takeG (v := .pointer (some ⟨g0, 0, none⟩)) (rs := []) 9 rfl rfl rfl (dT h41) (by kernel_rfl) (fun _ _ => yk) (GX.takeG (v := .pointer (some ⟨g0, 1, none⟩)) (rs := []) 10 rfl rfl rfl (dT h41) (by kernel_rfl) (fun _ _ => yk) (GX.takeG (v := .slice A0x1 p0.xW.ls.length c0x1) (rs := []) 11 rfl rfl rfl (dT h41) (by kernel_rfl) (fun _ ⟨_, H9⟩ => Yl.load rfl (Lds.one Try.isAgg27 (Cls.of (H9.cls (i := 1) rfl) rfl))) (GX.takeG (v := .int .i64 ((k28 : Nat) : Int)) (rs := []) 12 rfl rfl rfl (dT h41) (by kernel_rfl) (fun _ _ => Yl.move rfl) (GX.takeG (v := .pointer (some ⟨ab A0x1, ao A0x1 + k28 * 4, none⟩)) (rs := []) 13 rfl rfl rfl (dT h41) (by kernel_rfl) (fun _ ⟨_, H9⟩ => Yl.indexAddr (El27) rfl rfl ((H9.rds (i := 3) rfl).addr (i := k28) (by omega)) (by omega)) (GX.takeG (v := .pointer (some ⟨ab A0x1, ao A0x1 + k28 * 4, none⟩)) (rs := []) 14 rfl rfl rfl (dT h41) (by kernel_rfl) (fun _ _ => yk) (GX.takeG (v := .int .u64 ((x42.xTxn : Nat) : Int)) (rs := []) 15 rfl rfl rfl (dT h41) (by kernel_rfl) (fun _ ⟨_, H9⟩ => Yl.load rfl (Lds.one Try.isAgg30 (((H9.rds (i := 3) rfl).elem HeldD.len hx43 (by decide)).at_ (k := 0) rfl))) (GX.takeG (v := .pointer (some ⟨g21, 0, none⟩)) (rs := []) 16 rfl rfl rfl (dT h41) (by kernel_rfl) (fun _ _ => yk) (GX.takeG (v := .int .u64 ((p1.xTxn : Nat) : Int)) (rs := []) 17 rfl rfl rfl (dT h41) (by kernel_rfl) (fun _ ⟨_, H9⟩ => Yl.load rfl (Lds.one Try.isAgg30 (Cls.of (H9.cls (i := 0) rfl) rfl))) (GX.takeG (v := .bool (decide (((x42.xTxn : Nat) : Int) < ((p1.xTxn : Nat) : Int)))) (rs := []) 18 rfl rfl rfl (dT h41) (by kernel_rfl) (fun _ _ => yk) (GX.take (v := .bool (decide (((x42.xTxn : Nat) : Int) < ((p1.xTxn : Nat) : Int)))) (rs := []) 19 rfl (by kernel_rfl) (fun _ _ => Yl.pickT rfl (dT h41) rfl) (GX.done (by kernel_rfl) (Fin.then ?_)))))))))))))
 by_cases h45 : ((x42.xTxn : Nat) : Int) < ((p1.xTxn : Nat) : Int)
 refine jT (dT h45) (sk (bo (Wp.region (Mz rfl (fw (.int .i64 ((k28 + 1 : Nat) : Int)) (Yl.int (e := IntKind.i64.wrap (((k28 : Nat) : Int) + 1)) yk (by rw [IntWalk.i64_in _ (by omega)]; omega)) (Az rfl (WL.nil (bN ?_))))))))
 have H46 := H40.pk [0, 1, 2, 3]
 exact Fin.round (k28 + 1) ⟨rfl, rfl, rfl, trivial⟩ (dm36.2 ⟨H46, by omega, et (hq37) (et (congrArg (fun q => r16_Table_wait_L0 p1 q k28) hd44) (ip h45))⟩) (by show p0.xW.ls.length - (k28 + 1) < p0.xW.ls.length - k28; omega)
 refine jF (dF h45) (Wp.exit (Fin.thenX (Fin.thenX (Fin.blockX ?_))))
 have H47 := H40.pk [0, 1, 2, 3]
 exact Fin.join k28 ⟨rfl, rfl, rfl, trivial⟩ (dm27.2 ⟨H47, by omega, by omega, bnd_of (et (hq37) (et (congrArg (fun q => r16_Table_wait_L0 p1 q k28) hd44) (iN h45)))⟩)
 refine GX.skipG (rs := []) 8 rfl rfl rfl (dF h41) (by kernel_rfl) (GX.skipG (rs := []) 9 rfl rfl rfl (dF h41) (by kernel_rfl) (GX.skipG (rs := []) 10 rfl rfl rfl (dF h41) (by kernel_rfl) (GX.skipG (rs := []) 11 rfl rfl rfl (dF h41) (by kernel_rfl) (GX.skipG (rs := []) 12 rfl rfl rfl (dF h41) (by kernel_rfl) (GX.skipG (rs := []) 13 rfl rfl rfl (dF h41) (by kernel_rfl) (GX.skipG (rs := []) 14 rfl rfl rfl (dF h41) (by kernel_rfl) (GX.skipG (rs := []) 15 rfl rfl rfl (dF h41) (by kernel_rfl) (GX.skipG (rs := []) 16 rfl rfl rfl (dF h41) (by kernel_rfl) (GX.skipG (rs := []) 17 rfl rfl rfl (dF h41) (by kernel_rfl) (GX.skipG (rs := []) 18 rfl rfl rfl (dF h41) (by kernel_rfl) (GX.take (v := .bool false) (rs := []) 19 rfl (by kernel_rfl) (fun _ _ => Yl.pickF rfl (dF h41) rfl) (GX.done (by kernel_rfl) (Fin.then (jf (Wp.exit (Fin.thenX (Fin.thenX (Fin.blockX ?_))))))))))))))))))
 have H48 := H40.pk [0, 1, 2, 3]
 exact Fin.join k28 ⟨rfl, rfl, rfl, trivial⟩ (dm27.2 ⟨H48, by omega, by omega, bnd_of (et (hq37) (et (congrArg (fun q => r16_Table_wait_L0 p1 q k28) (drop_end (ls := p0.xW.ls) (i := k28) (by omega))) rfl))⟩)
 rintro k24 w49 hf51
 show Wp _ _ _ [(4, .int .i64 ((k24 : Nat) : Int)), (3, .pointer (some ⟨g21, 0, none⟩)), (0, .pointer (some ⟨g0, 0, none⟩))] _ _
 obtain ⟨H50, hi53, hi54, hj52⟩ := dm27.1 hf51
 refine sr (Mz rfl (Kz (.pointer (some ⟨g0, 0, none⟩)) (Kz (.pointer (some ⟨g0, 1, none⟩)) (Lz (.slice A0x1 p0.xW.ls.length c0x1) H50 1 Try.isAgg27 (Mz rfl (fw (.slice A0x1 k24 c0x1) (Yl.cutTo (El27) rfl rfl (by omega)) ?_))))))
 have hz55 : k24 = List.length (List.take k24 p0.xW.ls) := (by first | rfl | omega | (simp only [List.length_append, List.length_cons, List.length_nil, List.length_take, List.length_drop, List.length_set, List.length_replicate, List.length_map] <;> omega))
 have H56 : Own w D w49 [row none 0 0 (List.flatMap HeldD.cells ([])) 73 4, blk g21 (HeldD.cells p1) 73, blk g0 [.slice A0x0 p0.xH.ls.length c0x0, .slice A0x1 p0.xW.ls.length c0x1] 29, row A0x0 p0.xH.ls.length c0x0 (List.flatMap HeldD.cells p0.xH.ls) 73 4, row A0x1 p0.xW.ls.length c0x1 (List.flatMap HeldD.cells p0.xW.ls) 73 4] := H50.free (row_nil 73 4)
 refine WL.do rfl (Do.appendW (k := 0) (m := k24) (El27) H56 rfl rfl (src_of Try.underlying27 (Rds.toE (hi := k24) HeldD.len (H56.rds (i := 4) rfl) (by omega)) (flat_one HeldD.one (List.take k24 p0.xW.ls))) rfl (by omega) (s := List.length (List.take k24 p0.xW.ls)) (by first | omega | (simp only [List.length_append, List.length_cons, List.length_nil] <;> omega)) rfl ?_)
 intro A57 c58 w59 H60
 refine Ar rfl (Mz rfl (La (HeldD.cells p1) H60 1 Try.isAgg73 Try.sizeOf73 ?_))
 refine nrw (HeldD.cells p1) 73 4 1 H60 ?_
 intro A61 w62 H63
 replace H63 := Own.reh (y := row A61 1 1 (List.flatMap HeldD.cells ([p1])) 73 4) rfl H63
 have H64 := H63.pk [1, 0, 2, 3, 4, 5]
 refine WL.do rfl (Do.appendW (k := List.length (List.take k24 p0.xW.ls)) (m := 1) (El27) H64 rfl rfl (src_of Try.underlying27 (H64.rds (i := 1) rfl) (flat_one HeldD.one ([p1]))) rfl (by omega) (s := List.length ((List.take k24 p0.xW.ls) ++ [p1])) (by first | omega | (simp only [List.length_append, List.length_cons, List.length_nil] <;> omega)) (List.flatMap_append).symm ?_)
 intro A65 c66 w67 H68
 have hl69 : List.length ((List.take k24 p0.xW.ls) ++ [p1]) = (List.length (List.take k24 p0.xW.ls)) + 1 := by simp only [List.length_append, List.length_cons, List.length_nil]
 refine An rfl ?_
 have H70 := H68.pk [0, 3, 4, 5]
 refine Wp.region (Mz rfl (Mz rfl (Mz rfl (Kz (.pointer (some ⟨g0, 0, none⟩)) (Kz (.pointer (some ⟨g0, 1, none⟩)) (Lz (.slice A0x1 p0.xW.ls.length c0x1) H70 1 Try.isAgg27 (Mz rfl (fw (.slice (cutA A0x1 k24 4 c0x1) (p0.xW.ls.length - k24) (c0x1 - k24)) (Yl.cutFrom (El27) rfl rfl (by omega)) ?_))))))))
 have hz71 : p0.xW.ls.length - k24 = List.length (List.drop k24 p0.xW.ls) := (by first | rfl | omega | (simp only [List.length_append, List.length_cons, List.length_nil, List.length_take, List.length_drop, List.length_set, List.length_replicate, List.length_map] <;> omega))
 refine WL.do rfl (Do.appendW (k := List.length ((List.take k24 p0.xW.ls) ++ [p1])) (m := p0.xW.ls.length - k24) (El27) H70 rfl rfl (src_of Try.underlying27 (Rds.fromE (lo := k24) HeldD.len (H70.rds (i := 3) rfl) (by omega) (by omega) (by decide)) (flat_one HeldD.one (List.drop k24 p0.xW.ls))) rfl (by omega) (s := List.length (((List.take k24 p0.xW.ls) ++ [p1]) ++ (List.drop k24 p0.xW.ls))) (by first | omega | (simp only [List.length_append, List.length_cons, List.length_nil] <;> omega)) (List.flatMap_append).symm ?_)
 intro A72 c73 w74 H75
 have hl76 : List.length (((List.take k24 p0.xW.ls) ++ [p1]) ++ (List.drop k24 p0.xW.ls)) = (List.length ((List.take k24 p0.xW.ls) ++ [p1])) + (List.length (List.drop k24 p0.xW.ls)) := by simp only [List.length_append, List.length_cons, List.length_nil]
 refine Kz (.pointer (some ⟨g0, 0, none⟩)) (Kz (.pointer (some ⟨g0, 1, none⟩)) ?_)
 have H77 := H75.pk [1, 0, 2, 3]
 refine sto [.slice A72 (List.length (((List.take k24 p0.xW.ls) ++ [p1]) ++ (List.drop k24 p0.xW.ls))) c73] 1 H77 Try.sizeOf27 ?_
 intro w78 H79
 refine WL.nil (Fin.res0 (res0 rfl) ?_)
 have H80 := H79.pk [0, 2, 1]
 obtain rfl : _ = TableDT.mk (Ll.mk p0.xH.ls) (Ll.mk (((List.take k24 p0.xW.ls) ++ [p1]) ++ (List.drop k24 p0.xW.ls))) := hr.symm.trans (bnd_of hj52)
 exact ⟨A0x0, c0x0, A72, c73, rfl, H80⟩
def r16_Table_grant_L0 (p0 : TableDT) (p1 : HeldD) : List HeldD → List Nat → (List Nat)
  | [], l42 => l42
  | x56 :: q44, l42 => if ((x56.xTxn : Nat) : Int) > ((p1.xTxn : Nat) : Int) then bnd (r16_Way x56 p1) fun yr70 => if yr70 = true then bnd (r16_Add l42 x56.xTxn) fun yr82 => r16_Table_grant_L0 p0 p1 q44 yr82 else r16_Table_grant_L0 p0 p1 q44 l42 else r16_Table_grant_L0 p0 p1 q44 l42
def r16_Table_grant_L1 (l42 : List Nat) : List Nat → List HeldD → List HeldD → (List HeldD) × (List HeldD)
  | [], l102, l105 => (l102, l105)
  | x122 :: q106, l102, l105 => bnd (r16_without l102 x122) fun yr131 => bnd (r16_without l105 x122) fun yr149 => r16_Table_grant_L1 l42 q106 yr131 yr149
def r16_Table_grant (p0 : TableDT) (p1 : HeldD) : (List Nat) × TableDT :=
 bnd (r16_Table_grant_L0 p0 p1 p0.xW.ls ([])) fun sLrL => bnd (r16_Table_grant_L1 sLrL sLrL (p0.xH.ls ++ [p1]) p0.xW.ls) fun sLrLaL => (sLrL, TableDT.mk (Ll.mk sLrLaL.1) (Ll.mk sLrLaL.2))
set_option maxRecDepth 100000 in
theorem r16_Table_grant_ok (w : World) (D : Nat → Prop) (g0 : Nat) (p0 : TableDT) (A0x0 : Option Addr) (c0x0 : Nat) (A0x1 : Option Addr) (c0x1 : Nat) (p1 : HeldD) (r0 : List Nat) (r1 : TableDT) (H : Own w D w [blk g0 [.slice A0x0 p0.xH.ls.length c0x0, .slice A0x1 p0.xW.ls.length c0x1] 29, row A0x0 p0.xH.ls.length c0x0 (List.flatMap HeldD.cells p0.xH.ls) 73 4, row A0x1 p0.xW.ls.length c0x1 (List.flatMap HeldD.cells p0.xW.ls) 73 4]) (hh0 : p0.xH.ls.length ≤ 400 ∧ p0.xW.ls.length ≤ 400) (hr : r16_Table_grant p0 p1 = (r0, r1)) :
    Calls Try.prog 34 #[.pointer (some ⟨g0, 0, none⟩), .agg (HeldD.cells p1).toArray] w (Ret fun v w' => ∃ (B0 : Option Addr) (b0 : Nat) (B1ox0 : Option Addr) (b1ox0 : Nat) (B1ox1 : Option Addr) (b1ox1 : Nat), v = .slice B0 r0.length b0 ∧ Own w D w' [row B0 r0.length b0 (List.flatMap (eN .u64) r0) 30 1, blk g0 [.slice B1ox0 r1.xH.ls.length b1ox0, .slice B1ox1 r1.xW.ls.length b1ox1] 29, row B1ox0 r1.xH.ls.length b1ox0 (List.flatMap HeldD.cells r1.xH.ls) 73 4, row B1ox1 r1.xW.ls.length b1ox1 (List.flatMap HeldD.cells r1.xW.ls) 73 4] ∧ (r1.xH.ls.length ≤ p0.xH.ls.length + 1 ∧ r1.xW.ls.length ≤ p0.xW.ls.length ∧ r0.length ≤ p0.xW.ls.length)) := by
 have hc0x0 := H.rowC (i := 1) rfl
 have hc0x1 := H.rowC (i := 2) rfl
 refine Calls.body (args := [.pointer (some ⟨g0, 0, none⟩), .agg (HeldD.cells p1).toArray]) Try.func34 rfl rfl rfl ?_
 show Wp _ _ _ [(0, .pointer (some ⟨g0, 0, none⟩)), (1, .agg (HeldD.cells p1).toArray)] _ _
 refine sr ?_
 refine npw (HeldD.cells p1) 73 H ?_
 intro g21 w22 H23
 refine An rfl (Wp.seq ?_)
 have H25 := H23.drew
 refine Wp.drawnX [18, 21] (fun W => ∃ L', Own w D W ([blk g21 (HeldD.cells p1) 73, blk g0 [.slice A0x0 p0.xH.ls.length c0x0, .slice A0x1 p0.xW.ls.length c0x1] 29, row A0x0 p0.xH.ls.length c0x0 (List.flatMap HeldD.cells p0.xH.ls) 73 4, row A0x1 p0.xW.ls.length c0x1 (List.flatMap HeldD.cells p0.xW.ls) 73 4] ++ L')) (by kernel_rfl) (by kernel_rfl) (NoP.then NoP.base) ⟨_, H25⟩ ?_
 revert H25
 generalize World.drew w22 = w24
 intro H25
 refine GX.takeA (v := .pointer (some ⟨g0, 0, none⟩)) 0 rfl (by kernel_rfl) (fun _ => Yl.move rfl) (GX.take (v := .pointer (some ⟨g0, 0, none⟩)) (rs := [[15, 4, 3, 2], []]) 1 rfl (by kernel_rfl) (fun _ _ => Yl.move rfl) (GX.take (v := .pointer (some ⟨g0, 0, none⟩)) (rs := [[15, 4, 3], []]) 2 rfl (by kernel_rfl) (fun _ _ => yk) (GX.take (v := .pointer (some ⟨g0, 0, none⟩)) (rs := [[15, 4], []]) 3 rfl (by kernel_rfl) (fun _ _ => yk) (GX.take (v := .slice A0x0 p0.xH.ls.length c0x0) (rs := [[15], []]) 4 rfl (by kernel_rfl) (fun _ ⟨_, H9⟩ => Yl.load rfl (Lds.one Try.isAgg27 (Cls.of (H9.cls (i := 1) rfl) rfl))) (GX.take (v := .pointer (some ⟨g0, 0, none⟩)) (rs := [[15, 9, 8, 7, 6], []]) 5 rfl (by kernel_rfl) (fun _ _ => Yl.move rfl) (GX.take (v := .pointer (some ⟨g0, 0, none⟩)) (rs := [[15, 9, 8, 7], []]) 6 rfl (by kernel_rfl) (fun _ _ => yk) (GX.take (v := .pointer (some ⟨g0, 0, none⟩)) (rs := [[15, 9, 8], []]) 7 rfl (by kernel_rfl) (fun _ _ => yk) (GX.take (v := .slice A0x0 p0.xH.ls.length c0x0) (rs := [[15, 9], []]) 8 rfl (by kernel_rfl) (fun _ ⟨_, H9⟩ => Yl.load rfl (Lds.one Try.isAgg27 (Cls.of (H9.cls (i := 1) rfl) rfl))) (GX.take (v := .int .i64 ((p0.xH.ls.length : Nat) : Int)) (rs := [[15], []]) 9 rfl (by kernel_rfl) (fun _ _ => yk) (GX.take (v := .pointer (some ⟨g0, 0, none⟩)) (rs := [[15, 14, 13, 12, 11], []]) 10 rfl (by kernel_rfl) (fun _ _ => Yl.move rfl) (GX.take (v := .pointer (some ⟨g0, 0, none⟩)) (rs := [[15, 14, 13, 12], []]) 11 rfl (by kernel_rfl) (fun _ _ => yk) (GX.take (v := .pointer (some ⟨g0, 0, none⟩)) (rs := [[15, 14, 13], []]) 12 rfl (by kernel_rfl) (fun _ _ => yk) (GX.take (v := .slice A0x0 p0.xH.ls.length c0x0) (rs := [[15, 14], []]) 13 rfl (by kernel_rfl) (fun _ ⟨_, H9⟩ => Yl.load rfl (Lds.one Try.isAgg27 (Cls.of (H9.cls (i := 1) rfl) rfl))) (GX.take (v := .int .i64 ((p0.xH.ls.length : Nat) : Int)) (rs := [[15], []]) 14 rfl (by kernel_rfl) (fun _ _ => yk) (GX.take (v := .slice A0x0 p0.xH.ls.length p0.xH.ls.length) (rs := [[], []]) 15 rfl (by kernel_rfl) (fun _ _ => Yl.cut3 (El27) rfl rfl rfl (by omega) (by omega)) (GX.take (v := .agg (HeldD.cells p1).toArray) (rs := [[17], []]) 16 rfl (by kernel_rfl) (fun _ ⟨_, H9⟩ => Yl.load rfl (Lds.agg (cs := (HeldD.cells p1)) Try.isAgg73 Try.sizeOf73 ((H9.cls (i := 0) rfl).lit (k := 0) (m := 4) rfl))) ?_))))))))))))))))
 refine GX.do 17 rfl (by kernel_rfl) (Do.newRow (cs := (HeldD.cells p1)) (t := 73) (sz := 4) (m := 1) H25 rfl rfl (fun _ => by kernel_rfl) rfl (by decide) ?_)
 intro A26 w27 H28
 replace H28 := Own.reh (y := row A26 1 1 (List.flatMap HeldD.cells ([p1])) 73 4) rfl H28
 have H29 := H28.pk [1, 2, 3, 4, 0]
 refine ⟨.inr ⟨_, H29⟩, ?_⟩
 refine GX.do 18 rfl (by kernel_rfl) (Do.appendNewW (k := p0.xH.ls.length) (m := 1) (El27) H29 (H29.rds (i := 2) rfl) rfl rfl (src_of Try.underlying27 (H29.rds (i := 4) rfl) (flat_one HeldD.one ([p1]))) (by omega) rfl (by omega) (s := List.length (p0.xH.ls ++ [p1])) (by first | omega | (simp only [List.length_append, List.length_cons, List.length_nil] <;> omega)) (List.flatMap_append).symm ?_)
 intro A30 c31 w32 H33
 have hl34 : List.length (p0.xH.ls ++ [p1]) = p0.xH.ls.length + 1 := by simp only [List.length_append, List.length_cons, List.length_nil]
 refine ⟨.inl (by kernel_rfl), ?_⟩
 refine GX.takeA (v := .pointer (some ⟨g0, 0, none⟩)) 19 rfl (by kernel_rfl) (fun _ => yk) (GX.takeA (v := .pointer (some ⟨g0, 0, none⟩)) 20 rfl (by kernel_rfl) (fun _ => yk) ?_)
 have H35 := H33.pk [2, 0, 1, 3, 4, 5]
 refine GX.do0 21 rfl (by kernel_rfl) (Do.store (vs := [.slice A30 (List.length (p0.xH.ls ++ [p1])) c31]) (o := 0) H35 rfl rfl Try.sizeOf27 rfl rfl rfl rfl ?_)
 intro w36 H37
 refine ⟨.inl (by kernel_rfl), ?_⟩
 refine GX.done (by kernel_rfl) (Fin.then (Wp.seq ?_))
 have H38 := H37.pk [0, 1, 2, 3, 4]
 refine Wp.region (An rfl (Wp.seq (sr (Mz rfl (Kz (.pointer (some ⟨g0, 0, none⟩)) (Kz (.pointer (some ⟨g0, 1, none⟩)) (Lz (.slice A0x1 p0.xW.ls.length c0x1) H38 0 Try.isAgg27 (Kz (.int .i64 ((p0.xW.ls.length : Nat) : Int)) (Mn rfl (bo ?_))))))))))
 have H39 : Own w D w36 [row none 0 0 (List.flatMap (eN .u64) ([])) 30 1, blk g0 [.slice A30 (List.length (p0.xH.ls ++ [p1])) c31, .slice A0x1 p0.xW.ls.length c0x1] 29, row A30 (List.length (p0.xH.ls ++ [p1])) c31 (List.flatMap HeldD.cells (p0.xH.ls ++ [p1])) 73 4, blk g21 (HeldD.cells p1) 73, row A0x0 p0.xH.ls.length c0x0 (List.flatMap HeldD.cells p0.xH.ls) 73 4, row A0x1 p0.xW.ls.length c0x1 (List.flatMap HeldD.cells p0.xW.ls) 73 4] := H38.free (row_nil 30 1)
 have H45 := H39.pk [1, 2, 3, 4, 5, 0]
 obtain ⟨I49, hI50⟩ : ∃ q : ((Option Addr) × Nat × (List Nat) × Nat) → World → Prop, q = fun (i : (Option Addr) × Nat × (List Nat) × Nat) w' => Own w D w' [blk g0 [.slice A30 (List.length (p0.xH.ls ++ [p1])) c31, .slice A0x1 p0.xW.ls.length c0x1] 29, row A30 (List.length (p0.xH.ls ++ [p1])) c31 (List.flatMap HeldD.cells (p0.xH.ls ++ [p1])) 73 4, blk g21 (HeldD.cells p1) 73, row A0x0 p0.xH.ls.length c0x0 (List.flatMap HeldD.cells p0.xH.ls) 73 4, row A0x1 p0.xW.ls.length c0x1 (List.flatMap HeldD.cells p0.xW.ls) 73 4, row i.1 i.2.2.1.length i.2.1 (List.flatMap (eN .u64) i.2.2.1) 30 1] ∧ (i.2.2.2 ≤ p0.xW.ls.length ∧ i.2.2.1.length ≤ i.2.2.2 ∧ r16_Table_grant_L0 p0 p1 p0.xW.ls ([]) = r16_Table_grant_L0 p0 p1 (List.drop i.2.2.2 p0.xW.ls) i.2.2.1) := ⟨_, rfl⟩
 have dm51 : ∀ {A40 : Option Addr} {c41 : Nat} {l42 : List Nat} {k43 : Nat} {w' : World}, I49 (A40, c41, l42, k43) w' ↔ Own w D w' [blk g0 [.slice A30 (List.length (p0.xH.ls ++ [p1])) c31, .slice A0x1 p0.xW.ls.length c0x1] 29, row A30 (List.length (p0.xH.ls ++ [p1])) c31 (List.flatMap HeldD.cells (p0.xH.ls ++ [p1])) 73 4, blk g21 (HeldD.cells p1) 73, row A0x0 p0.xH.ls.length c0x0 (List.flatMap HeldD.cells p0.xH.ls) 73 4, row A0x1 p0.xW.ls.length c0x1 (List.flatMap HeldD.cells p0.xW.ls) 73 4, row A40 l42.length c41 (List.flatMap (eN .u64) l42) 30 1] ∧ k43 ≤ p0.xW.ls.length ∧ l42.length ≤ k43 ∧ r16_Table_grant_L0 p0 p1 p0.xW.ls ([]) = r16_Table_grant_L0 p0 p1 (List.drop k43 p0.xW.ls) l42 := by intros; subst hI50; exact Iff.rfl
 refine Wp.loop (fun i : (Option Addr) × Nat × (List Nat) × Nat => [(5, .slice i.1 i.2.2.1.length i.2.1), (36, .int .i64 ((i.2.2.2 : Nat) : Int)), (35, .int .i64 ((p0.xW.ls.length : Nat) : Int)), (34, .slice A0x1 p0.xW.ls.length c0x1), (4, .slice none 0 0), (3, .pointer (some ⟨g21, 0, none⟩)), (0, .pointer (some ⟨g0, 0, none⟩))]) I49 (fun i => p0.xW.ls.length - i.2.2.2) (none, 0, [], 0) ⟨rfl, rfl, rfl, rfl, rfl, rfl, rfl, trivial⟩ (dm51.2 ⟨H45, (show 0 ≤ p0.xW.ls.length ∧ 0 ≤ 0 ∧ r16_Table_grant_L0 p0 p1 p0.xW.ls ([]) = r16_Table_grant_L0 p0 p1 (List.drop 0 p0.xW.ls) ([]) from ⟨by omega, by omega, rfl⟩)⟩) ?_
 rintro ⟨A40, c41, l42, k43⟩ w46 hf48
 show Wp _ _ _ [(5, .slice A40 l42.length c41), (36, .int .i64 ((k43 : Nat) : Int)), (35, .int .i64 ((p0.xW.ls.length : Nat) : Int)), (34, .slice A0x1 p0.xW.ls.length c0x1), (4, .slice none 0 0), (3, .pointer (some ⟨g21, 0, none⟩)), (0, .pointer (some ⟨g0, 0, none⟩))] _ _
 obtain ⟨H47, hi53, hi54, hq52⟩ := dm51.1 hf48
 refine sr (Kz (.bool (decide (((k43 : Nat) : Int) < ((p0.xW.ls.length : Nat) : Int)))) (nt (Wp.seq ?_)))
 by_cases h55 : ((k43 : Nat) : Int) < ((p0.xW.ls.length : Nat) : Int)
 obtain ⟨x56, hx57⟩ := rds_at (ls := p0.xW.ls) (i := k43) HeldD.len (by decide) (H47.rds (i := 4) rfl) (by first | omega | (simp; done) | (simp; omega))
 have hd58 := drop_at hx57
 refine jT (dT h55) (sk (Wp.seq (bo (sr (fw (.pointer (some ⟨ab A0x1, ao A0x1 + k43 * 4, none⟩)) (Yl.indexAddr (El27) rfl rfl ((H47.rds (i := 4) rfl).addr (i := k43) (by omega)) (by omega)) (fw (.agg (HeldD.cells x56).toArray) (Yl.load rfl (Lds.agg (cs := (HeldD.cells x56)) Try.isAgg73 Try.sizeOf73 ((H47.rds (i := 4) rfl).elem HeldD.len hx57 (by decide)))) ?_))))))
 refine npw [.int .u64 0, .string ⟨List.toArray ([])⟩, .string ⟨List.toArray ([])⟩, .bool false] 73 H47 ?_
 intro g59 w60 H61
 refine sto (HeldD.cells x56) 0 H61 Try.sizeOf73 ?_
 intro w62 H63
 refine ns (Kz (.pointer (some ⟨g59, 0, none⟩)) (Lz (.int .u64 ((x56.xTxn : Nat) : Int)) H63 0 Try.isAgg30 (Kz (.pointer (some ⟨g21, 0, none⟩)) (Lz (.int .u64 ((p1.xTxn : Nat) : Int)) H63 3 Try.isAgg30 (Kz (.bool (decide (((x56.xTxn : Nat) : Int) > ((p1.xTxn : Nat) : Int)))) (Mz rfl ?_))))))
 by_cases h64 : ((x56.xTxn : Nat) : Int) > ((p1.xTxn : Nat) : Int)
 refine Ga (HeldD.cells x56) (dT h64) H63 0 Try.isAgg73 Try.sizeOf73 (Ga (HeldD.cells p1) (dT h64) H63 3 Try.isAgg73 Try.sizeOf73 ?_)
 obtain ⟨r70, hr71⟩ : ∃ q, r16_Way x56 p1 = q := ⟨_, rfl⟩
 obtain ⟨D65, HP66, ro67, bk68, rr69⟩ := Own.enter0 H63
 refine clG (dT h64) Try.call32 (r16_Way_ok _ _ x56 p1 r70 HP66 hr71) ?_
 rintro _ w72 ⟨rfl, HQ73⟩
 have H74 := bk68 _ _ HQ73
 refine fw (.bool r70) (Yl.pickT rfl (dT h64) rfl) (nt ?_)
 rcases Bool.eq_false_or_eq_true (r70) with h75 | h75
 refine jT h75 (Wp.region (Mz rfl (Kz (.pointer (some ⟨g59, 0, none⟩)) (Lz (.int .u64 ((x56.xTxn : Nat) : Int)) H74 0 Try.isAgg30 ?_))))
 have H76 := H74.pk [6, 0, 1, 2, 3, 4, 5]
 obtain ⟨r82, hr83⟩ : ∃ q, r16_Add l42 x56.xTxn = q := ⟨_, rfl⟩
 obtain ⟨D77, HP78, ro79, bk80, rr81⟩ := Own.enter1 H76
 refine cl Try.call56 (r16_Add_ok _ _ A40 l42.length c41 l42 x56.xTxn r82 HP78 rfl (by omega) (by first | omega | exact Nat.zero_le _) hr83) ?_
 rintro _ w84 ⟨A87, c88, rfl, HQ85, hk89⟩
 have H86 := bk80 _ _ HQ85
 have hb90 := H86.rowC (i := 0) rfl
 replace hk89 : r82.length ≤ l42.length + 1 := hk89
 refine Az rfl (WL.nil (bN (Fin.then ?_)))
 have H91 := H86.pk [0, 2, 3, 4, 5, 6]
 refine Wp.region (fw (.int .i64 ((k43 + 1 : Nat) : Int)) (Yl.int (e := IntKind.i64.wrap (((k43 : Nat) : Int) + 1)) yk (by rw [IntWalk.i64_in _ (by omega)]; omega)) (Mz rfl (WL.nil ?_)))
 have H92 := H91.pk [1, 2, 3, 4, 5, 0]
 exact Fin.round (A87, c88, r82, k43 + 1) ⟨rfl, rfl, rfl, rfl, rfl, rfl, rfl, trivial⟩ (dm51.2 ⟨H92, by omega, by omega, et (hq52) (et (congrArg (fun q => r16_Table_grant_L0 p0 p1 q l42) hd58) (et (ip h64) (et (bnd_of hr71) (et (ip h75) (bnd_of hr83)))))⟩) (by show p0.xW.ls.length - (k43 + 1) < p0.xW.ls.length - k43; omega)
 refine jF h75 (Wp.skip (bN (Fin.then ?_)))
 have H93 := H74.pk [1, 2, 3, 4, 5, 6]
 refine Wp.region (fw (.int .i64 ((k43 + 1 : Nat) : Int)) (Yl.int (e := IntKind.i64.wrap (((k43 : Nat) : Int) + 1)) yk (by rw [IntWalk.i64_in _ (by omega)]; omega)) (Mz rfl (WL.nil ?_)))
 have H94 := H93.pk [0, 1, 2, 3, 4, 5]
 exact Fin.round (A40, c41, l42, k43 + 1) ⟨rfl, rfl, rfl, rfl, rfl, rfl, rfl, trivial⟩ (dm51.2 ⟨H94, by omega, by omega, et (hq52) (et (congrArg (fun q => r16_Table_grant_L0 p0 p1 q l42) hd58) (et (ip h64) (et (bnd_of hr71) (ifF h75))))⟩) (by show p0.xW.ls.length - (k43 + 1) < p0.xW.ls.length - k43; omega)
 refine Sz (dF h64) (Sz (dF h64) (Sz (dF h64) (fw (.bool false) (Yl.pickF rfl (dF h64) rfl) (nt (jf (Wp.skip (bN (Fin.then ?_))))))))
 have H95 := H63.pk [1, 2, 3, 4, 5, 6]
 refine Wp.region (fw (.int .i64 ((k43 + 1 : Nat) : Int)) (Yl.int (e := IntKind.i64.wrap (((k43 : Nat) : Int) + 1)) yk (by rw [IntWalk.i64_in _ (by omega)]; omega)) (Mz rfl (WL.nil ?_)))
 have H96 := H95.pk [0, 1, 2, 3, 4, 5]
 exact Fin.round (A40, c41, l42, k43 + 1) ⟨rfl, rfl, rfl, rfl, rfl, rfl, rfl, trivial⟩ (dm51.2 ⟨H96, by omega, by omega, et (hq52) (et (congrArg (fun q => r16_Table_grant_L0 p0 p1 q l42) hd58) (iN h64))⟩) (by show p0.xW.ls.length - (k43 + 1) < p0.xW.ls.length - k43; omega)
 refine jF (dF h55) (Wp.exit (Fin.thenX ?_))
 have hL97 : r16_Table_grant_L0 p0 p1 p0.xW.ls ([]) = l42 := et (hq52) (et (congrArg (fun q => r16_Table_grant_L0 p0 p1 q l42) (drop_end (ls := p0.xW.ls) (i := k43) (by omega))) rfl)
 refine Fin.thenX (Fin.blockX (Fin.then (Wp.seq (Wp.seq ?_))))
 have H98 := H47.pk [0, 1, 3, 4, 5]
 refine Wp.region (Mz rfl (Kz (.int .i64 ((l42.length : Nat) : Int)) (Mn rfl (bo ?_))))
 have H107 := H98.pk [0, 2, 4, 1, 3]
 obtain ⟨I111, hI112⟩ : ∃ q : (Nat × (Option Addr) × Nat × (List HeldD) × (Option Addr) × Nat × (List HeldD)) → World → Prop, q = fun (i : Nat × (Option Addr) × Nat × (List HeldD) × (Option Addr) × Nat × (List HeldD)) w' => Own w D w' [blk g0 [.slice i.2.1 i.2.2.2.1.length i.2.2.1, .slice i.2.2.2.2.1 i.2.2.2.2.2.2.length i.2.2.2.2.2.1] 29, row A0x0 p0.xH.ls.length c0x0 (List.flatMap HeldD.cells p0.xH.ls) 73 4, row A40 l42.length c41 (List.flatMap (eN .u64) l42) 30 1, row i.2.1 i.2.2.2.1.length i.2.2.1 (List.flatMap HeldD.cells i.2.2.2.1) 73 4, row i.2.2.2.2.1 i.2.2.2.2.2.2.length i.2.2.2.2.2.1 (List.flatMap HeldD.cells i.2.2.2.2.2.2) 73 4] ∧ (i.1 ≤ l42.length ∧ i.2.2.2.1.length ≤ (List.length (p0.xH.ls ++ [p1])) + i.1 ∧ i.2.2.2.1.length ≤ List.length (p0.xH.ls ++ [p1]) ∧ i.2.2.2.2.2.2.length ≤ p0.xW.ls.length + i.1 ∧ i.2.2.2.2.2.2.length ≤ p0.xW.ls.length ∧ (i.2.2.2.1.length ≤ p0.xH.ls.length + 1 ∧ i.2.2.2.2.2.2.length ≤ p0.xW.ls.length) ∧ r16_Table_grant_L1 l42 l42 (p0.xH.ls ++ [p1]) p0.xW.ls = r16_Table_grant_L1 l42 (List.drop i.1 l42) i.2.2.2.1 i.2.2.2.2.2.2) := ⟨_, rfl⟩
 have dm113 : ∀ {k99 : Nat} {A100 : Option Addr} {c101 : Nat} {l102 : List HeldD} {A103 : Option Addr} {c104 : Nat} {l105 : List HeldD} {w' : World}, I111 (k99, A100, c101, l102, A103, c104, l105) w' ↔ Own w D w' [blk g0 [.slice A100 l102.length c101, .slice A103 l105.length c104] 29, row A0x0 p0.xH.ls.length c0x0 (List.flatMap HeldD.cells p0.xH.ls) 73 4, row A40 l42.length c41 (List.flatMap (eN .u64) l42) 30 1, row A100 l102.length c101 (List.flatMap HeldD.cells l102) 73 4, row A103 l105.length c104 (List.flatMap HeldD.cells l105) 73 4] ∧ k99 ≤ l42.length ∧ l102.length ≤ (List.length (p0.xH.ls ++ [p1])) + k99 ∧ l102.length ≤ List.length (p0.xH.ls ++ [p1]) ∧ l105.length ≤ p0.xW.ls.length + k99 ∧ l105.length ≤ p0.xW.ls.length ∧ (l102.length ≤ p0.xH.ls.length + 1 ∧ l105.length ≤ p0.xW.ls.length) ∧ r16_Table_grant_L1 l42 l42 (p0.xH.ls ++ [p1]) p0.xW.ls = r16_Table_grant_L1 l42 (List.drop k99 l42) l102 l105 := by intros; subst hI112; exact Iff.rfl
 refine Wp.loop (fun i : Nat × (Option Addr) × Nat × (List HeldD) × (Option Addr) × Nat × (List HeldD) => [(57, .int .i64 ((i.1 : Nat) : Int)), (56, .int .i64 ((l42.length : Nat) : Int)), (55, .slice A40 l42.length c41), (5, .slice A40 l42.length c41), (4, .slice none 0 0), (0, .pointer (some ⟨g0, 0, none⟩))]) I111 (fun i => l42.length - i.1) (0, A30, c31, (p0.xH.ls ++ [p1]), A0x1, c0x1, p0.xW.ls) ⟨rfl, rfl, rfl, rfl, rfl, rfl, trivial⟩ (dm113.2 ⟨H107, by omega, by omega, by omega, by omega, by omega, by first | omega | (simp only [List.length_append, List.length_cons, List.length_nil]; omega), rfl⟩) ?_
 rintro ⟨k99, A100, c101, l102, A103, c104, l105⟩ w108 hf110
 show Wp _ _ _ [(57, .int .i64 ((k99 : Nat) : Int)), (56, .int .i64 ((l42.length : Nat) : Int)), (55, .slice A40 l42.length c41), (5, .slice A40 l42.length c41), (4, .slice none 0 0), (0, .pointer (some ⟨g0, 0, none⟩))] _ _
 obtain ⟨H109, hi115, hi116, hi117, hi118, hi119, hi120, hq114⟩ := dm113.1 hf110
 refine sr (Kz (.bool (decide (((k99 : Nat) : Int) < ((l42.length : Nat) : Int)))) (nt (Wp.seq ?_)))
 by_cases h121 : ((k99 : Nat) : Int) < ((l42.length : Nat) : Int)
 obtain ⟨x122, hx123⟩ := rds_at (ls := l42) (i := k99) eN_len (by decide) (H109.rds (i := 2) rfl) (by first | omega | (simp; done) | (simp; omega))
 have hd124 := drop_at hx123
 refine jT (dT h121) (sk (Wp.seq (bo (sr (fw (.pointer (some ⟨ab A40, ao A40 + k99 * 1, none⟩)) (Yl.indexAddr (El37) rfl rfl ((H109.rds (i := 2) rfl).addr (i := k99) (by omega)) (by omega)) (fw (.int .u64 ((x122 : Nat) : Int)) (Yl.load rfl (Lds.one Try.isAgg30 (((H109.rds (i := 2) rfl).elem eN_len hx123 (by decide)).at_ (k := 0) rfl))) (Ar rfl (Mz rfl (Mz rfl (Kz (.pointer (some ⟨g0, 0, none⟩)) (Kz (.pointer (some ⟨g0, 0, none⟩)) (Lz (.slice A100 l102.length c101) H109 0 Try.isAgg27 (Mz rfl ?_)))))))))))))
 have hb130 := H109.rowC (i := 3) rfl
 obtain ⟨r131, hr132⟩ : ∃ q, r16_without l102 x122 = q := ⟨_, rfl⟩
 obtain ⟨D125, HP126, ro127, bk128, rr129⟩ := Own.enter0 H109
 refine cl Try.call38 (r16_without_ok _ _ A100 l102.length c101 l102 x122 r131 HP126 (rr129 _ 3 _ rfl row_rds) rfl (by omega) (by first | omega | (simp only [List.length_take, List.length_drop]; omega) | exact Nat.le_refl _) (by first | omega | exact Nat.zero_le _ | (simp only [List.length_append, List.length_cons, List.length_nil]; omega)) hr132) ?_
 rintro _ w133 ⟨A136, c137, rfl, HQ134, hk138⟩
 have H135 := bk128 _ _ HQ134
 have hb139 := H135.rowC (i := 0) rfl
 replace hk138 : r131.length ≤ l102.length := hk138
 refine Kz (.pointer (some ⟨g0, 0, none⟩)) (Kz (.pointer (some ⟨g0, 0, none⟩)) ?_)
 have H140 := H135.pk [1, 0, 2, 3, 4, 5]
 refine sto [.slice A136 r131.length c137] 0 H140 Try.sizeOf27 ?_
 intro w141 H142
 refine nt (Wp.region (Mz rfl (Mz rfl (Kz (.pointer (some ⟨g0, 0, none⟩)) (Kz (.pointer (some ⟨g0, 1, none⟩)) (Lz (.slice A103 l105.length c104) H142 0 Try.isAgg27 (Mz rfl ?_)))))))
 have hb148 := H142.rowC (i := 5) rfl
 obtain ⟨r149, hr150⟩ : ∃ q, r16_without l105 x122 = q := ⟨_, rfl⟩
 obtain ⟨D143, HP144, ro145, bk146, rr147⟩ := Own.enter0 H142
 refine cl Try.call38 (r16_without_ok _ _ A103 l105.length c104 l105 x122 r149 HP144 (rr147 _ 5 _ rfl row_rds) rfl (by omega) (by first | omega | (simp only [List.length_take, List.length_drop]; omega) | exact Nat.le_refl _) (by first | omega | exact Nat.zero_le _ | (simp only [List.length_append, List.length_cons, List.length_nil]; omega)) hr150) ?_
 rintro _ w151 ⟨A154, c155, rfl, HQ152, hk156⟩
 have H153 := bk146 _ _ HQ152
 have hb157 := H153.rowC (i := 0) rfl
 replace hk156 : r149.length ≤ l105.length := hk156
 refine Kz (.pointer (some ⟨g0, 0, none⟩)) (Kz (.pointer (some ⟨g0, 1, none⟩)) ?_)
 have H158 := H153.pk [1, 0, 2, 3, 4, 5, 6]
 refine sto [.slice A154 r149.length c155] 1 H158 Try.sizeOf27 ?_
 intro w159 H160
 refine WL.nil (bN (Fin.then (Wp.region (fw (.int .i64 ((k99 + 1 : Nat) : Int)) (Yl.int (e := IntKind.i64.wrap (((k99 : Nat) : Int) + 1)) yk (by rw [IntWalk.i64_in _ (by omega)]; omega)) (Mz rfl (WL.nil ?_))))))
 have H161 := H160.pk [0, 3, 4, 2, 1]
 exact Fin.round (k99 + 1, A136, c137, r131, A154, c155, r149) ⟨rfl, rfl, rfl, rfl, rfl, rfl, trivial⟩ (dm113.2 ⟨H161, by omega, by omega, by omega, by omega, by omega, by first | omega | (simp only [List.length_append, List.length_cons, List.length_nil]; omega), Eq.trans (hq114) (Eq.trans (congrArg (fun q => r16_Table_grant_L1 l42 q l102 l105) hd124) (Eq.trans (bnd_of hr132) (bnd_of hr150)))⟩) (by show l42.length - (k99 + 1) < l42.length - k99; omega)
 refine jF (dF h121) (Wp.exit (Fin.thenX ?_))
 have hL162 : r16_Table_grant_L1 l42 l42 (p0.xH.ls ++ [p1]) p0.xW.ls = (l102, l105) := et (hq114) (et (congrArg (fun q => r16_Table_grant_L1 l42 q l102 l105) (drop_end (ls := l42) (i := k99) (by omega))) rfl)
 refine Fin.thenX (Fin.blockX (Fin.then (sr (Mz rfl (An rfl (rt (rs ?_)))))))
 have H163 := H109.pk [2, 0, 3, 4]
 have e : r16_Table_grant p0 p1 = (l42, TableDT.mk (Ll.mk l102) (Ll.mk l105)) := et (bnd_of hL97) (bnd_of hL162)
 obtain ⟨rfl, rfl⟩ := pj2 (e.symm.trans hr)
 exact ⟨A40, c41, A100, c101, A103, c104, rfl, H163, (by first | omega | (dsimp only; omega))⟩
end Go.Proofs.Ytggnajpokhaaiaa
