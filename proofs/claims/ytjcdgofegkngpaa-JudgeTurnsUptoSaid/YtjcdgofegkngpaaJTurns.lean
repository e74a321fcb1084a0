/-
 judge: the law JudgeTurns
-/
import Derived.Test.YtjcdgofegkngpaaJl
import Derived.Test.YtjcdgofegkngpaaWiX
import Derived.Test.YtjcdgofegkngpaaKn
import Derived.Test.YtjcdgofegkngpaaKu
namespace Go.Proofs.Ytjcdgofegkngpaa
open Go.RowKit
set_option linter.unusedVariables false
set_option linter.unusedSectionVars false
set_option linter.unusedSimpArgs false

def OpsLe (l : List SeenT) : Prop := ∀ x ∈ l, x.xOps.ls.length ≤ 1048576
theorem OpsLe_at {l : List SeenT} {i : Nat} {x : SeenT} (h : OpsLe l) (hx : l[i]? = some x) : x.xOps.ls.length ≤ 1048576 := h x (List.mem_of_getElem? hx)

def r02_below (p0 : List UInt8) (p1 : List UInt8) : Bool :=
 if p0 ≠ ([]) then if p1 = ([]) then true else decide (p0 < p1) else false

set_option maxRecDepth 100000 in
theorem r02_below_ok (w : World) (D : Nat → Prop) (p0 : List UInt8) (p1 : List UInt8) (r0 : Bool) (H : Own w D w [])  (hr : r02_below p0 p1 = r0) :
    Calls Try.prog 26 #[.string ⟨List.toArray p0⟩, .string ⟨List.toArray p1⟩] w (Ret fun v w' => v = .bool r0 ∧ Own w D w' []) := by
 refine Calls.body (args := [.string ⟨List.toArray p0⟩, .string ⟨List.toArray p1⟩]) Try.func26 rfl rfl rfl ?_
 show Wp _ _ _ [(0, .string ⟨List.toArray p0⟩), (1, .string ⟨List.toArray p1⟩)] _ _
 refine sr (Ar rfl (Mz rfl (fw (.bool (decide (p0 ≠ ([])))) (Yl.strNe rfl rfl) (Mz rfl ?_))))
 by_cases h21 : p0 ≠ ([])
 refine gw (.string ⟨List.toArray p1⟩) (dT h21) (Yl.move rfl) (gw (.bool (decide (p1 = ([])))) (dT h21) (Yl.strEq rfl rfl) (gw (.bool (decide (p1 = ([])))) (dT h21) (Yl.move rfl) ?_))
 by_cases h22 : p1 = ([])
 refine Sz (dT h22) (Sz (dT h22) (Sz (dT h22) (gw (.bool true) (dT h21) (Yl.pickT rfl (dT h22) rfl) (fw (.bool true) (Yl.pickT rfl (dT h21) rfl) (An rfl (rt (rs ?_)))))))
 have H23 : Own w D w [] := H.pk []
 obtain rfl : _ = true := hr.symm.trans (et (ip h21) (ip h22))
 exact ⟨rfl, H23⟩
 refine gw (.string ⟨List.toArray p0⟩) (dF h22) (Yl.move rfl) (gw (.string ⟨List.toArray p1⟩) (dF h22) (Yl.move rfl) (gw (.bool (decide (p0 < p1))) (dF h22) (Yl.bool (e := Op.bytesLess p0 p1) (Yl.strLt rfl rfl) (bl_lt _ _)) (gw (.bool (decide (p0 < p1))) (dT h21) (Yl.pickF rfl (dF h22) rfl) (fw (.bool (decide (p0 < p1))) (Yl.pickT rfl (dT h21) rfl) (An rfl (rt (rs ?_)))))))
 have H24 : Own w D w [] := H.pk []
 obtain rfl : _ = decide (p0 < p1) := hr.symm.trans (et (ip h21) (iN h22))
 exact ⟨rfl, H24⟩
 refine Sz (dF h21) (Sz (dF h21) (Sz (dF h21) (WL.skipU rfl rfl rfl (WL.skipU rfl rfl rfl (WL.skipU rfl rfl rfl (Sz (dF h21) (fw (.bool false) (Yl.pickF rfl (dF h21) rfl) (An rfl (rt (rs ?_))))))))))
 have H25 : Own w D w [] := H.pk []
 obtain rfl : _ = false := hr.symm.trans (iN h21)
 exact ⟨rfl, H25⟩

def r02_Meet (p0 : RangeD) (p1 : RangeD) : RangeD × Bool :=
 bnd (r02_Check p0) fun yr35 => if yr35 = 0 then bnd (r02_Check p1) fun yr46 => if yr46 = 0 then bnd (r02_below p1.xHi p0.xHi) fun yr62 => bnd (if yr62 = true then p1.xHi else p0.xHi) fun sJrbtbtbJ => if sJrbtbtbJ ≠ ([]) then if sJrbtbtbJ ≤ (maxL p0.xLo p1.xLo) then (RangeD.mk ([]) ([]), false) else (RangeD.mk (maxL p0.xLo p1.xLo) sJrbtbtbJ, true) else (RangeD.mk (maxL p0.xLo p1.xLo) sJrbtbtbJ, true) else (RangeD.mk ([]) ([]), false) else (RangeD.mk ([]) ([]), false)

set_option maxRecDepth 100000 in
theorem r02_Meet_ok (w : World) (D : Nat → Prop) (p0 : RangeD) (p1 : RangeD) (r0 : RangeD) (r1 : Bool) (H : Own w D w [])  (hr : r02_Meet p0 p1 = (r0, r1)) :
    Calls Try.prog 16 #[.agg (RangeD.cells p0).toArray, .agg (RangeD.cells p1).toArray] w (Ret fun v w' => v = .tuple #[.agg (RangeD.cells r0).toArray, .bool r1] ∧ Own w D w' []) := by
 refine Calls.body (args := [.agg (RangeD.cells p0).toArray, .agg (RangeD.cells p1).toArray]) Try.func16 rfl rfl rfl ?_
 show Wp _ _ _ [(0, .agg (RangeD.cells p0).toArray), (1, .agg (RangeD.cells p1).toArray)] _ _
 refine sr ?_
 refine npw (RangeD.cells p0) 46 H ?_
 intro g21 w22 H23
 refine npw (RangeD.cells p1) 46 H23 ?_
 intro g24 w25 H26
 refine npw [.string ⟨List.toArray ([])⟩, .string ⟨List.toArray ([])⟩] 46 H26 ?_
 intro g27 w28 H29
 refine An rfl (Wp.seq (sr (La (RangeD.cells p0) H29 2 Try.isAgg46 Try.sizeOf46 ?_)))
 obtain ⟨r35, hr36⟩ : ∃ q, r02_Check p0 = q := ⟨_, rfl⟩
 obtain ⟨D30, HP31, ro32, bk33, rr34⟩ := Own.enter0 H29
 refine cl Try.call25 (r02_Check_ok _ _ p0 r35 HP31 hr36) ?_
 rintro _ w37 ⟨rfl, HQ38⟩
 have H39 := bk33 _ _ HQ38
 refine fw (.bool (decide (¬ (r35 = 0)))) (Yl.bool (e := !(decide (r35 = 0))) yk decide_not.symm) (Mz rfl ?_)
 by_cases h40 : r35 = 0
 refine gw (.agg (RangeD.cells p1).toArray) (dF (not_not_intro h40)) (Yl.load rfl (Lds.agg (cs := (RangeD.cells p1)) Try.isAgg46 Try.sizeOf46 ((H39.cls (i := 1) rfl).lit (k := 0) (m := 2) rfl))) ?_
 obtain ⟨r46, hr47⟩ : ∃ q, r02_Check p1 = q := ⟨_, rfl⟩
 obtain ⟨D41, HP42, ro43, bk44, rr45⟩ := Own.enter0 H39
 refine clG (dF (not_not_intro h40)) Try.call25 (r02_Check_ok _ _ p1 r46 HP42 hr47) ?_
 rintro _ w48 ⟨rfl, HQ49⟩
 have H50 := bk44 _ _ HQ49
 refine gw (.bool (decide (¬ (r46 = 0)))) (dF (not_not_intro h40)) (Yl.bool (e := !(decide (r46 = 0))) yk decide_not.symm) (fw (.bool (decide (¬ (r46 = 0)))) (Yl.pickF rfl (dF (not_not_intro h40)) rfl) (nt ?_))
 by_cases h51 : r46 = 0
 refine jF (dF (not_not_intro h51)) (sk (sr (Kz (.pointer (some ⟨g21, 0, none⟩)) (Lz (.string ⟨List.toArray p0.xLo⟩) H50 2 Try.isAgg9 (Kz (.pointer (some ⟨g24, 0, none⟩)) (Lz (.string ⟨List.toArray p1.xLo⟩) H50 1 Try.isAgg9 (fw (.string ⟨List.toArray (maxL p0.xLo p1.xLo)⟩) (Yl.maxStr rfl) (Kz (.pointer (some ⟨g21, 1, none⟩)) (Lz (.string ⟨List.toArray p0.xHi⟩) H50 2 Try.isAgg9 (Kz (.agg #[.string ⟨List.toArray (maxL p0.xLo p1.xLo)⟩, .string ⟨List.toArray p0.xHi⟩]) ?_))))))))))
 refine npw [.string ⟨List.toArray ([])⟩, .string ⟨List.toArray ([])⟩] 46 H50 ?_
 intro g52 w53 H54
 refine sto [.string ⟨List.toArray (maxL p0.xLo p1.xLo)⟩, .string ⟨List.toArray p0.xHi⟩] 0 H54 Try.sizeOf46 ?_
 intro w55 H56
 refine nt (Wp.seq (sr (Kz (.pointer (some ⟨g24, 1, none⟩)) (Lz (.string ⟨List.toArray p1.xHi⟩) H56 2 Try.isAgg9 (Kz (.pointer (some ⟨g21, 1, none⟩)) (Lz (.string ⟨List.toArray p0.xHi⟩) H56 3 Try.isAgg9 ?_))))))
 obtain ⟨r62, hr63⟩ : ∃ q, r02_below p1.xHi p0.xHi = q := ⟨_, rfl⟩
 obtain ⟨D57, HP58, ro59, bk60, rr61⟩ := Own.enter0 H56
 refine cl Try.call26 (r02_below_ok _ _ p1.xHi p0.xHi r62 HP58 hr63) ?_
 rintro _ w64 ⟨rfl, HQ65⟩
 have H66 := bk60 _ _ HQ65
 refine nt ?_
 obtain ⟨I68, hI69⟩ : ∃ q : (List UInt8) → World → Prop, q = fun (i : (List UInt8)) w' => Own w D w' [blk g52 [.string ⟨List.toArray (maxL p0.xLo p1.xLo)⟩, .string ⟨List.toArray i⟩] 46, blk g27 [.string ⟨List.toArray ([])⟩, .string ⟨List.toArray ([])⟩] 46, blk g24 (RangeD.cells p1) 46] ∧ ((if r62 = true then p1.xHi else p0.xHi) = i) := ⟨_, rfl⟩
 have dm70 : ∀ {s67 : List UInt8} {w' : World}, I68 s67 w' ↔ Own w D w' [blk g52 [.string ⟨List.toArray (maxL p0.xLo p1.xLo)⟩, .string ⟨List.toArray s67⟩] 46, blk g27 [.string ⟨List.toArray ([])⟩, .string ⟨List.toArray ([])⟩] 46, blk g24 (RangeD.cells p1) 46] ∧ (if r62 = true then p1.xHi else p0.xHi) = s67 := by intros; subst hI69; exact Iff.rfl
 refine Wp.joinT (fun i : (List UInt8) => [(6, .pointer (some ⟨g52, 0, none⟩)), (5, .bool false), (4, .pointer (some ⟨g27, 0, none⟩))]) I68 ?_ ?_
 rcases Bool.eq_false_or_eq_true (r62) with h71 | h71
 refine jT h71 ?_
 have H72 := H66.pk [0, 1, 2]
 refine Wp.region (Kz (.pointer (some ⟨g24, 1, none⟩)) (Lz (.string ⟨List.toArray p1.xHi⟩) H72 2 Try.isAgg9 (Kz (.pointer (some ⟨g52, 1, none⟩)) ?_)))
 refine sto [.string ⟨List.toArray p1.xHi⟩] 1 H72 Try.sizeOf9 ?_
 intro w73 H74
 refine WL.nil ?_
 have H75 := H74.pk [0, 1, 2]
 exact Fin.join p1.xHi ⟨rfl, rfl, rfl, trivial⟩ (dm70.2 ⟨H75, ip h71⟩)
 refine jF h71 (Wp.skip ?_)
 have H76 := H66.pk [0, 1, 2]
 exact Fin.join p0.xHi ⟨rfl, rfl, rfl, trivial⟩ (dm70.2 ⟨H76, ifF h71⟩)
 rintro s67 w77 hf79
 show Wp _ _ _ [(6, .pointer (some ⟨g52, 0, none⟩)), (5, .bool false), (4, .pointer (some ⟨g27, 0, none⟩))] _ _
 obtain ⟨H78, hj80⟩ := dm70.1 hf79
 refine Wp.seq (Wp.seq ?_)
 have H81 := H78.pk [0, 1]
 refine Wp.region (Kz (.pointer (some ⟨g52, 1, none⟩)) (Lz (.string ⟨List.toArray s67⟩) H81 0 Try.isAgg9 (fw (.bool (decide (s67 ≠ ([])))) (Yl.strNe rfl rfl) (Mz rfl ?_))))
 by_cases h82 : s67 ≠ ([])
 refine Gz (.pointer (some ⟨g52, 0, none⟩)) (dT h82) (Gl (.string ⟨List.toArray (maxL p0.xLo p1.xLo)⟩) (dT h82) H81 0 Try.isAgg9 (Gz (.pointer (some ⟨g52, 1, none⟩)) (dT h82) (Gl (.string ⟨List.toArray s67⟩) (dT h82) H81 0 Try.isAgg9 (gw (.bool (decide (s67 ≤ (maxL p0.xLo p1.xLo)))) (dT h82) (Yl.bool (e := !(Op.bytesLess (maxL p0.xLo p1.xLo) s67)) (Yl.strGe rfl rfl) (bl_ge _ _)) (fw (.bool (decide (s67 ≤ (maxL p0.xLo p1.xLo)))) (Yl.pickT rfl (dT h82) rfl) (nt ?_))))))
 by_cases h83 : s67 ≤ (maxL p0.xLo p1.xLo)
 refine jT (dT h83) (sr (Kz (.agg #[.string ⟨List.toArray ([])⟩, .string ⟨List.toArray ([])⟩]) ?_))
 have H84 := H81.pk [1, 0]
 refine sto [.string ⟨List.toArray ([])⟩, .string ⟨List.toArray ([])⟩] 0 H84 Try.sizeOf46 ?_
 intro w85 H86
 refine An rfl (rt (tR (Fin.res (resN (vs := [.agg #[.string ⟨List.toArray ([])⟩, .string ⟨List.toArray ([])⟩], .bool false]) rfl (ResV.cell rfl (Lds.agg (cs := [.string ⟨List.toArray ([])⟩, .string ⟨List.toArray ([])⟩]) Try.isAgg46 Try.sizeOf46 ((H86.cls (i := 0) rfl).lit (k := 0) (m := 2) rfl)) (ResV.tmp rfl ResV.nil)) (Nat.le_of_ble_eq_true rfl)) ?_)))
 have H87 := H86.pk []
 have e : r02_Meet p0 p1 = (RangeD.mk ([]) ([]), false) := et (bnd_of hr36) (et (ip h40) (et (bnd_of hr47) (et (ip h51) (et (bnd_of hr63) (et (bnd_of hj80) (et (ip h82) (ip h83)))))))
 obtain ⟨rfl, rfl⟩ := pj2 (e.symm.trans hr)
 exact ⟨rfl, H87⟩
 refine jF (dF h83) (sk (sr (La ([.string ⟨List.toArray (maxL p0.xLo p1.xLo)⟩, .string ⟨List.toArray s67⟩]) H81 0 Try.isAgg46 Try.sizeOf46 ?_)))
 have H88 := H81.pk [1, 0]
 refine sto [.string ⟨List.toArray (maxL p0.xLo p1.xLo)⟩, .string ⟨List.toArray s67⟩] 0 H88 Try.sizeOf46 ?_
 intro w89 H90
 refine An rfl (rt (Fin.res (resN (vs := [.agg #[.string ⟨List.toArray (maxL p0.xLo p1.xLo)⟩, .string ⟨List.toArray s67⟩], .bool true]) rfl (ResV.cell rfl (Lds.agg (cs := [.string ⟨List.toArray (maxL p0.xLo p1.xLo)⟩, .string ⟨List.toArray s67⟩]) Try.isAgg46 Try.sizeOf46 ((H90.cls (i := 0) rfl).lit (k := 0) (m := 2) rfl)) (ResV.tmp rfl ResV.nil)) (Nat.le_of_ble_eq_true rfl)) ?_))
 have H91 := H90.pk []
 have e : r02_Meet p0 p1 = (RangeD.mk (maxL p0.xLo p1.xLo) s67, true) := et (bnd_of hr36) (et (ip h40) (et (bnd_of hr47) (et (ip h51) (et (bnd_of hr63) (et (bnd_of hj80) (et (ip h82) (iN h83)))))))
 obtain ⟨rfl, rfl⟩ := pj2 (e.symm.trans hr)
 exact ⟨rfl, H91⟩
 refine Sz (dF h82) (Sz (dF h82) (Sz (dF h82) (Sz (dF h82) (Sz (dF h82) (fw (.bool false) (Yl.pickF rfl (dF h82) rfl) (nt (jf (sk (sr (La ([.string ⟨List.toArray (maxL p0.xLo p1.xLo)⟩, .string ⟨List.toArray s67⟩]) H81 0 Try.isAgg46 Try.sizeOf46 ?_))))))))))
 have H92 := H81.pk [1, 0]
 refine sto [.string ⟨List.toArray (maxL p0.xLo p1.xLo)⟩, .string ⟨List.toArray s67⟩] 0 H92 Try.sizeOf46 ?_
 intro w93 H94
 refine An rfl (rt (Fin.res (resN (vs := [.agg #[.string ⟨List.toArray (maxL p0.xLo p1.xLo)⟩, .string ⟨List.toArray s67⟩], .bool true]) rfl (ResV.cell rfl (Lds.agg (cs := [.string ⟨List.toArray (maxL p0.xLo p1.xLo)⟩, .string ⟨List.toArray s67⟩]) Try.isAgg46 Try.sizeOf46 ((H94.cls (i := 0) rfl).lit (k := 0) (m := 2) rfl)) (ResV.tmp rfl ResV.nil)) (Nat.le_of_ble_eq_true rfl)) ?_))
 have H95 := H94.pk []
 have e : r02_Meet p0 p1 = (RangeD.mk (maxL p0.xLo p1.xLo) s67, true) := et (bnd_of hr36) (et (ip h40) (et (bnd_of hr47) (et (ip h51) (et (bnd_of hr63) (et (bnd_of hj80) (iN h82))))))
 obtain ⟨rfl, rfl⟩ := pj2 (e.symm.trans hr)
 exact ⟨rfl, H95⟩
 refine jT (dT h51) (sr (Kz (.agg #[.string ⟨List.toArray ([])⟩, .string ⟨List.toArray ([])⟩]) ?_))
 refine sto [.string ⟨List.toArray ([])⟩, .string ⟨List.toArray ([])⟩] 0 H50 Try.sizeOf46 ?_
 intro w96 H97
 refine An rfl (rt (tR (Fin.res (resN (vs := [.agg #[.string ⟨List.toArray ([])⟩, .string ⟨List.toArray ([])⟩], .bool false]) rfl (ResV.cell rfl (Lds.agg (cs := [.string ⟨List.toArray ([])⟩, .string ⟨List.toArray ([])⟩]) Try.isAgg46 Try.sizeOf46 ((H97.cls (i := 0) rfl).lit (k := 0) (m := 2) rfl)) (ResV.tmp rfl ResV.nil)) (Nat.le_of_ble_eq_true rfl)) ?_)))
 have H98 := H97.pk []
 have e : r02_Meet p0 p1 = (RangeD.mk ([]) ([]), false) := et (bnd_of hr36) (et (ip h40) (et (bnd_of hr47) (iN h51)))
 obtain ⟨rfl, rfl⟩ := pj2 (e.symm.trans hr)
 exact ⟨rfl, H98⟩
 refine Sz (dT h40) (Sz (dT h40) (Sz (dT h40) (fw (.bool true) (Yl.pickT rfl (dT h40) rfl) (nt (jt (sr (Kz (.agg #[.string ⟨List.toArray ([])⟩, .string ⟨List.toArray ([])⟩]) ?_)))))))
 refine sto [.string ⟨List.toArray ([])⟩, .string ⟨List.toArray ([])⟩] 0 H39 Try.sizeOf46 ?_
 intro w99 H100
 refine An rfl (rt (tR (Fin.res (resN (vs := [.agg #[.string ⟨List.toArray ([])⟩, .string ⟨List.toArray ([])⟩], .bool false]) rfl (ResV.cell rfl (Lds.agg (cs := [.string ⟨List.toArray ([])⟩, .string ⟨List.toArray ([])⟩]) Try.isAgg46 Try.sizeOf46 ((H100.cls (i := 0) rfl).lit (k := 0) (m := 2) rfl)) (ResV.tmp rfl ResV.nil)) (Nat.le_of_ble_eq_true rfl)) ?_)))
 have H101 := H100.pk []
 have e : r02_Meet p0 p1 = (RangeD.mk ([]) ([]), false) := et (bnd_of hr36) (iN h40)
 obtain ⟨rfl, rfl⟩ := pj2 (e.symm.trans hr)
 exact ⟨rfl, H101⟩

def w23_JudgeTurns_L0 (l0 : List SeenT) (p1 : Int) (r26 : Bool) (r36 : List PairD) (x53 : SeenT) (x65 : SeenT) : List SeenT → List OpD → List OpD → (List OpD) × (List OpD)
  | [], l81, l84 => (l81, l84)
  | x103 :: q86, l81, l84 => if x103.xKind = 1 then if x103.xClient = x53.xClient then bnd (if ((x103.xReq : Nat) : Int) = ((x53.xReq : Nat) : Int) then x103.xOps.ls else l81) fun sJrbbtffbbttLsttJ => if x103.xClient = x65.xClient then if ((x103.xReq : Nat) : Int) = ((x65.xReq : Nat) : Int) then w23_JudgeTurns_L0 l0 p1 r26 r36 x53 x65 q86 sJrbbtffbbttLsttJ x103.xOps.ls else w23_JudgeTurns_L0 l0 p1 r26 r36 x53 x65 q86 sJrbbtffbbttLsttJ l84 else w23_JudgeTurns_L0 l0 p1 r26 r36 x53 x65 q86 sJrbbtffbbttLsttJ l84 else if x103.xClient = x65.xClient then if ((x103.xReq : Nat) : Int) = ((x65.xReq : Nat) : Int) then w23_JudgeTurns_L0 l0 p1 r26 r36 x53 x65 q86 l81 x103.xOps.ls else w23_JudgeTurns_L0 l0 p1 r26 r36 x53 x65 q86 l81 l84 else w23_JudgeTurns_L0 l0 p1 r26 r36 x53 x65 q86 l81 l84 else w23_JudgeTurns_L0 l0 p1 r26 r36 x53 x65 q86 l81 l84

def w23_JudgeTurns_L2 (r26 : Bool) (x186 : LockD) : List LockD → Unit ⊕ Bool
  | [] => Sum.inl ()
  | x206 :: q195 => bnd (r02_Meet x186.xRange x206.xRange) fun yr219 => if yr219.2 = true then Sum.inr (r26) else w23_JudgeTurns_L2 r26 x186 q195

def w23_JudgeTurns_L1 (l0 : List SeenT) (p1 : Int) (r26 : Bool) (r36 : List PairD) (x53 : SeenT) (x65 : SeenT) (r165 : List LockD) : List LockD → Unit ⊕ Bool
  | [] => Sum.inl ()
  | x186 :: q175 => lpS (w23_JudgeTurns_L2 r26 x186 r165) fun _ => w23_JudgeTurns_L1 l0 p1 r26 r36 x53 x65 r165 q175

def w23_JudgeTurns (l0 : List SeenT) (p1 : Int) : Bool :=
 bnd (w23_live) fun yr26 => bnd (judge_Replay l0) fun yr36 => if yr36.2 = 0 then if ((l0.length : Nat) : Int) < 2 then yr26 else if ((l0.length : Nat) : Int) > 100 then yr26 else bnd (List.getD l0 (Int.toNat (remI (((remI p1 (l0.length - 1)) + ((l0.length : Nat) : Int)) - 1) (l0.length - 1))) default) fun yx53 => bnd (List.getD l0 (Int.toNat ((remI (((remI p1 (l0.length - 1)) + ((l0.length : Nat) : Int)) - 1) (l0.length - 1)) + 1)) default) fun yx65 => if yx53.xKind = 2 then if yx65.xKind = 2 then bnd (w23_JudgeTurns_L0 l0 p1 yr26 yr36.1 yx53 yx65 l0 ([]) ([])) fun sLrbbtffbbttL => bnd (r04_Locks sLrbbtffbbttL.1) fun yr151 => bnd (r04_Locks sLrbbtffbbttL.2) fun yr165 => lp (w23_JudgeTurns_L1 l0 p1 yr26 yr36.1 yx53 yx65 yr165.1 yr151.1) fun _ => bnd (judge_Replay (List.set (List.set l0 (Int.toNat (remI (((remI p1 (l0.length - 1)) + ((l0.length : Nat) : Int)) - 1) (l0.length - 1))) (SeenT.mk yx65.xKind yx65.xClient yx65.xReq yx65.xCode (Ll.mk yx65.xOps.ls) (Ll.mk yx65.xResults.ls))) (Int.toNat ((remI (((remI p1 (l0.length - 1)) + ((l0.length : Nat) : Int)) - 1) (l0.length - 1)) + 1)) (SeenT.mk yx53.xKind yx53.xClient yx53.xReq yx53.xCode (Ll.mk yx53.xOps.ls) (Ll.mk yx53.xResults.ls)))) fun yr268 => if yr26 = true then if yr268.2 = 0 then bnd (r04_SameMap yr36.1 yr268.1) fun yr285 => yr285 else false else false else yr26 else yr26 else yr26

set_option maxRecDepth 100000 in
set_option maxHeartbeats 4000000 in
theorem w23_JudgeTurns_ok (w : World) (D : Nat → Prop) (A0 : Option Addr) (n0 c0 : Nat) (d0 : List SeenD) (l0 : List SeenT) (p1 : Int) (r0 : Bool) (H : Own w D w []) (hd0 : List.map SeenD.abs d0 = l0) (hx0 : Ro w D fun w' => Rds w' 6 A0 n0 (List.flatMap SeenD.cells d0)) (hm0 : ∀ x ∈ d0, Ro w D (fun w' => Rds w' 6 x.xOps.A x.xOps.ls.length (List.flatMap OpD.cells x.xOps.ls)) ∧ (x.xOps.ls.length ≤ x.xOps.c ∧ x.xOps.ls.length ≤ 9223372036854775807) ∧ Ro w D (fun w' => Rds w' 3 x.xResults.A x.xResults.ls.length (List.flatMap ResultD.cells x.xResults.ls)) ∧ (x.xResults.ls.length ≤ x.xResults.c ∧ x.xResults.ls.length ≤ 9223372036854775807) ∧ (∀ y1 ∈ x.xResults.ls, Ro w D (fun w' => Rds w' 2 y1.xPairs.A y1.xPairs.ls.length (List.flatMap PairD.cells y1.xPairs.ls)) ∧ (y1.xPairs.ls.length ≤ y1.xPairs.c ∧ y1.xPairs.ls.length ≤ 9223372036854775807))) (hn0 : n0 = l0.length) (hl0 : l0.length * 80 ≤ 211106232532992) (hh0 : l0.length * 80 ≤ 140737488351232) (hh1 : (-9223372036854775808) ≤ p1 ∧ p1 ≤ 9223372036854775807) (hh2 : l0.length ≤ 1048576) (hh3 : OpsLe l0) (hr : w23_JudgeTurns l0 p1 = r0) :
    Calls Try.prog 7 #[.slice A0 n0 c0, .int .i64 p1] w (Ret fun v w' => v = .bool r0 ∧ Own w D w' []) := by
 subst hn0
 have hdl0 := abs_len hd0
 refine Calls.body (args := [.slice A0 l0.length c0, .int .i64 p1]) Try.func7 rfl rfl rfl ?_
 show Wp _ _ _ [(0, .slice A0 l0.length c0), (1, .int .i64 p1)] _ _
 refine sr (Ar rfl ?_)
 obtain ⟨r26, hr27⟩ : ∃ q, w23_live = q := ⟨_, rfl⟩
 obtain ⟨D21, HP22, ro23, bk24, rr25⟩ := Own.enter0 H
 refine cl Try.call8 (w23_live_ok _ _ r26 HP22 hr27) ?_
 rintro _ w28 ⟨rfl, HQ29⟩
 have H30 := bk24 _ _ HQ29
 refine Ar rfl (Mz rfl ?_)
 obtain ⟨⟨r36, r37⟩, hr38⟩ : ∃ q : (List PairD) × Int, judge_Replay l0 = q := ⟨_, rfl⟩
 obtain ⟨D31, HP32, ro33, bk34, rr35⟩ := Own.enter0 H30
 refine cl Try.call11 (judge_Replay_ok _ _ A0 l0.length c0 d0 l0 r36 r37 HP32 hd0 (ro33 _ hx0) (fun x9 h9 => ⟨ro33 _ (hm0 x9 h9).1, (hm0 x9 h9).2.1, ro33 _ (hm0 x9 h9).2.2.1, (hm0 x9 h9).2.2.2.1, (fun y1 k1 => ⟨ro33 _ ((hm0 x9 h9).2.2.2.2 y1 k1).1, ((hm0 x9 h9).2.2.2.2 y1 k1).2⟩)⟩) rfl (by omega) (by first | omega | exact Nat.le_of_ble_eq_true rfl | (simp only [List.length_take]; omega)) hr38) ?_
 rintro _ w39 ⟨A42, c43, rfl, HQ40⟩
 have H41 := bk34 _ _ HQ40
 have hb44 := H41.rowC (i := 0) rfl
 refine Mz rfl (Kz (.slice A42 r36.length c43) (Kz (.int .i64 r37) (Az rfl (An rfl (Wp.seq (sr (Mz rfl (fw (.bool (decide (¬ (r37 = 0)))) (Yl.bool (e := !(decide (r37 = 0))) yk decide_not.symm) (Mz rfl ?_)))))))))
 by_cases h45 : r37 = 0
 refine gw (.slice A0 l0.length c0) (dF (not_not_intro h45)) (Yl.move rfl) (gw (.int .i64 ((l0.length : Nat) : Int)) (dF (not_not_intro h45)) yk (gw (.bool (decide (((l0.length : Nat) : Int) < 2))) (dF (not_not_intro h45)) yk (fw (.bool (decide (((l0.length : Nat) : Int) < 2))) (Yl.pickF rfl (dF (not_not_intro h45)) rfl) (Mz rfl ?_))))
 by_cases h46 : ((l0.length : Nat) : Int) < 2
 refine Sz (dT h46) (Sz (dT h46) (Sz (dT h46) (fw (.bool true) (Yl.pickT rfl (dT h46) rfl) (nt (jt (sr (Mz rfl (An rfl (rt (tR (rs ?_)))))))))))
 have H47 := H41.pk []
 obtain rfl : _ = r26 := hr.symm.trans (et (bnd_of hr27) (et (bnd_of hr38) (et (ip h45) (ip h46))))
 exact ⟨rfl, H47⟩
 refine gw (.slice A0 l0.length c0) (dF h46) (Yl.move rfl) (Gz (.int .i64 ((l0.length : Nat) : Int)) (dF h46) (Gz (.bool (decide (((l0.length : Nat) : Int) > 100))) (dF h46) (fw (.bool (decide (((l0.length : Nat) : Int) > 100))) (Yl.pickF rfl (dF h46) rfl) (nt ?_))))
 by_cases h48 : ((l0.length : Nat) : Int) > 100
 refine jT (dT h48) (sr (Mz rfl (An rfl (rt (tR (rs ?_))))))
 have H49 := H41.pk []
 obtain rfl : _ = r26 := hr.symm.trans (et (bnd_of hr27) (et (bnd_of hr38) (et (ip h45) (et (iN h46) (ip h48)))))
 exact ⟨rfl, H49⟩
 refine jF (dF h48) (sk (sr (Mz rfl (Mz rfl (Kz (.int .i64 ((l0.length : Nat) : Int)) (fw (.int .i64 ((l0.length - 1 : Nat) : Int)) (Yl.int (e := IntKind.i64.wrap (((l0.length : Nat) : Int) - 1)) yk (by rw [IntWalk.i64_in _ (by omega)]; omega)) ?_))))))
 have hz50 := remI_bd p1 (n := l0.length - 1) (by omega)
 refine fw (.int .i64 (remI p1 (l0.length - 1))) (Yl.remI rfl rfl (by omega)) (Mz rfl (Kz (.int .i64 ((l0.length : Nat) : Int)) (fw (.int .i64 ((remI p1 (l0.length - 1)) + ((l0.length : Nat) : Int))) (Yl.int (e := IntKind.i64.wrap ((remI p1 (l0.length - 1)) + ((l0.length : Nat) : Int))) yk (by rw [IntWalk.i64_in _ (by omega)])) (fw (.int .i64 (((remI p1 (l0.length - 1)) + ((l0.length : Nat) : Int)) - 1)) (Yl.int (e := IntKind.i64.wrap (((remI p1 (l0.length - 1)) + ((l0.length : Nat) : Int)) - 1)) yk (by rw [IntWalk.i64_in _ (by omega)])) (Mz rfl (Kz (.int .i64 ((l0.length : Nat) : Int)) (fw (.int .i64 ((l0.length - 1 : Nat) : Int)) (Yl.int (e := IntKind.i64.wrap (((l0.length : Nat) : Int) - 1)) yk (by rw [IntWalk.i64_in _ (by omega)]; omega)) ?_)))))))
 have hz51 := remI_bd (((remI p1 (l0.length - 1)) + ((l0.length : Nat) : Int)) - 1) (n := l0.length - 1) (by omega)
 have hz52 := remI_nn (a := ((remI p1 (l0.length - 1)) + ((l0.length : Nat) : Int)) - 1) (n := l0.length - 1) (by omega)
 refine fw (.int .i64 (remI (((remI p1 (l0.length - 1)) + ((l0.length : Nat) : Int)) - 1) (l0.length - 1))) (Yl.remI rfl rfl (by omega)) (Ar rfl (Mz rfl (fw (.int .i64 ((Int.toNat (remI (((remI p1 (l0.length - 1)) + ((l0.length : Nat) : Int)) - 1) (l0.length - 1)) : Nat) : Int)) (Yl.int (e := remI (((remI p1 (l0.length - 1)) + ((l0.length : Nat) : Int)) - 1) (l0.length - 1)) (Yl.move rfl) (by omega)) ?_)))
 obtain ⟨x53, hx54⟩ := rds_at (ls := d0) (i := Int.toNat (remI (((remI p1 (l0.length - 1)) + ((l0.length : Nat) : Int)) - 1) (l0.length - 1))) SeenD.len (by decide) (H41.ro hx0) (by first | omega | (simp; done) | (simp; omega))
 have hX55 := abs_at hd0 hx54
 have hb56 := (hm0 _ (List.mem_of_getElem? hx54)).2.1
 have hb57 := (hm0 _ (List.mem_of_getElem? hx54)).2.2.2.1
 have hl58 : List.length (List.map ResultD.abs x53.xResults.ls) = x53.xResults.ls.length := List.length_map ..
 have hz59 : x53.xOps.ls.length ≤ 1048576 := OpsLe_at (by assumption) hX55
 refine fw (.pointer (some ⟨ab A0, ao A0 + (Int.toNat (remI (((remI p1 (l0.length - 1)) + ((l0.length : Nat) : Int)) - 1) (l0.length - 1))) * 6, none⟩)) (Yl.indexAddr (El22) rfl rfl ((H41.ro hx0).addr (i := Int.toNat (remI (((remI p1 (l0.length - 1)) + ((l0.length : Nat) : Int)) - 1) (l0.length - 1))) (by omega)) (by omega)) (fw (.agg (SeenD.cells x53).toArray) (Yl.load rfl (Lds.agg (cs := (SeenD.cells x53)) Try.isAgg39 Try.sizeOf39 ((H41.ro hx0).elem SeenD.len hx54 (by decide)))) ?_)
 refine npw [.int .i64 0, .int .i64 0, .int .u64 0, .int .i64 0, .slice none 0 0, .slice none 0 0] 39 H41 ?_
 intro g60 w61 H62
 refine sto (SeenD.cells x53) 0 H62 Try.sizeOf39 ?_
 intro w63 H64
 refine ns (Mz rfl (Mz rfl (fw (.int .i64 ((Int.toNat ((remI (((remI p1 (l0.length - 1)) + ((l0.length : Nat) : Int)) - 1) (l0.length - 1)) + 1) : Nat) : Int)) (Yl.int (e := IntKind.i64.wrap ((remI (((remI p1 (l0.length - 1)) + ((l0.length : Nat) : Int)) - 1) (l0.length - 1)) + 1)) yk (by rw [IntWalk.i64_in _ (by omega)]; omega)) ?_)))
 obtain ⟨x65, hx66⟩ := rds_at (ls := d0) (i := Int.toNat ((remI (((remI p1 (l0.length - 1)) + ((l0.length : Nat) : Int)) - 1) (l0.length - 1)) + 1)) SeenD.len (by decide) (H64.ro hx0) (by first | omega | (simp; done) | (simp; omega))
 have hX67 := abs_at hd0 hx66
 have hb68 := (hm0 _ (List.mem_of_getElem? hx66)).2.1
 have hb69 := (hm0 _ (List.mem_of_getElem? hx66)).2.2.2.1
 have hl70 : List.length (List.map ResultD.abs x65.xResults.ls) = x65.xResults.ls.length := List.length_map ..
 have hz71 : x65.xOps.ls.length ≤ 1048576 := OpsLe_at (by assumption) hX67
 refine fw (.pointer (some ⟨ab A0, ao A0 + (Int.toNat ((remI (((remI p1 (l0.length - 1)) + ((l0.length : Nat) : Int)) - 1) (l0.length - 1)) + 1)) * 6, none⟩)) (Yl.indexAddr (El22) rfl rfl ((H64.ro hx0).addr (i := Int.toNat ((remI (((remI p1 (l0.length - 1)) + ((l0.length : Nat) : Int)) - 1) (l0.length - 1)) + 1)) (by omega)) (by omega)) (fw (.agg (SeenD.cells x65).toArray) (Yl.load rfl (Lds.agg (cs := (SeenD.cells x65)) Try.isAgg39 Try.sizeOf39 ((H64.ro hx0).elem SeenD.len hx66 (by decide)))) ?_)
 refine npw [.int .i64 0, .int .i64 0, .int .u64 0, .int .i64 0, .slice none 0 0, .slice none 0 0] 39 H64 ?_
 intro g72 w73 H74
 refine sto (SeenD.cells x65) 0 H74 Try.sizeOf39 ?_
 intro w75 H76
 refine nt (Wp.seq (sr (Kz (.pointer (some ⟨g60, 0, none⟩)) (Lz (.int .i64 x53.xKind) H76 1 Try.isAgg3 (fw (.bool (decide (¬ (x53.xKind = 2)))) (Yl.bool (e := !(decide (x53.xKind = 2))) yk decide_not.symm) (Mz rfl ?_))))))
 by_cases h77 : x53.xKind = 2
 refine gw (.pointer (some ⟨g72, 0, none⟩)) (dF (not_not_intro h77)) yk (gw (.int .i64 x65.xKind) (dF (not_not_intro h77)) (Yl.load rfl (Lds.one Try.isAgg3 (Cls.of (H76.cls (i := 0) rfl) rfl))) (gw (.bool (decide (¬ (x65.xKind = 2)))) (dF (not_not_intro h77)) (Yl.bool (e := !(decide (x65.xKind = 2))) yk decide_not.symm) (fw (.bool (decide (¬ (x65.xKind = 2)))) (Yl.pickF rfl (dF (not_not_intro h77)) rfl) (nt ?_))))
 by_cases h78 : x65.xKind = 2
 refine jF (dF (not_not_intro h78)) (sk (sr (Az rfl (An rfl (Wp.seq (sr (Mz rfl (Kz (.int .i64 ((l0.length : Nat) : Int)) (Mn rfl (bo ?_))))))))))
 have H87 := H76.pk [0, 1, 2]
 obtain ⟨I91, hI92⟩ : ∃ q : ((Option Addr) × Nat × (List OpD) × (Option Addr) × Nat × (List OpD) × Nat) → World → Prop, q = fun (i : (Option Addr) × Nat × (List OpD) × (Option Addr) × Nat × (List OpD) × Nat) w' => Own w D w' [blk g72 (SeenD.cells x65) 39, blk g60 (SeenD.cells x53) 39, row A42 r36.length c43 (List.flatMap PairD.cells r36) 32 2] ∧ (Ro w D (fun w' => Rds w' 6 i.1 i.2.2.1.length (List.flatMap OpD.cells i.2.2.1)) ∧ (i.2.2.1.length ≤ i.2.1 ∧ i.2.2.1.length ≤ 9223372036854775807) ∧ Ro w D (fun w' => Rds w' 6 i.2.2.2.1 i.2.2.2.2.2.1.length (List.flatMap OpD.cells i.2.2.2.2.2.1)) ∧ (i.2.2.2.2.2.1.length ≤ i.2.2.2.2.1 ∧ i.2.2.2.2.2.1.length ≤ 9223372036854775807) ∧ i.2.2.2.2.2.2 ≤ l0.length ∧ i.2.2.1.length ≤ 1048576 ∧ i.2.2.2.2.2.1.length ≤ 1048576 ∧ w23_JudgeTurns_L0 l0 p1 r26 r36 (SeenD.abs x53) (SeenD.abs x65) l0 ([]) ([]) = w23_JudgeTurns_L0 l0 p1 r26 r36 (SeenD.abs x53) (SeenD.abs x65) (List.drop i.2.2.2.2.2.2 l0) i.2.2.1 i.2.2.2.2.2.1) := ⟨_, rfl⟩
 have dm93 : ∀ {A79 : Option Addr} {c80 : Nat} {l81 : List OpD} {A82 : Option Addr} {c83 : Nat} {l84 : List OpD} {k85 : Nat} {w' : World}, I91 (A79, c80, l81, A82, c83, l84, k85) w' ↔ Own w D w' [blk g72 (SeenD.cells x65) 39, blk g60 (SeenD.cells x53) 39, row A42 r36.length c43 (List.flatMap PairD.cells r36) 32 2] ∧ Ro w D (fun w' => Rds w' 6 A79 l81.length (List.flatMap OpD.cells l81)) ∧ (l81.length ≤ c80 ∧ l81.length ≤ 9223372036854775807) ∧ Ro w D (fun w' => Rds w' 6 A82 l84.length (List.flatMap OpD.cells l84)) ∧ (l84.length ≤ c83 ∧ l84.length ≤ 9223372036854775807) ∧ k85 ≤ l0.length ∧ l81.length ≤ 1048576 ∧ l84.length ≤ 1048576 ∧ w23_JudgeTurns_L0 l0 p1 r26 r36 (SeenD.abs x53) (SeenD.abs x65) l0 ([]) ([]) = w23_JudgeTurns_L0 l0 p1 r26 r36 (SeenD.abs x53) (SeenD.abs x65) (List.drop k85 l0) l81 l84 := by intros; subst hI92; exact Iff.rfl
 refine Wp.loop (fun i : (Option Addr) × Nat × (List OpD) × (Option Addr) × Nat × (List OpD) × Nat => [(10, .slice i.1 i.2.2.1.length i.2.1), (11, .slice i.2.2.2.1 i.2.2.2.2.2.1.length i.2.2.2.2.1), (79, .int .i64 ((i.2.2.2.2.2.2 : Nat) : Int)), (78, .int .i64 ((l0.length : Nat) : Int)), (77, .slice A0 l0.length c0), (9, .pointer (some ⟨g72, 0, none⟩)), (8, .pointer (some ⟨g60, 0, none⟩)), (1, .int .i64 (remI (((remI p1 (l0.length - 1)) + ((l0.length : Nat) : Int)) - 1) (l0.length - 1))), (6, .slice A42 r36.length c43), (5, .bool r26), (4, .bool false), (0, .slice A0 l0.length c0)]) I91 (fun i => l0.length - i.2.2.2.2.2.2) (none, 0, [], none, 0, [], 0) ⟨rfl, rfl, rfl, rfl, rfl, rfl, rfl, rfl, rfl, rfl, rfl, rfl, trivial⟩ (dm93.2 ⟨H87, (show Ro w D (fun w' => Rds w' 6 none (List.length ([])) (List.flatMap OpD.cells ([]))) ∧ (List.length ([]) ≤ 0 ∧ List.length ([]) ≤ 9223372036854775807) ∧ Ro w D (fun w' => Rds w' 6 none (List.length ([])) (List.flatMap OpD.cells ([]))) ∧ (List.length ([]) ≤ 0 ∧ List.length ([]) ≤ 9223372036854775807) ∧ 0 ≤ l0.length ∧ 0 ≤ 1048576 ∧ 0 ≤ 1048576 ∧ w23_JudgeTurns_L0 l0 p1 r26 r36 (SeenD.abs x53) (SeenD.abs x65) l0 ([]) ([]) = w23_JudgeTurns_L0 l0 p1 r26 r36 (SeenD.abs x53) (SeenD.abs x65) (List.drop 0 l0) ([]) ([]) from ⟨by exact fun _ _ => Rds.nil _ _ _, by first | omega | exact ⟨Nat.le_of_ble_eq_true rfl, Nat.le_of_ble_eq_true rfl⟩, by exact fun _ _ => Rds.nil _ _ _, by first | omega | exact ⟨Nat.le_of_ble_eq_true rfl, Nat.le_of_ble_eq_true rfl⟩, by omega, by omega, by omega, rfl⟩)⟩) ?_
 rintro ⟨A79, c80, l81, A82, c83, l84, k85⟩ w88 hf90
 show Wp _ _ _ [(10, .slice A79 l81.length c80), (11, .slice A82 l84.length c83), (79, .int .i64 ((k85 : Nat) : Int)), (78, .int .i64 ((l0.length : Nat) : Int)), (77, .slice A0 l0.length c0), (9, .pointer (some ⟨g72, 0, none⟩)), (8, .pointer (some ⟨g60, 0, none⟩)), (1, .int .i64 (remI (((remI p1 (l0.length - 1)) + ((l0.length : Nat) : Int)) - 1) (l0.length - 1))), (6, .slice A42 r36.length c43), (5, .bool r26), (4, .bool false), (0, .slice A0 l0.length c0)] _ _
 obtain ⟨H89, hi95, hi96, hi97, hi98, hi99, hi100, hi101, hq94⟩ := dm93.1 hf90
 refine sr (Kz (.bool (decide (((k85 : Nat) : Int) < ((l0.length : Nat) : Int)))) (nt (Wp.seq ?_)))
 by_cases h102 : ((k85 : Nat) : Int) < ((l0.length : Nat) : Int)
 obtain ⟨x103, hx104⟩ := rds_at (ls := d0) (i := k85) SeenD.len (by decide) (H89.ro hx0) (by first | omega | (simp; done) | (simp; omega))
 have hX105 := abs_at hd0 hx104
 have hb106 := (hm0 _ (List.mem_of_getElem? hx104)).2.1
 have hb107 := (hm0 _ (List.mem_of_getElem? hx104)).2.2.2.1
 have hl108 : List.length (List.map ResultD.abs x103.xResults.ls) = x103.xResults.ls.length := List.length_map ..
 have hz109 : x103.xOps.ls.length ≤ 1048576 := OpsLe_at (by assumption) hX105
 have hd110 := drop_at hX105
 refine jT (dT h102) (sk (Wp.seq (bo (sr (fw (.pointer (some ⟨ab A0, ao A0 + k85 * 6, none⟩)) (Yl.indexAddr (El22) rfl rfl ((H89.ro hx0).addr (i := k85) (by omega)) (by omega)) (fw (.agg (SeenD.cells x103).toArray) (Yl.load rfl (Lds.agg (cs := (SeenD.cells x103)) Try.isAgg39 Try.sizeOf39 ((H89.ro hx0).elem SeenD.len hx104 (by decide)))) ?_))))))
 refine npw [.int .i64 0, .int .i64 0, .int .u64 0, .int .i64 0, .slice none 0 0, .slice none 0 0] 39 H89 ?_
 intro g111 w112 H113
 refine sto (SeenD.cells x103) 0 H113 Try.sizeOf39 ?_
 intro w114 H115
 refine nt (Wp.seq (sr (Kz (.pointer (some ⟨g111, 0, none⟩)) (Lz (.int .i64 x103.xKind) H115 0 Try.isAgg3 (Kz (.bool (decide (x103.xKind = 1))) (Mz rfl ?_))))))
 by_cases h116 : x103.xKind = 1
 refine Gz (.pointer (some ⟨g111, 1, none⟩)) (dT h116) (Gl (.int .i64 x103.xClient) (dT h116) H115 0 Try.isAgg3 (Gz (.pointer (some ⟨g60, 1, none⟩)) (dT h116) (Gl (.int .i64 x53.xClient) (dT h116) H115 2 Try.isAgg3 (Gz (.bool (decide (x103.xClient = x53.xClient))) (dT h116) (fw (.bool (decide (x103.xClient = x53.xClient))) (Yl.pickT rfl (dT h116) rfl) (Mz rfl ?_))))))
 by_cases h117 : x103.xClient = x53.xClient
 refine Gz (.pointer (some ⟨g111, 2, none⟩)) (dT h117) (Gl (.int .u64 ((x103.xReq : Nat) : Int)) (dT h117) H115 0 Try.isAgg35 (Gz (.pointer (some ⟨g60, 2, none⟩)) (dT h117) (Gl (.int .u64 ((x53.xReq : Nat) : Int)) (dT h117) H115 2 Try.isAgg35 (Gz (.bool (decide (((x103.xReq : Nat) : Int) = ((x53.xReq : Nat) : Int)))) (dT h117) (fw (.bool (decide (((x103.xReq : Nat) : Int) = ((x53.xReq : Nat) : Int)))) (Yl.pickT rfl (dT h117) rfl) (nt ?_))))))
 obtain ⟨I121, hI122⟩ : ∃ q : ((Option Addr) × Nat × (List OpD)) → World → Prop, q = fun (i : (Option Addr) × Nat × (List OpD)) w' => Own w D w' [blk g111 (SeenD.cells x103) 39, blk g72 (SeenD.cells x65) 39, blk g60 (SeenD.cells x53) 39, row A42 r36.length c43 (List.flatMap PairD.cells r36) 32 2] ∧ (Ro w D (fun w' => Rds w' 6 i.1 i.2.2.length (List.flatMap OpD.cells i.2.2)) ∧ (i.2.2.length ≤ i.2.1 ∧ i.2.2.length ≤ 9223372036854775807) ∧ i.2.2.length ≤ 1048576 ∧ (if ((x103.xReq : Nat) : Int) = ((x53.xReq : Nat) : Int) then x103.xOps.ls else l81) = i.2.2) := ⟨_, rfl⟩
 have dm123 : ∀ {A118 : Option Addr} {c119 : Nat} {l120 : List OpD} {w' : World}, I121 (A118, c119, l120) w' ↔ Own w D w' [blk g111 (SeenD.cells x103) 39, blk g72 (SeenD.cells x65) 39, blk g60 (SeenD.cells x53) 39, row A42 r36.length c43 (List.flatMap PairD.cells r36) 32 2] ∧ Ro w D (fun w' => Rds w' 6 A118 l120.length (List.flatMap OpD.cells l120)) ∧ (l120.length ≤ c119 ∧ l120.length ≤ 9223372036854775807) ∧ l120.length ≤ 1048576 ∧ (if ((x103.xReq : Nat) : Int) = ((x53.xReq : Nat) : Int) then x103.xOps.ls else l81) = l120 := by intros; subst hI122; exact Iff.rfl
 refine Wp.joinT (fun i : (Option Addr) × Nat × (List OpD) => [(10, .slice i.1 i.2.2.length i.2.1), (99, .bool (decide (((x103.xReq : Nat) : Int) = ((x53.xReq : Nat) : Int)))), (98, .bool (decide (((x103.xReq : Nat) : Int) = ((x53.xReq : Nat) : Int)))), (97, .int .u64 ((x53.xReq : Nat) : Int)), (96, .pointer (some ⟨g60, 2, none⟩)), (95, .int .u64 ((x103.xReq : Nat) : Int)), (94, .pointer (some ⟨g111, 2, none⟩)), (93, .bool (decide (x103.xClient = x53.xClient))), (92, .bool (decide (x103.xClient = x53.xClient))), (91, .bool (decide (x103.xClient = x53.xClient))), (90, .int .i64 x53.xClient), (89, .pointer (some ⟨g60, 1, none⟩)), (88, .int .i64 x103.xClient), (87, .pointer (some ⟨g111, 1, none⟩)), (86, .bool (decide (x103.xKind = 1))), (85, .bool (decide (x103.xKind = 1))), (84, .int .i64 x103.xKind), (83, .pointer (some ⟨g111, 0, none⟩)), (13, .pointer (some ⟨g111, 0, none⟩)), (82, .agg (SeenD.cells x103).toArray), (81, .pointer (some ⟨ab A0, ao A0 + k85 * 6, none⟩)), (80, .bool (decide (((k85 : Nat) : Int) < ((l0.length : Nat) : Int)))), (11, .slice A82 l84.length c83), (79, .int .i64 ((k85 : Nat) : Int)), (78, .int .i64 ((l0.length : Nat) : Int)), (77, .slice A0 l0.length c0), (9, .pointer (some ⟨g72, 0, none⟩)), (8, .pointer (some ⟨g60, 0, none⟩)), (1, .int .i64 (remI (((remI p1 (l0.length - 1)) + ((l0.length : Nat) : Int)) - 1) (l0.length - 1))), (6, .slice A42 r36.length c43), (5, .bool r26), (4, .bool false), (0, .slice A0 l0.length c0)]) I121 ?_ ?_
 by_cases h124 : ((x103.xReq : Nat) : Int) = ((x53.xReq : Nat) : Int)
 refine jT (dT h124) (Wp.region (Kz (.pointer (some ⟨g111, 4, none⟩)) (Lz (.slice x103.xOps.A x103.xOps.ls.length x103.xOps.c) H115 0 Try.isAgg36 (Az rfl (WL.nil ?_)))))
 have H125 := H115.pk [0, 1, 2, 3]
 exact Fin.join (x103.xOps.A, x103.xOps.c, x103.xOps.ls) ⟨rfl, rfl, rfl, rfl, rfl, rfl, rfl, rfl, rfl, rfl, rfl, rfl, rfl, rfl, rfl, rfl, rfl, rfl, rfl, rfl, rfl, rfl, rfl, rfl, rfl, rfl, rfl, rfl, rfl, rfl, rfl, rfl, rfl, trivial⟩ (dm123.2 ⟨H125, by exact (hm0 _ (List.mem_of_getElem? hx104)).1, by first | omega | exact ⟨Nat.le_of_ble_eq_true rfl, Nat.le_of_ble_eq_true rfl⟩, by omega, ip h124⟩)
 refine jF (dF h124) (Wp.skip ?_)
 have H126 := H115.pk [0, 1, 2, 3]
 exact Fin.join (A79, c80, l81) ⟨rfl, rfl, rfl, rfl, rfl, rfl, rfl, rfl, rfl, rfl, rfl, rfl, rfl, rfl, rfl, rfl, rfl, rfl, rfl, rfl, rfl, rfl, rfl, rfl, rfl, rfl, rfl, rfl, rfl, rfl, rfl, rfl, rfl, trivial⟩ (dm123.2 ⟨H126, by exact hi95, by first | omega | exact ⟨Nat.le_of_ble_eq_true rfl, Nat.le_of_ble_eq_true rfl⟩, by omega, iN h124⟩)
 rintro ⟨A118, c119, l120⟩ w127 hf129
 show Wp _ _ _ [(10, .slice A118 l120.length c119), (99, .bool (decide (((x103.xReq : Nat) : Int) = ((x53.xReq : Nat) : Int)))), (98, .bool (decide (((x103.xReq : Nat) : Int) = ((x53.xReq : Nat) : Int)))), (97, .int .u64 ((x53.xReq : Nat) : Int)), (96, .pointer (some ⟨g60, 2, none⟩)), (95, .int .u64 ((x103.xReq : Nat) : Int)), (94, .pointer (some ⟨g111, 2, none⟩)), (93, .bool (decide (x103.xClient = x53.xClient))), (92, .bool (decide (x103.xClient = x53.xClient))), (91, .bool (decide (x103.xClient = x53.xClient))), (90, .int .i64 x53.xClient), (89, .pointer (some ⟨g60, 1, none⟩)), (88, .int .i64 x103.xClient), (87, .pointer (some ⟨g111, 1, none⟩)), (86, .bool (decide (x103.xKind = 1))), (85, .bool (decide (x103.xKind = 1))), (84, .int .i64 x103.xKind), (83, .pointer (some ⟨g111, 0, none⟩)), (13, .pointer (some ⟨g111, 0, none⟩)), (82, .agg (SeenD.cells x103).toArray), (81, .pointer (some ⟨ab A0, ao A0 + k85 * 6, none⟩)), (80, .bool (decide (((k85 : Nat) : Int) < ((l0.length : Nat) : Int)))), (11, .slice A82 l84.length c83), (79, .int .i64 ((k85 : Nat) : Int)), (78, .int .i64 ((l0.length : Nat) : Int)), (77, .slice A0 l0.length c0), (9, .pointer (some ⟨g72, 0, none⟩)), (8, .pointer (some ⟨g60, 0, none⟩)), (1, .int .i64 (remI (((remI p1 (l0.length - 1)) + ((l0.length : Nat) : Int)) - 1) (l0.length - 1))), (6, .slice A42 r36.length c43), (5, .bool r26), (4, .bool false), (0, .slice A0 l0.length c0)] _ _
 obtain ⟨H128, hi131, hi132, hi133, hj130⟩ := dm123.1 hf129
 refine sr (Kz (.pointer (some ⟨g111, 0, none⟩)) (Lz (.int .i64 x103.xKind) H128 0 Try.isAgg3 (Kz (.bool (decide (x103.xKind = 1))) (Mz rfl (Gz (.pointer (some ⟨g111, 1, none⟩)) (dT h116) (Gl (.int .i64 x103.xClient) (dT h116) H128 0 Try.isAgg3 (Gz (.pointer (some ⟨g72, 1, none⟩)) (dT h116) (Gl (.int .i64 x65.xClient) (dT h116) H128 1 Try.isAgg3 (Gz (.bool (decide (x103.xClient = x65.xClient))) (dT h116) (fw (.bool (decide (x103.xClient = x65.xClient))) (Yl.pickT rfl (dT h116) rfl) (Mz rfl ?_)))))))))))
 by_cases h134 : x103.xClient = x65.xClient
 refine Gz (.pointer (some ⟨g111, 2, none⟩)) (dT h134) (Gl (.int .u64 ((x103.xReq : Nat) : Int)) (dT h134) H128 0 Try.isAgg35 (Gz (.pointer (some ⟨g72, 2, none⟩)) (dT h134) (Gl (.int .u64 ((x65.xReq : Nat) : Int)) (dT h134) H128 1 Try.isAgg35 (Gz (.bool (decide (((x103.xReq : Nat) : Int) = ((x65.xReq : Nat) : Int)))) (dT h134) (fw (.bool (decide (((x103.xReq : Nat) : Int) = ((x65.xReq : Nat) : Int)))) (Yl.pickT rfl (dT h134) rfl) (nt ?_))))))
 by_cases h135 : ((x103.xReq : Nat) : Int) = ((x65.xReq : Nat) : Int)
 refine jT (dT h135) (Wp.region (Kz (.pointer (some ⟨g111, 4, none⟩)) (Lz (.slice x103.xOps.A x103.xOps.ls.length x103.xOps.c) H128 0 Try.isAgg36 (Az rfl (WL.nil (bN (Fin.then (Wp.region (fw (.int .i64 ((k85 + 1 : Nat) : Int)) (Yl.int (e := IntKind.i64.wrap (((k85 : Nat) : Int) + 1)) yk (by rw [IntWalk.i64_in _ (by omega)]; omega)) (Mz rfl (WL.nil ?_)))))))))))
 have H136 := H128.pk [1, 2, 3]
 exact Fin.round (A118, c119, l120, x103.xOps.A, x103.xOps.c, x103.xOps.ls, k85 + 1) ⟨rfl, rfl, rfl, rfl, rfl, rfl, rfl, rfl, rfl, rfl, rfl, rfl, trivial⟩ (dm93.2 ⟨H136, by exact hi131, by first | omega | exact ⟨Nat.le_of_ble_eq_true rfl, Nat.le_of_ble_eq_true rfl⟩, by exact (hm0 _ (List.mem_of_getElem? hx104)).1, by first | omega | exact ⟨Nat.le_of_ble_eq_true rfl, Nat.le_of_ble_eq_true rfl⟩, by omega, by omega, by omega, et (hq94) (et (congrArg (fun q => w23_JudgeTurns_L0 l0 p1 r26 r36 (SeenD.abs x53) (SeenD.abs x65) q l81 l84) hd110) (et (ip h116) (et (ip h117) (et (bnd_of hj130) (et (ip h134) (ip h135))))))⟩) (by show l0.length - (k85 + 1) < l0.length - k85; omega)
 refine jF (dF h135) (Wp.skip (bN (Fin.then (Wp.region (fw (.int .i64 ((k85 + 1 : Nat) : Int)) (Yl.int (e := IntKind.i64.wrap (((k85 : Nat) : Int) + 1)) yk (by rw [IntWalk.i64_in _ (by omega)]; omega)) (Mz rfl (WL.nil ?_)))))))
 have H137 := H128.pk [1, 2, 3]
 exact Fin.round (A118, c119, l120, A82, c83, l84, k85 + 1) ⟨rfl, rfl, rfl, rfl, rfl, rfl, rfl, rfl, rfl, rfl, rfl, rfl, trivial⟩ (dm93.2 ⟨H137, by exact hi131, by first | omega | exact ⟨Nat.le_of_ble_eq_true rfl, Nat.le_of_ble_eq_true rfl⟩, by exact hi97, by first | omega | exact ⟨Nat.le_of_ble_eq_true rfl, Nat.le_of_ble_eq_true rfl⟩, by omega, by omega, by omega, et (hq94) (et (congrArg (fun q => w23_JudgeTurns_L0 l0 p1 r26 r36 (SeenD.abs x53) (SeenD.abs x65) q l81 l84) hd110) (et (ip h116) (et (ip h117) (et (bnd_of hj130) (et (ip h134) (iN h135))))))⟩) (by show l0.length - (k85 + 1) < l0.length - k85; omega)
 refine Sz (dF h134) (Sz (dF h134) (Sz (dF h134) (Sz (dF h134) (Sz (dF h134) (fw (.bool false) (Yl.pickF rfl (dF h134) rfl) (nt (jf (Wp.skip (bN (Fin.then (Wp.region (fw (.int .i64 ((k85 + 1 : Nat) : Int)) (Yl.int (e := IntKind.i64.wrap (((k85 : Nat) : Int) + 1)) yk (by rw [IntWalk.i64_in _ (by omega)]; omega)) (Mz rfl (WL.nil ?_))))))))))))))
 have H138 := H128.pk [1, 2, 3]
 exact Fin.round (A118, c119, l120, A82, c83, l84, k85 + 1) ⟨rfl, rfl, rfl, rfl, rfl, rfl, rfl, rfl, rfl, rfl, rfl, rfl, trivial⟩ (dm93.2 ⟨H138, by exact hi131, by first | omega | exact ⟨Nat.le_of_ble_eq_true rfl, Nat.le_of_ble_eq_true rfl⟩, by exact hi97, by first | omega | exact ⟨Nat.le_of_ble_eq_true rfl, Nat.le_of_ble_eq_true rfl⟩, by omega, by omega, by omega, et (hq94) (et (congrArg (fun q => w23_JudgeTurns_L0 l0 p1 r26 r36 (SeenD.abs x53) (SeenD.abs x65) q l81 l84) hd110) (et (ip h116) (et (ip h117) (et (bnd_of hj130) (iN h134)))))⟩) (by show l0.length - (k85 + 1) < l0.length - k85; omega)
 refine Sz (dF h117) (Sz (dF h117) (Sz (dF h117) (Sz (dF h117) (Sz (dF h117) (fw (.bool false) (Yl.pickF rfl (dF h117) rfl) (nt (jf (sk (sr (Kz (.pointer (some ⟨g111, 0, none⟩)) (Lz (.int .i64 x103.xKind) H115 0 Try.isAgg3 (Kz (.bool (decide (x103.xKind = 1))) (Mz rfl (Gz (.pointer (some ⟨g111, 1, none⟩)) (dT h116) (Gl (.int .i64 x103.xClient) (dT h116) H115 0 Try.isAgg3 (Gz (.pointer (some ⟨g72, 1, none⟩)) (dT h116) (Gl (.int .i64 x65.xClient) (dT h116) H115 1 Try.isAgg3 (Gz (.bool (decide (x103.xClient = x65.xClient))) (dT h116) (fw (.bool (decide (x103.xClient = x65.xClient))) (Yl.pickT rfl (dT h116) rfl) (Mz rfl ?_))))))))))))))))))))
 by_cases h139 : x103.xClient = x65.xClient
 refine Gz (.pointer (some ⟨g111, 2, none⟩)) (dT h139) (Gl (.int .u64 ((x103.xReq : Nat) : Int)) (dT h139) H115 0 Try.isAgg35 (Gz (.pointer (some ⟨g72, 2, none⟩)) (dT h139) (Gl (.int .u64 ((x65.xReq : Nat) : Int)) (dT h139) H115 1 Try.isAgg35 (Gz (.bool (decide (((x103.xReq : Nat) : Int) = ((x65.xReq : Nat) : Int)))) (dT h139) (fw (.bool (decide (((x103.xReq : Nat) : Int) = ((x65.xReq : Nat) : Int)))) (Yl.pickT rfl (dT h139) rfl) (nt ?_))))))
 by_cases h140 : ((x103.xReq : Nat) : Int) = ((x65.xReq : Nat) : Int)
 refine jT (dT h140) (Wp.region (Kz (.pointer (some ⟨g111, 4, none⟩)) (Lz (.slice x103.xOps.A x103.xOps.ls.length x103.xOps.c) H115 0 Try.isAgg36 (Az rfl (WL.nil (bN (Fin.then (Wp.region (fw (.int .i64 ((k85 + 1 : Nat) : Int)) (Yl.int (e := IntKind.i64.wrap (((k85 : Nat) : Int) + 1)) yk (by rw [IntWalk.i64_in _ (by omega)]; omega)) (Mz rfl (WL.nil ?_)))))))))))
 have H141 := H115.pk [1, 2, 3]
 exact Fin.round (A79, c80, l81, x103.xOps.A, x103.xOps.c, x103.xOps.ls, k85 + 1) ⟨rfl, rfl, rfl, rfl, rfl, rfl, rfl, rfl, rfl, rfl, rfl, rfl, trivial⟩ (dm93.2 ⟨H141, by exact hi95, by first | omega | exact ⟨Nat.le_of_ble_eq_true rfl, Nat.le_of_ble_eq_true rfl⟩, by exact (hm0 _ (List.mem_of_getElem? hx104)).1, by first | omega | exact ⟨Nat.le_of_ble_eq_true rfl, Nat.le_of_ble_eq_true rfl⟩, by omega, by omega, by omega, et (hq94) (et (congrArg (fun q => w23_JudgeTurns_L0 l0 p1 r26 r36 (SeenD.abs x53) (SeenD.abs x65) q l81 l84) hd110) (et (ip h116) (et (iN h117) (et (ip h139) (ip h140)))))⟩) (by show l0.length - (k85 + 1) < l0.length - k85; omega)
 refine jF (dF h140) (Wp.skip (bN (Fin.then (Wp.region (fw (.int .i64 ((k85 + 1 : Nat) : Int)) (Yl.int (e := IntKind.i64.wrap (((k85 : Nat) : Int) + 1)) yk (by rw [IntWalk.i64_in _ (by omega)]; omega)) (Mz rfl (WL.nil ?_)))))))
 have H142 := H115.pk [1, 2, 3]
 exact Fin.round (A79, c80, l81, A82, c83, l84, k85 + 1) ⟨rfl, rfl, rfl, rfl, rfl, rfl, rfl, rfl, rfl, rfl, rfl, rfl, trivial⟩ (dm93.2 ⟨H142, by exact hi95, by first | omega | exact ⟨Nat.le_of_ble_eq_true rfl, Nat.le_of_ble_eq_true rfl⟩, by exact hi97, by first | omega | exact ⟨Nat.le_of_ble_eq_true rfl, Nat.le_of_ble_eq_true rfl⟩, by omega, by omega, by omega, et (hq94) (et (congrArg (fun q => w23_JudgeTurns_L0 l0 p1 r26 r36 (SeenD.abs x53) (SeenD.abs x65) q l81 l84) hd110) (et (ip h116) (et (iN h117) (et (ip h139) (iN h140)))))⟩) (by show l0.length - (k85 + 1) < l0.length - k85; omega)
 refine Sz (dF h139) (Sz (dF h139) (Sz (dF h139) (Sz (dF h139) (Sz (dF h139) (fw (.bool false) (Yl.pickF rfl (dF h139) rfl) (nt (jf (Wp.skip (bN (Fin.then (Wp.region (fw (.int .i64 ((k85 + 1 : Nat) : Int)) (Yl.int (e := IntKind.i64.wrap (((k85 : Nat) : Int) + 1)) yk (by rw [IntWalk.i64_in _ (by omega)]; omega)) (Mz rfl (WL.nil ?_))))))))))))))
 have H143 := H115.pk [1, 2, 3]
 exact Fin.round (A79, c80, l81, A82, c83, l84, k85 + 1) ⟨rfl, rfl, rfl, rfl, rfl, rfl, rfl, rfl, rfl, rfl, rfl, rfl, trivial⟩ (dm93.2 ⟨H143, by exact hi95, by first | omega | exact ⟨Nat.le_of_ble_eq_true rfl, Nat.le_of_ble_eq_true rfl⟩, by exact hi97, by first | omega | exact ⟨Nat.le_of_ble_eq_true rfl, Nat.le_of_ble_eq_true rfl⟩, by omega, by omega, by omega, et (hq94) (et (congrArg (fun q => w23_JudgeTurns_L0 l0 p1 r26 r36 (SeenD.abs x53) (SeenD.abs x65) q l81 l84) hd110) (et (ip h116) (et (iN h117) (iN h139))))⟩) (by show l0.length - (k85 + 1) < l0.length - k85; omega)
 refine Sz (dF h116) (Sz (dF h116) (Sz (dF h116) (Sz (dF h116) (Sz (dF h116) (fw (.bool false) (Yl.pickF rfl (dF h116) rfl) (Mz rfl (Sz rfl (Sz rfl (Sz rfl (Sz rfl (Sz rfl (fw (.bool false) (Yl.pickF rfl rfl rfl) (nt (jf (sk (sr (Kz (.pointer (some ⟨g111, 0, none⟩)) (Lz (.int .i64 x103.xKind) H115 0 Try.isAgg3 (Kz (.bool (decide (x103.xKind = 1))) (Mz rfl (Sz (dF h116) (Sz (dF h116) (Sz (dF h116) (Sz (dF h116) (Sz (dF h116) (fw (.bool false) (Yl.pickF rfl (dF h116) rfl) (Mz rfl (Sz rfl (Sz rfl (Sz rfl (Sz rfl (Sz rfl (fw (.bool false) (Yl.pickF rfl rfl rfl) (nt (jf ?_)))))))))))))))))))))))))))))))))))
 refine Wp.skip (bN (Fin.then (Wp.region (fw (.int .i64 ((k85 + 1 : Nat) : Int)) (Yl.int (e := IntKind.i64.wrap (((k85 : Nat) : Int) + 1)) yk (by rw [IntWalk.i64_in _ (by omega)]; omega)) (Mz rfl (WL.nil ?_))))))
 have H144 := H115.pk [1, 2, 3]
 exact Fin.round (A79, c80, l81, A82, c83, l84, k85 + 1) ⟨rfl, rfl, rfl, rfl, rfl, rfl, rfl, rfl, rfl, rfl, rfl, rfl, trivial⟩ (dm93.2 ⟨H144, by exact hi95, by first | omega | exact ⟨Nat.le_of_ble_eq_true rfl, Nat.le_of_ble_eq_true rfl⟩, by exact hi97, by first | omega | exact ⟨Nat.le_of_ble_eq_true rfl, Nat.le_of_ble_eq_true rfl⟩, by omega, by omega, by omega, et (hq94) (et (congrArg (fun q => w23_JudgeTurns_L0 l0 p1 r26 r36 (SeenD.abs x53) (SeenD.abs x65) q l81 l84) hd110) (iN h116))⟩) (by show l0.length - (k85 + 1) < l0.length - k85; omega)
 refine jF (dF h102) (Wp.exit (Fin.thenX ?_))
 have hL145 : w23_JudgeTurns_L0 l0 p1 r26 r36 (SeenD.abs x53) (SeenD.abs x65) l0 ([]) ([]) = (l81, l84) := et (hq94) (et (congrArg (fun q => w23_JudgeTurns_L0 l0 p1 r26 r36 (SeenD.abs x53) (SeenD.abs x65) q l81 l84) (drop_end (ls := l0) (i := k85) (by omega))) rfl)
 refine Fin.thenX (Fin.blockX (Fin.then (sr (Mz rfl ?_))))
 obtain ⟨⟨r151, r152⟩, hr153⟩ : ∃ q : (List LockD) × Int, r04_Locks l81 = q := ⟨_, rfl⟩
 obtain ⟨D146, HP147, ro148, bk149, rr150⟩ := Own.enter0 H89
 refine cl Try.call15 (r04_Locks_ok _ _ A79 l81.length c80 l81 r151 r152 HP147 (ro148 _ hi95) rfl (by omega) hr153) ?_
 rintro _ w154 ⟨A157, c158, rfl, HQ155⟩
 have H156 := bk149 _ _ HQ155
 have hb159 := H156.rowC (i := 0) rfl
 refine Mz rfl (Kz (.slice A157 r151.length c158) (Kz (.int .i64 r152) (Az rfl (Ar rfl (Mz rfl ?_)))))
 obtain ⟨⟨r165, r166⟩, hr167⟩ : ∃ q : (List LockD) × Int, r04_Locks l84 = q := ⟨_, rfl⟩
 obtain ⟨D160, HP161, ro162, bk163, rr164⟩ := Own.enter0 H156
 refine cl Try.call15 (r04_Locks_ok _ _ A82 l84.length c83 l84 r165 r166 HP161 (ro162 _ hi97) rfl (by omega) hr167) ?_
 rintro _ w168 ⟨A171, c172, rfl, HQ169⟩
 have H170 := bk163 _ _ HQ169
 have hb173 := H170.rowC (i := 0) rfl
 refine Mz rfl (Kz (.slice A171 r165.length c172) (Kz (.int .i64 r166) (Az rfl (An rfl (Wp.seq (sr (Mz rfl (Kz (.int .i64 ((r151.length : Nat) : Int)) (Mn rfl (bo ?_))))))))))
 have H176 := H170.pk [0, 1, 2, 3, 4]
 obtain ⟨I180, hI181⟩ : ∃ q : Nat → World → Prop, q = fun (i : Nat) w' => Own w D w' [row A171 r165.length c172 (List.flatMap LockD.cells r165) 48 3, row A157 r151.length c158 (List.flatMap LockD.cells r151) 48 3, blk g72 (SeenD.cells x65) 39, blk g60 (SeenD.cells x53) 39, row A42 r36.length c43 (List.flatMap PairD.cells r36) 32 2] ∧ (i ≤ r151.length ∧ w23_JudgeTurns_L1 l0 p1 r26 r36 (SeenD.abs x53) (SeenD.abs x65) r165 r151 = w23_JudgeTurns_L1 l0 p1 r26 r36 (SeenD.abs x53) (SeenD.abs x65) r165 (List.drop i r151)) := ⟨_, rfl⟩
 have dm182 : ∀ {k174 : Nat} {w' : World}, I180 k174 w' ↔ Own w D w' [row A171 r165.length c172 (List.flatMap LockD.cells r165) 48 3, row A157 r151.length c158 (List.flatMap LockD.cells r151) 48 3, blk g72 (SeenD.cells x65) 39, blk g60 (SeenD.cells x53) 39, row A42 r36.length c43 (List.flatMap PairD.cells r36) 32 2] ∧ k174 ≤ r151.length ∧ w23_JudgeTurns_L1 l0 p1 r26 r36 (SeenD.abs x53) (SeenD.abs x65) r165 r151 = w23_JudgeTurns_L1 l0 p1 r26 r36 (SeenD.abs x53) (SeenD.abs x65) r165 (List.drop k174 r151) := by intros; subst hI181; exact Iff.rfl
 refine Wp.loop (fun i : Nat => [(4, .bool false), (134, .int .i64 ((i : Nat) : Int)), (133, .int .i64 ((r151.length : Nat) : Int)), (132, .slice A157 r151.length c158), (16, .slice A171 r165.length c172), (9, .pointer (some ⟨g72, 0, none⟩)), (8, .pointer (some ⟨g60, 0, none⟩)), (1, .int .i64 (remI (((remI p1 (l0.length - 1)) + ((l0.length : Nat) : Int)) - 1) (l0.length - 1))), (6, .slice A42 r36.length c43), (5, .bool r26), (0, .slice A0 l0.length c0)]) I180 (fun i => r151.length - i) 0 ⟨rfl, rfl, rfl, rfl, rfl, rfl, rfl, rfl, rfl, rfl, rfl, trivial⟩ (dm182.2 ⟨H176, by omega, rfl⟩) ?_
 rintro k174 w177 hf179
 show Wp _ _ _ [(4, .bool false), (134, .int .i64 ((k174 : Nat) : Int)), (133, .int .i64 ((r151.length : Nat) : Int)), (132, .slice A157 r151.length c158), (16, .slice A171 r165.length c172), (9, .pointer (some ⟨g72, 0, none⟩)), (8, .pointer (some ⟨g60, 0, none⟩)), (1, .int .i64 (remI (((remI p1 (l0.length - 1)) + ((l0.length : Nat) : Int)) - 1) (l0.length - 1))), (6, .slice A42 r36.length c43), (5, .bool r26), (0, .slice A0 l0.length c0)] _ _
 obtain ⟨H178, hi184, hq183⟩ := dm182.1 hf179
 refine sr (Kz (.bool (decide (((k174 : Nat) : Int) < ((r151.length : Nat) : Int)))) (nt (Wp.seq ?_)))
 by_cases h185 : ((k174 : Nat) : Int) < ((r151.length : Nat) : Int)
 obtain ⟨x186, hx187⟩ := rds_at (ls := r151) (i := k174) LockD.len (by decide) (H178.rds (i := 1) rfl) (by first | omega | (simp; done) | (simp; omega))
 have hd188 := drop_at hx187
 refine jT (dT h185) (sk (Wp.seq (bo (sr (fw (.pointer (some ⟨ab A157, ao A157 + k174 * 3, none⟩)) (Yl.indexAddr (El42) rfl rfl ((H178.rds (i := 1) rfl).addr (i := k174) (by omega)) (by omega)) (fw (.agg (LockD.cells x186).toArray) (Yl.load rfl (Lds.agg (cs := (LockD.cells x186)) Try.isAgg48 Try.sizeOf48 ((H178.rds (i := 1) rfl).elem LockD.len hx187 (by decide)))) ?_))))))
 refine npw [.string ⟨List.toArray ([])⟩, .string ⟨List.toArray ([])⟩, .bool false] 48 H178 ?_
 intro g189 w190 H191
 refine sto (LockD.cells x186) 0 H191 Try.sizeOf48 ?_
 intro w192 H193
 refine ns (Mz rfl (Kz (.int .i64 ((r165.length : Nat) : Int)) (Mn rfl (bo ?_))))
 have H196 := H193.pk [0, 1, 2, 3, 4, 5]
 obtain ⟨I200, hI201⟩ : ∃ q : Nat → World → Prop, q = fun (i : Nat) w' => Own w D w' [blk g189 (LockD.cells x186) 48, row A171 r165.length c172 (List.flatMap LockD.cells r165) 48 3, row A157 r151.length c158 (List.flatMap LockD.cells r151) 48 3, blk g72 (SeenD.cells x65) 39, blk g60 (SeenD.cells x53) 39, row A42 r36.length c43 (List.flatMap PairD.cells r36) 32 2] ∧ (i ≤ r165.length ∧ w23_JudgeTurns_L2 r26 x186 r165 = w23_JudgeTurns_L2 r26 x186 (List.drop i r165)) := ⟨_, rfl⟩
 have dm202 : ∀ {k194 : Nat} {w' : World}, I200 k194 w' ↔ Own w D w' [blk g189 (LockD.cells x186) 48, row A171 r165.length c172 (List.flatMap LockD.cells r165) 48 3, row A157 r151.length c158 (List.flatMap LockD.cells r151) 48 3, blk g72 (SeenD.cells x65) 39, blk g60 (SeenD.cells x53) 39, row A42 r36.length c43 (List.flatMap PairD.cells r36) 32 2] ∧ k194 ≤ r165.length ∧ w23_JudgeTurns_L2 r26 x186 r165 = w23_JudgeTurns_L2 r26 x186 (List.drop k194 r165) := by intros; subst hI201; exact Iff.rfl
 refine Wp.loop (fun i : Nat => [(4, .bool false), (140, .int .i64 ((i : Nat) : Int)), (139, .int .i64 ((r165.length : Nat) : Int)), (138, .slice A171 r165.length c172), (19, .pointer (some ⟨g189, 0, none⟩)), (137, .agg (LockD.cells x186).toArray), (136, .pointer (some ⟨ab A157, ao A157 + k174 * 3, none⟩)), (135, .bool (decide (((k174 : Nat) : Int) < ((r151.length : Nat) : Int)))), (134, .int .i64 ((k174 : Nat) : Int)), (133, .int .i64 ((r151.length : Nat) : Int)), (132, .slice A157 r151.length c158), (16, .slice A171 r165.length c172), (9, .pointer (some ⟨g72, 0, none⟩)), (8, .pointer (some ⟨g60, 0, none⟩)), (1, .int .i64 (remI (((remI p1 (l0.length - 1)) + ((l0.length : Nat) : Int)) - 1) (l0.length - 1))), (6, .slice A42 r36.length c43), (5, .bool r26), (0, .slice A0 l0.length c0)]) I200 (fun i => r165.length - i) 0 ⟨rfl, rfl, rfl, rfl, rfl, rfl, rfl, rfl, rfl, rfl, rfl, rfl, rfl, rfl, rfl, rfl, rfl, rfl, trivial⟩ (dm202.2 ⟨H196, by omega, rfl⟩) ?_
 rintro k194 w197 hf199
 show Wp _ _ _ [(4, .bool false), (140, .int .i64 ((k194 : Nat) : Int)), (139, .int .i64 ((r165.length : Nat) : Int)), (138, .slice A171 r165.length c172), (19, .pointer (some ⟨g189, 0, none⟩)), (137, .agg (LockD.cells x186).toArray), (136, .pointer (some ⟨ab A157, ao A157 + k174 * 3, none⟩)), (135, .bool (decide (((k174 : Nat) : Int) < ((r151.length : Nat) : Int)))), (134, .int .i64 ((k174 : Nat) : Int)), (133, .int .i64 ((r151.length : Nat) : Int)), (132, .slice A157 r151.length c158), (16, .slice A171 r165.length c172), (9, .pointer (some ⟨g72, 0, none⟩)), (8, .pointer (some ⟨g60, 0, none⟩)), (1, .int .i64 (remI (((remI p1 (l0.length - 1)) + ((l0.length : Nat) : Int)) - 1) (l0.length - 1))), (6, .slice A42 r36.length c43), (5, .bool r26), (0, .slice A0 l0.length c0)] _ _
 obtain ⟨H198, hi204, hq203⟩ := dm202.1 hf199
 refine sr (Kz (.bool (decide (((k194 : Nat) : Int) < ((r165.length : Nat) : Int)))) (nt (Wp.seq ?_)))
 by_cases h205 : ((k194 : Nat) : Int) < ((r165.length : Nat) : Int)
 obtain ⟨x206, hx207⟩ := rds_at (ls := r165) (i := k194) LockD.len (by decide) (H198.rds (i := 1) rfl) (by first | omega | (simp; done) | (simp; omega))
 have hd208 := drop_at hx207
 refine jT (dT h205) (sk (Wp.seq (bo (sr (fw (.pointer (some ⟨ab A171, ao A171 + k194 * 3, none⟩)) (Yl.indexAddr (El42) rfl rfl ((H198.rds (i := 1) rfl).addr (i := k194) (by omega)) (by omega)) (fw (.agg (LockD.cells x206).toArray) (Yl.load rfl (Lds.agg (cs := (LockD.cells x206)) Try.isAgg48 Try.sizeOf48 ((H198.rds (i := 1) rfl).elem LockD.len hx207 (by decide)))) ?_))))))
 refine npw [.string ⟨List.toArray ([])⟩, .string ⟨List.toArray ([])⟩, .bool false] 48 H198 ?_
 intro g209 w210 H211
 refine sto (LockD.cells x206) 0 H211 Try.sizeOf48 ?_
 intro w212 H213
 refine ns (Kz (.pointer (some ⟨g189, 0, none⟩)) (La (RangeD.cells x186.xRange) H213 1 Try.isAgg46 Try.sizeOf46 (Kz (.pointer (some ⟨g209, 0, none⟩)) (La (RangeD.cells x206.xRange) H213 0 Try.isAgg46 Try.sizeOf46 ?_))))
 obtain ⟨⟨r219, r220⟩, hr221⟩ : ∃ q : RangeD × Bool, r02_Meet x186.xRange x206.xRange = q := ⟨_, rfl⟩
 obtain ⟨D214, HP215, ro216, bk217, rr218⟩ := Own.enter0 H213
 refine cl Try.call16 (r02_Meet_ok _ _ x186.xRange x206.xRange r219 r220 HP215 hr221) ?_
 rintro _ w222 ⟨rfl, HQ223⟩
 have H224 := bk217 _ _ HQ223
 refine Mz rfl (Kz (.agg (RangeD.cells r219).toArray) (Kz (.bool r220) ?_))
 refine npw [.string ⟨List.toArray ([])⟩, .string ⟨List.toArray ([])⟩] 46 H224 ?_
 intro g225 w226 H227
 refine sto (RangeD.cells r219) 0 H227 Try.sizeOf46 ?_
 intro w228 H229
 refine Ar rfl (Mn rfl ?_)
 rcases Bool.eq_false_or_eq_true (r220) with h230 | h230
 refine jT h230 (sr (Mz rfl (An rfl (rt (bR (tR (tR (bR (bR (tR (tR (bR (tR (rs ?_))))))))))))))
 have H231 := H229.pk []
 obtain rfl : _ = r26 := hr.symm.trans (et (bnd_of hr27) (et (bnd_of hr38) (et (ip h45) (et (iN h46) (et (iN h48) (et (bnd_of (getD_of hX55)) (et (bnd_of (getD_of hX67)) (et (ip h77) (et (ip h78) (et (bnd_of hL145) (et (bnd_of hr153) (et (bnd_of hr167) (lp_r (et (hq183) (et (congrArg (fun q => w23_JudgeTurns_L1 l0 p1 r26 r36 (SeenD.abs x53) (SeenD.abs x65) r165 q) hd188) (lpS_r (et (hq203) (et (congrArg (fun q => w23_JudgeTurns_L2 r26 x186 q) hd208) (et (bnd_of hr221) (ip h230))))))))))))))))))))
 exact ⟨rfl, H231⟩
 refine jF h230 (Wp.skip (bN (Fin.then (Wp.region (fw (.int .i64 ((k194 + 1 : Nat) : Int)) (Yl.int (e := IntKind.i64.wrap (((k194 : Nat) : Int) + 1)) yk (by rw [IntWalk.i64_in _ (by omega)]; omega)) (Mz rfl (WL.nil ?_)))))))
 have H232 := H229.pk [2, 3, 4, 5, 6, 7]
 exact Fin.round (k194 + 1) ⟨rfl, rfl, rfl, rfl, rfl, rfl, rfl, rfl, rfl, rfl, rfl, rfl, rfl, rfl, rfl, rfl, rfl, rfl, trivial⟩ (dm202.2 ⟨H232, by omega, et (hq203) (et (congrArg (fun q => w23_JudgeTurns_L2 r26 x186 q) hd208) (et (bnd_of hr221) (ifF h230)))⟩) (by show r165.length - (k194 + 1) < r165.length - k194; omega)
 refine jF (dF h205) (Wp.exit (Fin.thenX ?_))
 have hL233 : w23_JudgeTurns_L2 r26 x186 r165 = Sum.inl () := et (hq203) (et (congrArg (fun q => w23_JudgeTurns_L2 r26 x186 q) (drop_end (ls := r165) (i := k194) (by omega))) rfl)
 refine Fin.thenX (Fin.blockX (bN (Fin.then (Wp.region (fw (.int .i64 ((k174 + 1 : Nat) : Int)) (Yl.int (e := IntKind.i64.wrap (((k174 : Nat) : Int) + 1)) yk (by rw [IntWalk.i64_in _ (by omega)]; omega)) (Mz rfl (WL.nil ?_)))))))
 have H234 := H198.pk [1, 2, 3, 4, 5]
 exact Fin.round (k174 + 1) ⟨rfl, rfl, rfl, rfl, rfl, rfl, rfl, rfl, rfl, rfl, rfl, trivial⟩ (dm182.2 ⟨H234, by omega, et (hq183) (et (congrArg (fun q => w23_JudgeTurns_L1 l0 p1 r26 r36 (SeenD.abs x53) (SeenD.abs x65) r165 q) hd188) (lpS_l hL233))⟩) (by show r151.length - (k174 + 1) < r151.length - k174; omega)
 refine jF (dF h185) (Wp.exit (Fin.thenX ?_))
 have hL235 : w23_JudgeTurns_L1 l0 p1 r26 r36 (SeenD.abs x53) (SeenD.abs x65) r165 r151 = Sum.inl () := et (hq183) (et (congrArg (fun q => w23_JudgeTurns_L1 l0 p1 r26 r36 (SeenD.abs x53) (SeenD.abs x65) r165 q) (drop_end (ls := r151) (i := k174) (by omega))) rfl)
 refine Fin.thenX (Fin.blockX (Fin.then (Wp.seq ?_)))
 have H236 := H178.pk [2, 3, 4]
 refine Wp.region (Mz rfl ?_)
 have H237 : Own w D w177 [row none 0 0 (List.flatMap SeenD.cells ([])) 39 6, blk g72 (SeenD.cells x65) 39, blk g60 (SeenD.cells x53) 39, row A42 r36.length c43 (List.flatMap PairD.cells r36) 32 2] := H236.free (row_nil 39 6)
 refine WL.do rfl (Do.appendW (k := 0) (m := l0.length) (El22) H237 rfl rfl (src_of Try.underlying22 (H237.ro hx0) (flat_one SeenD.one d0)) rfl (by omega) (s := l0.length) (by first | omega | (simp only [List.length_append, List.length_cons, List.length_nil] <;> omega)) rfl ?_)
 intro A238 c239 w240 H241
 have hm242 : ∀ x : SeenD, x ∈ d0 → Ro w D (fun w' => Rds w' 6 x.xOps.A x.xOps.ls.length (List.flatMap OpD.cells x.xOps.ls)) ∧ (x.xOps.ls.length ≤ x.xOps.c ∧ x.xOps.ls.length ≤ 9223372036854775807) ∧ Ro w D (fun w' => Rds w' 3 x.xResults.A x.xResults.ls.length (List.flatMap ResultD.cells x.xResults.ls)) ∧ (x.xResults.ls.length ≤ x.xResults.c ∧ x.xResults.ls.length ≤ 9223372036854775807) ∧ (∀ y1 ∈ x.xResults.ls, Ro w D (fun w' => Rds w' 2 y1.xPairs.A y1.xPairs.ls.length (List.flatMap PairD.cells y1.xPairs.ls)) ∧ (y1.xPairs.ls.length ≤ y1.xPairs.c ∧ y1.xPairs.ls.length ≤ 9223372036854775807)) := fun x9 h9 => (hm0 x9 h9)
 have hl243 := abs_len hd0
 refine Ar rfl (Mz rfl (fw (.int .i64 ((Int.toNat (remI (((remI p1 (l0.length - 1)) + ((l0.length : Nat) : Int)) - 1) (l0.length - 1)) : Nat) : Int)) (Yl.int (e := remI (((remI p1 (l0.length - 1)) + ((l0.length : Nat) : Int)) - 1) (l0.length - 1)) (Yl.move rfl) (by omega)) (La (SeenD.cells x65) H241 1 Try.isAgg39 Try.sizeOf39 (fw (.pointer (some ⟨ab A238, ao A238 + (Int.toNat (remI (((remI p1 (l0.length - 1)) + ((l0.length : Nat) : Int)) - 1) (l0.length - 1))) * 6, none⟩)) (Yl.indexAddr (El22) rfl rfl ((H241.rds (i := 0) rfl).addr (i := Int.toNat (remI (((remI p1 (l0.length - 1)) + ((l0.length : Nat) : Int)) - 1) (l0.length - 1))) (by omega)) (by omega)) ?_))))
 refine WL.do0 (Do.storeRow (vs := (SeenD.cells x65)) (o := (Int.toNat (remI (((remI p1 (l0.length - 1)) + ((l0.length : Nat) : Int)) - 1) (l0.length - 1))) * 6 + 0) (q := ao A238 + (Int.toNat (remI (((remI p1 (l0.length - 1)) + ((l0.length : Nat) : Int)) - 1) (l0.length - 1))) * 6) H241 rfl (by omega) rfl Try.sizeOf39 rfl rfl (Nat.le_of_ble_eq_true rfl) (store_fits SeenD.len hx54 (Nat.le_of_ble_eq_true rfl)) (flat_set (y := (SeenD.mk x65.xKind x65.xClient x65.xReq x65.xCode (Sv.mk x65.xOps.A x65.xOps.c x65.xOps.ls) (Sv.mk x65.xResults.A x65.xResults.c x65.xResults.ls))) SeenD.len rfl (Nat.le_of_ble_eq_true rfl) hx54) ?_)
 intro w244 H245
 have hm246 : ∀ x : SeenD, x ∈ (List.set d0 (Int.toNat (remI (((remI p1 (l0.length - 1)) + ((l0.length : Nat) : Int)) - 1) (l0.length - 1))) (SeenD.mk x65.xKind x65.xClient x65.xReq x65.xCode (Sv.mk x65.xOps.A x65.xOps.c x65.xOps.ls) (Sv.mk x65.xResults.A x65.xResults.c x65.xResults.ls))) → Ro w D (fun w' => Rds w' 6 x.xOps.A x.xOps.ls.length (List.flatMap OpD.cells x.xOps.ls)) ∧ (x.xOps.ls.length ≤ x.xOps.c ∧ x.xOps.ls.length ≤ 9223372036854775807) ∧ Ro w D (fun w' => Rds w' 3 x.xResults.A x.xResults.ls.length (List.flatMap ResultD.cells x.xResults.ls)) ∧ (x.xResults.ls.length ≤ x.xResults.c ∧ x.xResults.ls.length ≤ 9223372036854775807) ∧ (∀ y1 ∈ x.xResults.ls, Ro w D (fun w' => Rds w' 2 y1.xPairs.A y1.xPairs.ls.length (List.flatMap PairD.cells y1.xPairs.ls)) ∧ (y1.xPairs.ls.length ≤ y1.xPairs.c ∧ y1.xPairs.ls.length ≤ 9223372036854775807)) := fun x9 h9 => (by rcases List.mem_or_eq_of_mem_set h9 with h9 | rfl; exact hm242 x9 h9; exact ⟨(hm0 _ (List.mem_of_getElem? hx66)).1, (show x65.xOps.ls.length ≤ x65.xOps.c ∧ x65.xOps.ls.length ≤ 9223372036854775807 from by omega), (hm0 _ (List.mem_of_getElem? hx66)).2.2.1, (show x65.xResults.ls.length ≤ x65.xResults.c ∧ x65.xResults.ls.length ≤ 9223372036854775807 from by omega), (hm0 _ (List.mem_of_getElem? hx66)).2.2.2.2⟩)
 have hl247 : List.length (List.set d0 (Int.toNat (remI (((remI p1 (l0.length - 1)) + ((l0.length : Nat) : Int)) - 1) (l0.length - 1))) (SeenD.mk x65.xKind x65.xClient x65.xReq x65.xCode (Sv.mk x65.xOps.A x65.xOps.c x65.xOps.ls) (Sv.mk x65.xResults.A x65.xResults.c x65.xResults.ls))) = List.length (List.set l0 (Int.toNat (remI (((remI p1 (l0.length - 1)) + ((l0.length : Nat) : Int)) - 1) (l0.length - 1))) (SeenT.mk x65.xKind x65.xClient x65.xReq x65.xCode (Ll.mk x65.xOps.ls) (Ll.mk (List.map ResultD.abs x65.xResults.ls)))) := abs_len (map_set' hd0 rfl)
 have hl248 : List.length (List.set l0 (Int.toNat (remI (((remI p1 (l0.length - 1)) + ((l0.length : Nat) : Int)) - 1) (l0.length - 1))) (SeenT.mk x65.xKind x65.xClient x65.xReq x65.xCode (Ll.mk x65.xOps.ls) (Ll.mk (List.map ResultD.abs x65.xResults.ls)))) = l0.length := List.length_set
 refine nt (Wp.seq ?_)
 have H249 := H245.pk [0, 2, 3]
 refine Wp.region (Mz rfl (Mz rfl (fw (.int .i64 ((Int.toNat ((remI (((remI p1 (l0.length - 1)) + ((l0.length : Nat) : Int)) - 1) (l0.length - 1)) + 1) : Nat) : Int)) (Yl.int (e := IntKind.i64.wrap ((remI (((remI p1 (l0.length - 1)) + ((l0.length : Nat) : Int)) - 1) (l0.length - 1)) + 1)) yk (by rw [IntWalk.i64_in _ (by omega)]; omega)) (La (SeenD.cells x53) H249 1 Try.isAgg39 Try.sizeOf39 ?_))))
 obtain ⟨x250, hx251⟩ := rds_at (ls := (List.set d0 (Int.toNat (remI (((remI p1 (l0.length - 1)) + ((l0.length : Nat) : Int)) - 1) (l0.length - 1))) (SeenD.mk x65.xKind x65.xClient x65.xReq x65.xCode (Sv.mk x65.xOps.A x65.xOps.c x65.xOps.ls) (Sv.mk x65.xResults.A x65.xResults.c x65.xResults.ls)))) (i := Int.toNat ((remI (((remI p1 (l0.length - 1)) + ((l0.length : Nat) : Int)) - 1) (l0.length - 1)) + 1)) SeenD.len (by decide) (H249.rds (i := 0) rfl) (by first | omega | (simp; done) | (simp; omega))
 have hX252 := abs_at (map_set' hd0 rfl) hx251
 have hb253 := (hm246 _ (List.mem_of_getElem? hx251)).2.1
 have hb254 := (hm246 _ (List.mem_of_getElem? hx251)).2.2.2.1
 have hl255 : List.length (List.map ResultD.abs x250.xResults.ls) = x250.xResults.ls.length := List.length_map ..
 refine fw (.pointer (some ⟨ab A238, ao A238 + (Int.toNat ((remI (((remI p1 (l0.length - 1)) + ((l0.length : Nat) : Int)) - 1) (l0.length - 1)) + 1)) * 6, none⟩)) (Yl.indexAddr (El22) rfl rfl ((H249.rds (i := 0) rfl).addr (i := Int.toNat ((remI (((remI p1 (l0.length - 1)) + ((l0.length : Nat) : Int)) - 1) (l0.length - 1)) + 1)) (by omega)) (by omega)) ?_
 refine WL.do0 (Do.storeRow (vs := (SeenD.cells x53)) (o := (Int.toNat ((remI (((remI p1 (l0.length - 1)) + ((l0.length : Nat) : Int)) - 1) (l0.length - 1)) + 1)) * 6 + 0) (q := ao A238 + (Int.toNat ((remI (((remI p1 (l0.length - 1)) + ((l0.length : Nat) : Int)) - 1) (l0.length - 1)) + 1)) * 6) H249 rfl (by omega) rfl Try.sizeOf39 rfl rfl (Nat.le_of_ble_eq_true rfl) (store_fits SeenD.len hx251 (Nat.le_of_ble_eq_true rfl)) (flat_set (y := (SeenD.mk x53.xKind x53.xClient x53.xReq x53.xCode (Sv.mk x53.xOps.A x53.xOps.c x53.xOps.ls) (Sv.mk x53.xResults.A x53.xResults.c x53.xResults.ls))) SeenD.len rfl (Nat.le_of_ble_eq_true rfl) hx251) ?_)
 intro w256 H257
 have hm258 : ∀ x : SeenD, x ∈ (List.set (List.set d0 (Int.toNat (remI (((remI p1 (l0.length - 1)) + ((l0.length : Nat) : Int)) - 1) (l0.length - 1))) (SeenD.mk x65.xKind x65.xClient x65.xReq x65.xCode (Sv.mk x65.xOps.A x65.xOps.c x65.xOps.ls) (Sv.mk x65.xResults.A x65.xResults.c x65.xResults.ls))) (Int.toNat ((remI (((remI p1 (l0.length - 1)) + ((l0.length : Nat) : Int)) - 1) (l0.length - 1)) + 1)) (SeenD.mk x53.xKind x53.xClient x53.xReq x53.xCode (Sv.mk x53.xOps.A x53.xOps.c x53.xOps.ls) (Sv.mk x53.xResults.A x53.xResults.c x53.xResults.ls))) → Ro w D (fun w' => Rds w' 6 x.xOps.A x.xOps.ls.length (List.flatMap OpD.cells x.xOps.ls)) ∧ (x.xOps.ls.length ≤ x.xOps.c ∧ x.xOps.ls.length ≤ 9223372036854775807) ∧ Ro w D (fun w' => Rds w' 3 x.xResults.A x.xResults.ls.length (List.flatMap ResultD.cells x.xResults.ls)) ∧ (x.xResults.ls.length ≤ x.xResults.c ∧ x.xResults.ls.length ≤ 9223372036854775807) ∧ (∀ y1 ∈ x.xResults.ls, Ro w D (fun w' => Rds w' 2 y1.xPairs.A y1.xPairs.ls.length (List.flatMap PairD.cells y1.xPairs.ls)) ∧ (y1.xPairs.ls.length ≤ y1.xPairs.c ∧ y1.xPairs.ls.length ≤ 9223372036854775807)) := fun x9 h9 => (by rcases List.mem_or_eq_of_mem_set h9 with h9 | rfl; exact hm246 x9 h9; exact ⟨(hm0 _ (List.mem_of_getElem? hx54)).1, (show x53.xOps.ls.length ≤ x53.xOps.c ∧ x53.xOps.ls.length ≤ 9223372036854775807 from by omega), (hm0 _ (List.mem_of_getElem? hx54)).2.2.1, (show x53.xResults.ls.length ≤ x53.xResults.c ∧ x53.xResults.ls.length ≤ 9223372036854775807 from by omega), (hm0 _ (List.mem_of_getElem? hx54)).2.2.2.2⟩)
 have hl259 : List.length (List.set (List.set d0 (Int.toNat (remI (((remI p1 (l0.length - 1)) + ((l0.length : Nat) : Int)) - 1) (l0.length - 1))) (SeenD.mk x65.xKind x65.xClient x65.xReq x65.xCode (Sv.mk x65.xOps.A x65.xOps.c x65.xOps.ls) (Sv.mk x65.xResults.A x65.xResults.c x65.xResults.ls))) (Int.toNat ((remI (((remI p1 (l0.length - 1)) + ((l0.length : Nat) : Int)) - 1) (l0.length - 1)) + 1)) (SeenD.mk x53.xKind x53.xClient x53.xReq x53.xCode (Sv.mk x53.xOps.A x53.xOps.c x53.xOps.ls) (Sv.mk x53.xResults.A x53.xResults.c x53.xResults.ls))) = List.length (List.set (List.set l0 (Int.toNat (remI (((remI p1 (l0.length - 1)) + ((l0.length : Nat) : Int)) - 1) (l0.length - 1))) (SeenT.mk x65.xKind x65.xClient x65.xReq x65.xCode (Ll.mk x65.xOps.ls) (Ll.mk (List.map ResultD.abs x65.xResults.ls)))) (Int.toNat ((remI (((remI p1 (l0.length - 1)) + ((l0.length : Nat) : Int)) - 1) (l0.length - 1)) + 1)) (SeenT.mk x53.xKind x53.xClient x53.xReq x53.xCode (Ll.mk x53.xOps.ls) (Ll.mk (List.map ResultD.abs x53.xResults.ls)))) := abs_len (map_set' (map_set' hd0 rfl) rfl)
 have hl260 : List.length (List.set (List.set l0 (Int.toNat (remI (((remI p1 (l0.length - 1)) + ((l0.length : Nat) : Int)) - 1) (l0.length - 1))) (SeenT.mk x65.xKind x65.xClient x65.xReq x65.xCode (Ll.mk x65.xOps.ls) (Ll.mk (List.map ResultD.abs x65.xResults.ls)))) (Int.toNat ((remI (((remI p1 (l0.length - 1)) + ((l0.length : Nat) : Int)) - 1) (l0.length - 1)) + 1)) (SeenT.mk x53.xKind x53.xClient x53.xReq x53.xCode (Ll.mk x53.xOps.ls) (Ll.mk (List.map ResultD.abs x53.xResults.ls)))) = List.length (List.set l0 (Int.toNat (remI (((remI p1 (l0.length - 1)) + ((l0.length : Nat) : Int)) - 1) (l0.length - 1))) (SeenT.mk x65.xKind x65.xClient x65.xReq x65.xCode (Ll.mk x65.xOps.ls) (Ll.mk (List.map ResultD.abs x65.xResults.ls)))) := List.length_set
 refine nt (Wp.seq ?_)
 have H261 := H257.pk [0, 2]
 refine Wp.region (Mz rfl ?_)
 have hz267 : l0.length = List.length (List.set (List.set l0 (Int.toNat (remI (((remI p1 (l0.length - 1)) + ((l0.length : Nat) : Int)) - 1) (l0.length - 1))) (SeenT.mk x65.xKind x65.xClient x65.xReq x65.xCode (Ll.mk x65.xOps.ls) (Ll.mk (List.map ResultD.abs x65.xResults.ls)))) (Int.toNat ((remI (((remI p1 (l0.length - 1)) + ((l0.length : Nat) : Int)) - 1) (l0.length - 1)) + 1)) (SeenT.mk x53.xKind x53.xClient x53.xReq x53.xCode (Ll.mk x53.xOps.ls) (Ll.mk (List.map ResultD.abs x53.xResults.ls)))) := (by first | rfl | omega | (simp only [List.length_append, List.length_cons, List.length_nil, List.length_take, List.length_drop, List.length_set, List.length_replicate, List.length_map] <;> omega))
 obtain ⟨⟨r268, r269⟩, hr270⟩ : ∃ q : (List PairD) × Int, judge_Replay (List.set (List.set l0 (Int.toNat (remI (((remI p1 (l0.length - 1)) + ((l0.length : Nat) : Int)) - 1) (l0.length - 1))) (SeenT.mk x65.xKind x65.xClient x65.xReq x65.xCode (Ll.mk x65.xOps.ls) (Ll.mk (List.map ResultD.abs x65.xResults.ls)))) (Int.toNat ((remI (((remI p1 (l0.length - 1)) + ((l0.length : Nat) : Int)) - 1) (l0.length - 1)) + 1)) (SeenT.mk x53.xKind x53.xClient x53.xReq x53.xCode (Ll.mk x53.xOps.ls) (Ll.mk (List.map ResultD.abs x53.xResults.ls)))) = q := ⟨_, rfl⟩
 obtain ⟨D262, HP263, ro264, bk265, rr266⟩ := Own.enter0 H261
 refine cl Try.call11 (judge_Replay_ok _ _ A238 l0.length c239 (List.set (List.set d0 (Int.toNat (remI (((remI p1 (l0.length - 1)) + ((l0.length : Nat) : Int)) - 1) (l0.length - 1))) (SeenD.mk x65.xKind x65.xClient x65.xReq x65.xCode (Sv.mk x65.xOps.A x65.xOps.c x65.xOps.ls) (Sv.mk x65.xResults.A x65.xResults.c x65.xResults.ls))) (Int.toNat ((remI (((remI p1 (l0.length - 1)) + ((l0.length : Nat) : Int)) - 1) (l0.length - 1)) + 1)) (SeenD.mk x53.xKind x53.xClient x53.xReq x53.xCode (Sv.mk x53.xOps.A x53.xOps.c x53.xOps.ls) (Sv.mk x53.xResults.A x53.xResults.c x53.xResults.ls))) (List.set (List.set l0 (Int.toNat (remI (((remI p1 (l0.length - 1)) + ((l0.length : Nat) : Int)) - 1) (l0.length - 1))) (SeenT.mk x65.xKind x65.xClient x65.xReq x65.xCode (Ll.mk x65.xOps.ls) (Ll.mk (List.map ResultD.abs x65.xResults.ls)))) (Int.toNat ((remI (((remI p1 (l0.length - 1)) + ((l0.length : Nat) : Int)) - 1) (l0.length - 1)) + 1)) (SeenT.mk x53.xKind x53.xClient x53.xReq x53.xCode (Ll.mk x53.xOps.ls) (Ll.mk (List.map ResultD.abs x53.xResults.ls)))) r268 r269 HP263 (map_set' (map_set' hd0 rfl) rfl) (rr266 _ 0 _ rfl row_rds) (fun x9 h9 => ⟨ro264 _ (hm258 x9 h9).1, (hm258 x9 h9).2.1, ro264 _ (hm258 x9 h9).2.2.1, (hm258 x9 h9).2.2.2.1, (fun y1 k1 => ⟨ro264 _ ((hm258 x9 h9).2.2.2.2 y1 k1).1, ((hm258 x9 h9).2.2.2.2 y1 k1).2⟩)⟩) (by first | rfl | omega | (simp only [List.length_append, List.length_cons, List.length_nil, List.length_take, List.length_drop, List.length_set, List.length_replicate, List.length_map] <;> omega)) (by first | omega | (simp only [List.length_append, List.length_cons, List.length_nil, List.length_take, List.length_drop, List.length_set]; omega)) (by first | omega | exact Nat.le_of_ble_eq_true rfl | (simp only [List.length_take]; omega)) hr270) ?_
 rintro _ w271 ⟨A274, c275, rfl, HQ272⟩
 have H273 := bk265 _ _ HQ272
 have hb276 := H273.rowC (i := 0) rfl
 refine Mz rfl (Kz (.slice A274 r268.length c275) (Kz (.int .i64 r269) (Az rfl (An rfl (Wp.seq ?_)))))
 have H277 := H273.pk [0, 2]
 refine Wp.region (Mz rfl (Mz rfl ?_))
 rcases Bool.eq_false_or_eq_true (r26) with h278 | h278
 refine WL.valG (v := .int .i64 r269) rfl rfl h278 rfl (Yl.move rfl) (Gz (.bool (decide (r269 = 0))) h278 (fw (.bool (decide (r269 = 0))) (Yl.pickT rfl h278 rfl) (Mz rfl ?_)))
 by_cases h279 : r269 = 0
 refine gw (.slice A42 r36.length c43) (dT h279) (Yl.move rfl) (gw (.slice A274 r268.length c275) (dT h279) (Yl.move rfl) ?_)
 obtain ⟨r285, hr286⟩ : ∃ q, r04_SameMap r36 r268 = q := ⟨_, rfl⟩
 obtain ⟨D280, HP281, ro282, bk283, rr284⟩ := Own.enter0 H277
 refine clG (dT h279) Try.call13 (r04_SameMap_ok _ _ A42 r36.length c43 r36 A274 r268.length c275 r268 r285 HP281 (rr284 _ 1 _ rfl row_rds) rfl (by omega) (rr284 _ 0 _ rfl row_rds) rfl (by omega) hr286) ?_
 rintro _ w287 ⟨rfl, HQ288⟩
 have H289 := bk283 _ _ HQ288
 refine fw (.bool r285) (Yl.pickT rfl (dT h279) rfl) (An rfl (rt (rs ?_)))
 have H290 := H289.pk []
 obtain rfl : _ = r285 := hr.symm.trans (et (bnd_of hr27) (et (bnd_of hr38) (et (ip h45) (et (iN h46) (et (iN h48) (et (bnd_of (getD_of hX55)) (et (bnd_of (getD_of hX67)) (et (ip h77) (et (ip h78) (et (bnd_of hL145) (et (bnd_of hr153) (et (bnd_of hr167) (et (lp_l hL235) (et (bnd_of hr270) (et (ip h278) (et (ip h279) (bnd_of hr286)))))))))))))))))
 exact ⟨rfl, H290⟩
 refine Sz (dF h279) (Sz (dF h279) (Sz (dF h279) (fw (.bool false) (Yl.pickF rfl (dF h279) rfl) (An rfl (rt (rs ?_))))))
 have H291 := H277.pk []
 obtain rfl : _ = false := hr.symm.trans (et (bnd_of hr27) (et (bnd_of hr38) (et (ip h45) (et (iN h46) (et (iN h48) (et (bnd_of (getD_of hX55)) (et (bnd_of (getD_of hX67)) (et (ip h77) (et (ip h78) (et (bnd_of hL145) (et (bnd_of hr153) (et (bnd_of hr167) (et (lp_l hL235) (et (bnd_of hr270) (et (ip h278) (iN h279))))))))))))))))
 exact ⟨rfl, H291⟩
 refine Sz h278 (Sz h278 (fw (.bool false) (Yl.pickF rfl h278 rfl) (Mz rfl (Sz rfl (Sz rfl (Sz rfl (fw (.bool false) (Yl.pickF rfl rfl rfl) (An rfl (rt (rs ?_))))))))))
 have H292 := H277.pk []
 obtain rfl : _ = false := hr.symm.trans (et (bnd_of hr27) (et (bnd_of hr38) (et (ip h45) (et (iN h46) (et (iN h48) (et (bnd_of (getD_of hX55)) (et (bnd_of (getD_of hX67)) (et (ip h77) (et (ip h78) (et (bnd_of hL145) (et (bnd_of hr153) (et (bnd_of hr167) (et (lp_l hL235) (et (bnd_of hr270) (ifF h278)))))))))))))))
 exact ⟨rfl, H292⟩
 refine jT (dT h78) (sr (Mz rfl (An rfl (rt (tR (rs ?_))))))
 have H293 := H76.pk []
 obtain rfl : _ = r26 := hr.symm.trans (et (bnd_of hr27) (et (bnd_of hr38) (et (ip h45) (et (iN h46) (et (iN h48) (et (bnd_of (getD_of hX55)) (et (bnd_of (getD_of hX67)) (et (ip h77) (iN h78)))))))))
 exact ⟨rfl, H293⟩
 refine Sz (dT h77) (Sz (dT h77) (Sz (dT h77) (fw (.bool true) (Yl.pickT rfl (dT h77) rfl) (nt (jt (sr (Mz rfl (An rfl (rt (tR (rs ?_)))))))))))
 have H294 := H76.pk []
 obtain rfl : _ = r26 := hr.symm.trans (et (bnd_of hr27) (et (bnd_of hr38) (et (ip h45) (et (iN h46) (et (iN h48) (et (bnd_of (getD_of hX55)) (et (bnd_of (getD_of hX67)) (iN h77))))))))
 exact ⟨rfl, H294⟩
 refine Sz (dT h45) (Sz (dT h45) (Sz (dT h45) (fw (.bool true) (Yl.pickT rfl (dT h45) rfl) (Mz rfl (Sz rfl (Sz rfl (Sz rfl (fw (.bool true) (Yl.pickT rfl rfl rfl) (nt (jt (sr (Mz rfl (An rfl (rt (tR (rs ?_))))))))))))))))
 have H295 := H41.pk []
 obtain rfl : _ = r26 := hr.symm.trans (et (bnd_of hr27) (et (bnd_of hr38) (iN h45)))
 exact ⟨rfl, H295⟩
end Go.Proofs.Ytjcdgofegkngpaa
