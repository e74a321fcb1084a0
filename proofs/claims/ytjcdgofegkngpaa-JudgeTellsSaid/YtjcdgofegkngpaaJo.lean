/-
 op: the document's answer, of operations done.
-/
import Derived.Test.YtjcdgofegkngpaaJl
import Derived.Test.YtjcdgofegkngpaaKp
namespace Go.Proofs.Ytjcdgofegkngpaa
open Go.RowKit
set_option linter.unusedVariables false
set_option linter.unusedSectionVars false
set_option linter.unusedSimpArgs false
def r04_Do (l0 : List PairD) (p1 : OpD) : (List PairD) × ResultT :=
 if p1.xKind = 1 then bnd (r04_Find l0 p1.xKey) fun yr38 => (l0, ResultT.mk yr38.2 yr38.1 (Ll.mk ([]))) else if p1.xKind = 2 then bnd (r04_put l0 (PairD.mk p1.xKey p1.xValue)) fun yr56 => (yr56, ResultT.mk false ([]) (Ll.mk ([]))) else if p1.xKind = 3 then bnd (r02_Point p1.xKey) fun yr76 => bnd (r04_without l0 yr76.1) fun yr93 => (yr93, ResultT.mk false ([]) (Ll.mk ([]))) else if p1.xKind = 4 then bnd (r04_Within l0 (RangeD.mk p1.xLo p1.xHi) p1.xMost) fun yr113 => (l0, ResultT.mk false ([]) (Ll.mk yr113)) else bnd (r04_without l0 (RangeD.mk p1.xLo p1.xHi)) fun yr131 => (yr131, ResultT.mk false ([]) (Ll.mk ([])))
set_option maxRecDepth 100000 in
theorem r04_Do_ok (w : World) (D : Nat → Prop) (A0 : Option Addr) (n0 c0 : Nat) (l0 : List PairD) (p1 : OpD) (r0 : List PairD) (r1 : ResultT) (H : Own w D w [row A0 n0 c0 (List.flatMap PairD.cells l0) 32 2]) (hn0 : n0 = l0.length) (hl0 : l0.length * 32 ≤ 211106232532992) (hh0 : (l0.length + 1) * 32 ≤ 211106232532992) (hr : r04_Do l0 p1 = (r0, r1)) :
    Calls Try.prog 38 #[.slice A0 n0 c0, .agg (OpD.cells p1).toArray] w (Ret fun v w' => ∃ (B0 : Option Addr) (b0 : Nat) (B1x0 : Option Addr) (b1x0 : Nat), v = .tuple #[.slice B0 r0.length b0, .agg #[.bool r1.xFound, .string ⟨List.toArray r1.xValue⟩, .slice B1x0 r1.xPairs.ls.length b1x0]] ∧ Own w D w' [row B0 r0.length b0 (List.flatMap PairD.cells r0) 32 2, row B1x0 r1.xPairs.ls.length b1x0 (List.flatMap PairD.cells r1.xPairs.ls) 32 2] ∧ (r0.length ≤ l0.length + 1)) := by
 subst hn0
 have hc0 := H.rowC (i := 0) rfl
 refine Calls.body (args := [.slice A0 l0.length c0, .agg (OpD.cells p1).toArray]) Try.func38 rfl rfl rfl ?_
 show Wp _ _ _ [(0, .slice A0 l0.length c0), (1, .agg (OpD.cells p1).toArray)] _ _
 refine sr ?_
 refine npw (OpD.cells p1) 53 H ?_
 intro g21 w22 H23
 refine Az rfl ?_
 refine npw [.bool false, .string ⟨List.toArray ([])⟩, .slice none 0 0] 84 H23 ?_
 intro g24 w25 H26
 refine ns (Kz (.pointer (some ⟨g21, 3, none⟩)) (Lz (.string ⟨List.toArray p1.xLo⟩) H26 1 Try.isAgg9 (Kz (.pointer (some ⟨g21, 4, none⟩)) (Lz (.string ⟨List.toArray p1.xHi⟩) H26 1 Try.isAgg9 (Kz (.agg #[.string ⟨List.toArray p1.xLo⟩, .string ⟨List.toArray p1.xHi⟩]) ?_)))))
 refine npw [.string ⟨List.toArray ([])⟩, .string ⟨List.toArray ([])⟩] 46 H26 ?_
 intro g27 w28 H29
 refine sto [.string ⟨List.toArray p1.xLo⟩, .string ⟨List.toArray p1.xHi⟩] 0 H29 Try.sizeOf46 ?_
 intro w30 H31
 refine nt (Wp.seq (sr (Kz (.pointer (some ⟨g21, 0, none⟩)) (Lz (.int .i64 p1.xKind) H31 2 Try.isAgg3 (nt (bo (sr (Kz (.bool (decide (p1.xKind = 1))) (An rfl ?_)))))))))
 by_cases h32 : p1.xKind = 1
 refine jT (dT h32) (sr (Mz rfl (Kz (.pointer (some ⟨g21, 1, none⟩)) (Lz (.string ⟨List.toArray p1.xKey⟩) H31 2 Try.isAgg9 ?_))))
 obtain ⟨⟨r38, r39⟩, hr40⟩ : ∃ q : (List UInt8) × Bool, r04_Find l0 p1.xKey = q := ⟨_, rfl⟩
 obtain ⟨D33, HP34, ro35, bk36, rr37⟩ := Own.enter0 H31
 refine cl Try.call44 (r04_Find_ok _ _ A0 l0.length c0 l0 p1.xKey r38 r39 HP34 (rr37 _ 3 _ rfl row_rds) rfl (by omega) hr40) ?_
 rintro _ w41 ⟨rfl, HQ42⟩
 have H43 := bk36 _ _ HQ42
 refine Mz rfl (Kz (.string ⟨List.toArray r38⟩) (Kz (.bool r39) (Az rfl (An rfl (Wp.seq ?_)))))
 have H44 := H43.pk [0, 1, 3]
 refine Wp.region (Mz rfl (Mz rfl (Mz rfl (Kz (.agg #[.bool r39, .string ⟨List.toArray r38⟩, .slice none 0 0]) (Az rfl ?_)))))
 have H45 := H44.pk [1, 0, 2]
 refine sto [.bool r39, .string ⟨List.toArray r38⟩, .slice none 0 0] 0 H45 Try.sizeOf84 ?_
 intro w46 H47
 refine nt (rt (bR (tR (Fin.res (resN (vs := [.slice A0 l0.length c0, .agg #[.bool r39, .string ⟨List.toArray r38⟩, .slice none 0 0]]) rfl (ResV.tmp rfl (ResV.cell rfl (Lds.agg (cs := [.bool r39, .string ⟨List.toArray r38⟩, .slice none 0 0]) Try.isAgg84 Try.sizeOf84 ((H47.cls (i := 0) rfl).lit (k := 0) (m := 3) rfl)) ResV.nil)) (Nat.le_of_ble_eq_true rfl)) ?_))))
 have H48 : Own w D w46 [row none 0 0 (List.flatMap PairD.cells ([])) 32 2, blk g24 [.bool r39, .string ⟨List.toArray r38⟩, .slice none 0 0] 84, blk g27 [.string ⟨List.toArray p1.xLo⟩, .string ⟨List.toArray p1.xHi⟩] 46, row A0 l0.length c0 (List.flatMap PairD.cells l0) 32 2] := H47.free (row_nil 32 2)
 have H49 := H48.pk [3, 0]
 have e : r04_Do l0 p1 = (l0, ResultT.mk r39 r38 (Ll.mk ([]))) := et (ip h32) (bnd_of hr40)
 obtain ⟨rfl, rfl⟩ := pj2 (e.symm.trans hr)
 exact ⟨A0, c0, none, 0, rfl, H49, (by omega)⟩
 refine jF (dF h32) (sr (Kz (.bool (decide (p1.xKind = 2))) (An rfl ?_)))
 by_cases h50 : p1.xKind = 2
 refine jT (dT h50) (sr (Mz rfl (Kz (.pointer (some ⟨g21, 1, none⟩)) (Lz (.string ⟨List.toArray p1.xKey⟩) H31 2 Try.isAgg9 (Kz (.pointer (some ⟨g21, 2, none⟩)) (Lz (.string ⟨List.toArray p1.xValue⟩) H31 2 Try.isAgg9 (Kz (.agg #[.string ⟨List.toArray p1.xKey⟩, .string ⟨List.toArray p1.xValue⟩]) ?_)))))))
 obtain ⟨r56, hr57⟩ : ∃ q, r04_put l0 (PairD.mk p1.xKey p1.xValue) = q := ⟨_, rfl⟩
 obtain ⟨D51, HP52, ro53, bk54, rr55⟩ := Own.enter0 H31
 refine cl Try.call45 (r04_put_ok _ _ A0 l0.length c0 l0 (PairD.mk p1.xKey p1.xValue) r56 HP52 (rr55 _ 3 _ rfl row_rds) rfl (by omega) (by omega) hr57) ?_
 rintro _ w58 ⟨A61, c62, rfl, HQ59, hk63⟩
 have H60 := bk54 _ _ HQ59
 have hb64 := H60.rowC (i := 0) rfl
 replace hk63 : r56.length ≤ l0.length + 1 := hk63
 refine Kz (.agg #[.bool false, .string ⟨List.toArray ([])⟩, .slice none 0 0]) (Az rfl ?_)
 have H65 := H60.pk [2, 0, 1, 3, 4]
 refine sto [.bool false, .string ⟨List.toArray ([])⟩, .slice none 0 0] 0 H65 Try.sizeOf84 ?_
 intro w66 H67
 refine nt (rt (bR (tR (Fin.res (resN (vs := [.slice A61 r56.length c62, .agg #[.bool false, .string ⟨List.toArray ([])⟩, .slice none 0 0]]) rfl (ResV.tmp rfl (ResV.cell rfl (Lds.agg (cs := [.bool false, .string ⟨List.toArray ([])⟩, .slice none 0 0]) Try.isAgg84 Try.sizeOf84 ((H67.cls (i := 0) rfl).lit (k := 0) (m := 3) rfl)) ResV.nil)) (Nat.le_of_ble_eq_true rfl)) ?_))))
 have H68 : Own w D w66 [row none 0 0 (List.flatMap PairD.cells ([])) 32 2, blk g24 [.bool false, .string ⟨List.toArray ([])⟩, .slice none 0 0] 84, row A61 r56.length c62 (List.flatMap PairD.cells r56) 32 2, blk g27 [.string ⟨List.toArray p1.xLo⟩, .string ⟨List.toArray p1.xHi⟩] 46, blk g21 (OpD.cells p1) 53, row A0 l0.length c0 (List.flatMap PairD.cells l0) 32 2] := H67.free (row_nil 32 2)
 have H69 := H68.pk [2, 0]
 have e : r04_Do l0 p1 = (r56, ResultT.mk false ([]) (Ll.mk ([]))) := et (iN h32) (et (ip h50) (bnd_of hr57))
 obtain ⟨rfl, rfl⟩ := pj2 (e.symm.trans hr)
 exact ⟨A61, c62, none, 0, rfl, H69, (by omega)⟩
 refine jF (dF h50) (sr (Kz (.bool (decide (p1.xKind = 3))) (An rfl ?_)))
 by_cases h70 : p1.xKind = 3
 refine jT (dT h70) (sr (Kz (.pointer (some ⟨g21, 1, none⟩)) (Lz (.string ⟨List.toArray p1.xKey⟩) H31 2 Try.isAgg9 ?_)))
 obtain ⟨⟨r76, r77⟩, hr78⟩ : ∃ q : RangeD × Int, r02_Point p1.xKey = q := ⟨_, rfl⟩
 obtain ⟨D71, HP72, ro73, bk74, rr75⟩ := Own.enter0 H31
 refine cl Try.call32 (r02_Point_ok _ _ p1.xKey r76 r77 HP72 hr78) ?_
 rintro _ w79 ⟨rfl, HQ80⟩
 have H81 := bk74 _ _ HQ80
 refine Mz rfl (Kz (.agg (RangeD.cells r76).toArray) (Kz (.int .i64 r77) ?_))
 refine npw [.string ⟨List.toArray ([])⟩, .string ⟨List.toArray ([])⟩] 46 H81 ?_
 intro g82 w83 H84
 refine sto (RangeD.cells r76) 0 H84 Try.sizeOf46 ?_
 intro w85 H86
 refine An rfl (Wp.seq ?_)
 have H87 := H86.pk [0, 1, 2, 4]
 refine Wp.region (Mz rfl (La (RangeD.cells r76) H87 0 Try.isAgg46 Try.sizeOf46 ?_))
 obtain ⟨r93, hr94⟩ : ∃ q, r04_without l0 r76 = q := ⟨_, rfl⟩
 obtain ⟨D88, HP89, ro90, bk91, rr92⟩ := Own.enter0 H87
 refine cl Try.call46 (r04_without_ok _ _ A0 l0.length c0 l0 r76 r93 HP89 (rr92 _ 3 _ rfl row_rds) rfl (by omega) hr94) ?_
 rintro _ w95 ⟨A98, c99, rfl, HQ96, hk100⟩
 have H97 := bk91 _ _ HQ96
 have hb101 := H97.rowC (i := 0) rfl
 replace hk100 : r93.length ≤ l0.length := hk100
 refine Kz (.agg #[.bool false, .string ⟨List.toArray ([])⟩, .slice none 0 0]) (Az rfl ?_)
 have H102 := H97.pk [3, 0, 1, 2, 4]
 refine sto [.bool false, .string ⟨List.toArray ([])⟩, .slice none 0 0] 0 H102 Try.sizeOf84 ?_
 intro w103 H104
 refine nt (rt (bR (tR (Fin.res (resN (vs := [.slice A98 r93.length c99, .agg #[.bool false, .string ⟨List.toArray ([])⟩, .slice none 0 0]]) rfl (ResV.tmp rfl (ResV.cell rfl (Lds.agg (cs := [.bool false, .string ⟨List.toArray ([])⟩, .slice none 0 0]) Try.isAgg84 Try.sizeOf84 ((H104.cls (i := 0) rfl).lit (k := 0) (m := 3) rfl)) ResV.nil)) (Nat.le_of_ble_eq_true rfl)) ?_))))
 have H105 : Own w D w103 [row none 0 0 (List.flatMap PairD.cells ([])) 32 2, blk g24 [.bool false, .string ⟨List.toArray ([])⟩, .slice none 0 0] 84, row A98 r93.length c99 (List.flatMap PairD.cells r93) 32 2, blk g82 (RangeD.cells r76) 46, blk g27 [.string ⟨List.toArray p1.xLo⟩, .string ⟨List.toArray p1.xHi⟩] 46, row A0 l0.length c0 (List.flatMap PairD.cells l0) 32 2] := H104.free (row_nil 32 2)
 have H106 := H105.pk [2, 0]
 have e : r04_Do l0 p1 = (r93, ResultT.mk false ([]) (Ll.mk ([]))) := et (iN h32) (et (iN h50) (et (ip h70) (et (bnd_of hr78) (bnd_of hr94))))
 obtain ⟨rfl, rfl⟩ := pj2 (e.symm.trans hr)
 exact ⟨A98, c99, none, 0, rfl, H106, (by omega)⟩
 refine jF (dF h70) (sr (Kz (.bool (decide (p1.xKind = 4))) (An rfl ?_)))
 by_cases h107 : p1.xKind = 4
 refine jT (dT h107) (sr (Mz rfl (Mz rfl (La ([.string ⟨List.toArray p1.xLo⟩, .string ⟨List.toArray p1.xHi⟩]) H31 0 Try.isAgg46 Try.sizeOf46 (Kz (.pointer (some ⟨g21, 5, none⟩)) (Lz (.int .i64 p1.xMost) H31 2 Try.isAgg3 ?_))))))
 obtain ⟨r113, hr114⟩ : ∃ q, r04_Within l0 (RangeD.mk p1.xLo p1.xHi) p1.xMost = q := ⟨_, rfl⟩
 obtain ⟨D108, HP109, ro110, bk111, rr112⟩ := Own.enter0 H31
 refine cl Try.call47 (r04_Within_ok _ _ A0 l0.length c0 l0 (RangeD.mk p1.xLo p1.xHi) p1.xMost r113 HP109 (rr112 _ 3 _ rfl row_rds) rfl (by omega) hr114) ?_
 rintro _ w115 ⟨A118, c119, rfl, HQ116⟩
 have H117 := bk111 _ _ HQ116
 have hb120 := H117.rowC (i := 0) rfl
 refine Kz (.agg #[.bool false, .string ⟨List.toArray ([])⟩, .slice A118 r113.length c119]) (Az rfl ?_)
 have H121 := H117.pk [2, 0, 1, 3, 4]
 refine sto [.bool false, .string ⟨List.toArray ([])⟩, .slice A118 r113.length c119] 0 H121 Try.sizeOf84 ?_
 intro w122 H123
 refine nt (rt (bR (tR (Fin.res (resN (vs := [.slice A0 l0.length c0, .agg #[.bool false, .string ⟨List.toArray ([])⟩, .slice A118 r113.length c119]]) rfl (ResV.tmp rfl (ResV.cell rfl (Lds.agg (cs := [.bool false, .string ⟨List.toArray ([])⟩, .slice A118 r113.length c119]) Try.isAgg84 Try.sizeOf84 ((H123.cls (i := 0) rfl).lit (k := 0) (m := 3) rfl)) ResV.nil)) (Nat.le_of_ble_eq_true rfl)) ?_))))
 have H124 := H123.pk [4, 1]
 have e : r04_Do l0 p1 = (l0, ResultT.mk false ([]) (Ll.mk r113)) := et (iN h32) (et (iN h50) (et (iN h70) (et (ip h107) (bnd_of hr114))))
 obtain ⟨rfl, rfl⟩ := pj2 (e.symm.trans hr)
 exact ⟨A0, c0, A118, c119, rfl, H124, (by omega)⟩
 refine jF (dF h107) (Wp.skip (bN (Fin.then (Wp.seq ?_))))
 have H125 := H31.pk [0, 1, 3]
 refine Wp.region (Mz rfl (La ([.string ⟨List.toArray p1.xLo⟩, .string ⟨List.toArray p1.xHi⟩]) H125 0 Try.isAgg46 Try.sizeOf46 ?_))
 obtain ⟨r131, hr132⟩ : ∃ q, r04_without l0 (RangeD.mk p1.xLo p1.xHi) = q := ⟨_, rfl⟩
 obtain ⟨D126, HP127, ro128, bk129, rr130⟩ := Own.enter0 H125
 refine cl Try.call46 (r04_without_ok _ _ A0 l0.length c0 l0 (RangeD.mk p1.xLo p1.xHi) r131 HP127 (rr130 _ 2 _ rfl row_rds) rfl (by omega) hr132) ?_
 rintro _ w133 ⟨A136, c137, rfl, HQ134, hk138⟩
 have H135 := bk129 _ _ HQ134
 have hb139 := H135.rowC (i := 0) rfl
 replace hk138 : r131.length ≤ l0.length := hk138
 refine Kz (.agg #[.bool false, .string ⟨List.toArray ([])⟩, .slice none 0 0]) (Az rfl ?_)
 have H140 := H135.pk [2, 0, 1, 3]
 refine sto [.bool false, .string ⟨List.toArray ([])⟩, .slice none 0 0] 0 H140 Try.sizeOf84 ?_
 intro w141 H142
 refine nt (rt (Fin.res (resN (vs := [.slice A136 r131.length c137, .agg #[.bool false, .string ⟨List.toArray ([])⟩, .slice none 0 0]]) rfl (ResV.tmp rfl (ResV.cell rfl (Lds.agg (cs := [.bool false, .string ⟨List.toArray ([])⟩, .slice none 0 0]) Try.isAgg84 Try.sizeOf84 ((H142.cls (i := 0) rfl).lit (k := 0) (m := 3) rfl)) ResV.nil)) (Nat.le_of_ble_eq_true rfl)) ?_))
 have H143 : Own w D w141 [row none 0 0 (List.flatMap PairD.cells ([])) 32 2, blk g24 [.bool false, .string ⟨List.toArray ([])⟩, .slice none 0 0] 84, row A136 r131.length c137 (List.flatMap PairD.cells r131) 32 2, blk g27 [.string ⟨List.toArray p1.xLo⟩, .string ⟨List.toArray p1.xHi⟩] 46, row A0 l0.length c0 (List.flatMap PairD.cells l0) 32 2] := H142.free (row_nil 32 2)
 have H144 := H143.pk [2, 0]
 have e : r04_Do l0 p1 = (r131, ResultT.mk false ([]) (Ll.mk ([]))) := et (iN h32) (et (iN h50) (et (iN h70) (et (iN h107) (bnd_of hr132))))
 obtain ⟨rfl, rfl⟩ := pj2 (e.symm.trans hr)
 exact ⟨A136, c137, none, 0, rfl, H144, (by omega)⟩
def r04_Apply_L0 : List OpD → List PairD → List ResultT → (List PairD) × (List ResultT)
  | [], l52, l55 => (l52, l55)
  | x74 :: q58, l52, l55 => bnd (r04_Do l52 x74) fun yr88 => r04_Apply_L0 q58 yr88.1 (l55 ++ [yr88.2])
def r04_Apply (l0 : List PairD) (l1 : List OpD) : (List PairD) × (List ResultT) × Int :=
 bnd (r04_CheckMap l0) fun yr26 => if yr26 = 0 then bnd (r04_All l1) fun yr37 => if yr37 = 0 then bnd (r04_Apply_L0 l1 l0 ([])) fun sLrbtbtL => (sLrbtbtL.1, sLrbtbtL.2, 0) else ([], [], yr37) else ([], [], yr26)
set_option maxRecDepth 100000 in
theorem r04_Apply_ok (w : World) (D : Nat → Prop) (A0 : Option Addr) (n0 c0 : Nat) (l0 : List PairD) (A1 : Option Addr) (n1 c1 : Nat) (l1 : List OpD) (r0 : List PairD) (r1 : List ResultT) (r2 : Int) (H : Own w D w []) (hx0 : Ro w D fun w' => Rds w' 2 A0 n0 (List.flatMap PairD.cells l0)) (hn0 : n0 = l0.length) (hl0 : l0.length * 32 ≤ 211106232532992) (hx1 : Ro w D fun w' => Rds w' 6 A1 n1 (List.flatMap OpD.cells l1)) (hn1 : n1 = l1.length) (hl1 : l1.length * 80 ≤ 211106232532992) (hh0 : (l0.length + l1.length) * 32 ≤ 211106232532992) (hr : r04_Apply l0 l1 = (r0, r1, r2)) :
    Calls Try.prog 30 #[.slice A0 n0 c0, .slice A1 n1 c1] w (Ret fun v w' => ∃ (B0 : Option Addr) (b0 : Nat) (B1 : Option Addr) (b1 : Nat) (e1 : List ResultD), v = .tuple #[.slice B0 r0.length b0, .slice B1 r1.length b1, .int .i64 r2] ∧ Own w D w' [row B0 r0.length b0 (List.flatMap PairD.cells r0) 32 2, row B1 r1.length b1 (List.flatMap ResultD.cells e1) 84 3, sepL (List.flatMap ResultD.own e1)] ∧ (List.map ResultD.abs e1 = r1) ∧ (r0.length ≤ l0.length + l1.length) ∧ (r1.length ≤ l1.length)) := by
 subst hn0 hn1
 refine Calls.body (args := [.slice A0 l0.length c0, .slice A1 l1.length c1]) Try.func30 rfl rfl rfl ?_
 show Wp _ _ _ [(0, .slice A0 l0.length c0), (1, .slice A1 l1.length c1)] _ _
 refine sr (Az rfl (Az rfl (An rfl (Wp.seq (sr (Mz rfl ?_))))))
 obtain ⟨r26, hr27⟩ : ∃ q, r04_CheckMap l0 = q := ⟨_, rfl⟩
 obtain ⟨D21, HP22, ro23, bk24, rr25⟩ := Own.enter0 H
 refine cl Try.call37 (r04_CheckMap_ok _ _ A0 l0.length c0 l0 r26 HP22 (ro23 _ hx0) rfl (by omega) hr27) ?_
 rintro _ w28 ⟨rfl, HQ29⟩
 have H30 := bk24 _ _ HQ29
 refine Ar rfl (Mz rfl (fw (.bool (decide (¬ (r26 = 0)))) (Yl.bool (e := !(decide (r26 = 0))) yk decide_not.symm) (nt ?_)))
 by_cases h31 : r26 = 0
 refine jF (dF (not_not_intro h31)) (sk (Wp.seq (sr (Mz rfl ?_))))
 obtain ⟨r37, hr38⟩ : ∃ q, r04_All l1 = q := ⟨_, rfl⟩
 obtain ⟨D32, HP33, ro34, bk35, rr36⟩ := Own.enter0 H30
 refine cl Try.call22 (r04_All_ok _ _ A1 l1.length c1 l1 r37 HP33 (ro34 _ hx1) rfl (by omega) hr38) ?_
 rintro _ w39 ⟨rfl, HQ40⟩
 have H41 := bk35 _ _ HQ40
 refine Ar rfl (Mz rfl (fw (.bool (decide (¬ (r37 = 0)))) (Yl.bool (e := !(decide (r37 = 0))) yk decide_not.symm) (nt ?_)))
 by_cases h42 : r37 = 0
 refine jF (dF (not_not_intro h42)) (sk (sr (Mz rfl ?_)))
 have H43 : Own w D w39 [row none 0 0 (List.flatMap PairD.cells ([])) 32 2] := H41.free (row_nil 32 2)
 refine WL.do rfl (Do.appendW (k := 0) (m := l0.length) (El27) H43 rfl rfl (src_of Try.underlying27 (H43.ro hx0) (flat_one PairD.one l0)) rfl (by omega) (s := l0.length) (by omega) rfl ?_)
 intro A44 c45 w46 H47
 refine Ar rfl (An rfl (Wp.seq (sr (Mz rfl (Kz (.int .i64 ((l1.length : Nat) : Int)) (Mn rfl (bo ?_)))))))
 have H48 : Own w D w46 [sepL (List.flatMap ResultD.own ([])), row A44 l0.length c45 (List.flatMap PairD.cells l0) 32 2] := H47.sepNil
 have H49 : Own w D w46 [row none 0 0 (List.flatMap ResultD.cells ([])) 84 3, sepL (List.flatMap ResultD.own ([])), row A44 l0.length c45 (List.flatMap PairD.cells l0) 32 2] := H48.free (row_nil 84 3)
 have H59 := H49.pk [2, 0, 1]
 obtain ⟨I63, hI64⟩ : ∃ q : ((Option Addr) × Nat × (List PairD) × (Option Addr) × Nat × (List ResultD) × (List ResultT) × Nat) → World → Prop, q = fun (i : (Option Addr) × Nat × (List PairD) × (Option Addr) × Nat × (List ResultD) × (List ResultT) × Nat) w' => Own w D w' [row i.1 i.2.2.1.length i.2.1 (List.flatMap PairD.cells i.2.2.1) 32 2, row i.2.2.2.1 i.2.2.2.2.2.2.1.length i.2.2.2.2.1 (List.flatMap ResultD.cells i.2.2.2.2.2.1) 84 3, sepL (List.flatMap ResultD.own i.2.2.2.2.2.1)] ∧ (List.map ResultD.abs i.2.2.2.2.2.1 = i.2.2.2.2.2.2.1 ∧ i.2.2.2.2.2.2.2 ≤ l1.length ∧ i.2.2.1.length ≤ l0.length + i.2.2.2.2.2.2.2 ∧ i.2.2.2.2.2.2.1.length = i.2.2.2.2.2.2.2 ∧ i.2.2.2.2.2.2.1.length ≤ i.2.2.2.2.2.2.2 ∧ r04_Apply_L0 l1 l0 ([]) = r04_Apply_L0 (List.drop i.2.2.2.2.2.2.2 l1) i.2.2.1 i.2.2.2.2.2.2.1) := ⟨_, rfl⟩
 have dm65 : ∀ {A50 : Option Addr} {c51 : Nat} {l52 : List PairD} {A53 : Option Addr} {c54 : Nat} {d56 : List ResultD} {l55 : List ResultT} {k57 : Nat} {w' : World}, I63 (A50, c51, l52, A53, c54, d56, l55, k57) w' ↔ Own w D w' [row A50 l52.length c51 (List.flatMap PairD.cells l52) 32 2, row A53 l55.length c54 (List.flatMap ResultD.cells d56) 84 3, sepL (List.flatMap ResultD.own d56)] ∧ List.map ResultD.abs d56 = l55 ∧ k57 ≤ l1.length ∧ l52.length ≤ l0.length + k57 ∧ l55.length = k57 ∧ l55.length ≤ k57 ∧ r04_Apply_L0 l1 l0 ([]) = r04_Apply_L0 (List.drop k57 l1) l52 l55 := by intros; subst hI64; exact Iff.rfl
 refine Wp.loop (fun i : (Option Addr) × Nat × (List PairD) × (Option Addr) × Nat × (List ResultD) × (List ResultT) × Nat => [(0, .slice i.1 i.2.2.1.length i.2.1), (9, .slice i.2.2.2.1 i.2.2.2.2.2.2.1.length i.2.2.2.2.1), (28, .int .i64 ((i.2.2.2.2.2.2.2 : Nat) : Int)), (27, .int .i64 ((l1.length : Nat) : Int)), (26, .slice A1 l1.length c1), (6, .int .i64 0), (5, .slice none 0 0), (4, .slice none 0 0)]) I63 (fun i => l1.length - i.2.2.2.2.2.2.2) (A44, c45, l0, none, 0, [], [], 0) ⟨rfl, rfl, rfl, rfl, rfl, rfl, rfl, rfl, trivial⟩ (dm65.2 ⟨H59, (show List.map ResultD.abs ([]) = ([]) ∧ 0 ≤ l1.length ∧ l0.length ≤ l0.length ∧ 0 = 0 ∧ 0 ≤ 0 ∧ r04_Apply_L0 l1 l0 ([]) = r04_Apply_L0 (List.drop 0 l1) l0 ([]) from ⟨by exact rfl, by omega, by omega, by omega, by omega, rfl⟩)⟩) ?_
 rintro ⟨A50, c51, l52, A53, c54, d56, l55, k57⟩ w60 hf62
 show Wp _ _ _ [(0, .slice A50 l52.length c51), (9, .slice A53 l55.length c54), (28, .int .i64 ((k57 : Nat) : Int)), (27, .int .i64 ((l1.length : Nat) : Int)), (26, .slice A1 l1.length c1), (6, .int .i64 0), (5, .slice none 0 0), (4, .slice none 0 0)] _ _
 obtain ⟨H61, hi67, hi68, hi69, hi70, hi71, hq66⟩ := dm65.1 hf62
 have hl72 := abs_len hi67
 refine sr (Kz (.bool (decide (((k57 : Nat) : Int) < ((l1.length : Nat) : Int)))) (nt (Wp.seq ?_)))
 by_cases h73 : ((k57 : Nat) : Int) < ((l1.length : Nat) : Int)
 obtain ⟨x74, hx75⟩ := rds_at (ls := l1) (i := k57) OpD.len (by decide) (H61.ro hx1) (by first | omega | (simp; done) | (simp; omega))
 have hd76 := drop_at hx75
 refine jT (dT h73) (sk (Wp.seq (bo (sr (fw (.pointer (some ⟨ab A1, ao A1 + k57 * 6, none⟩)) (Yl.indexAddr (El36) rfl rfl ((H61.ro hx1).addr (i := k57) (by omega)) (by omega)) (fw (.agg (OpD.cells x74).toArray) (Yl.load rfl (Lds.agg (cs := (OpD.cells x74)) Try.isAgg53 Try.sizeOf53 ((H61.ro hx1).elem OpD.len hx75 (by decide)))) ?_))))))
 refine npw [.int .i64 0, .string ⟨List.toArray ([])⟩, .string ⟨List.toArray ([])⟩, .string ⟨List.toArray ([])⟩, .string ⟨List.toArray ([])⟩, .int .i64 0] 53 H61 ?_
 intro g77 w78 H79
 refine sto (OpD.cells x74) 0 H79 Try.sizeOf53 ?_
 intro w80 H81
 refine ns (Mz rfl (La (OpD.cells x74) H81 0 Try.isAgg53 Try.sizeOf53 ?_))
 have H82 := H81.pk [1, 0, 2, 3]
 obtain ⟨⟨r88, r89⟩, hr90⟩ : ∃ q : (List PairD) × ResultT, r04_Do l52 x74 = q := ⟨_, rfl⟩
 obtain ⟨D83, HP84, ro85, bk86, rr87⟩ := Own.enter1 H82
 refine cl Try.call38 (r04_Do_ok _ _ A50 l52.length c51 l52 x74 r88 r89 HP84 rfl (by omega) (by omega) hr90) ?_
 rintro _ w91 ⟨A94, c95, A96, c97, rfl, HQ92, hk98⟩
 have H93 := bk86 _ _ HQ92
 have hb99 := H93.rowC (i := 0) rfl
 have hb100 := H93.rowC (i := 1) rfl
 replace hk98 : r88.length ≤ l52.length + 1 := hk98
 refine Mz rfl (Kz (.slice A94 r88.length c95) (Kz (.agg #[.bool r89.xFound, .string ⟨List.toArray r89.xValue⟩, .slice A96 r89.xPairs.ls.length c97]) ?_))
 refine npw [.bool false, .string ⟨List.toArray ([])⟩, .slice none 0 0] 84 H93 ?_
 intro g101 w102 H103
 refine Az rfl ?_
 refine sto [.bool r89.xFound, .string ⟨List.toArray r89.xValue⟩, .slice A96 r89.xPairs.ls.length c97] 0 H103 Try.sizeOf84 ?_
 intro w104 H105
 refine ns (Mz rfl (An rfl (Wp.region (Mz rfl (La ([.bool r89.xFound, .string ⟨List.toArray r89.xValue⟩, .slice A96 r89.xPairs.ls.length c97]) H105 0 Try.isAgg84 Try.sizeOf84 ?_)))))
 refine nrw [.bool r89.xFound, .string ⟨List.toArray r89.xValue⟩, .slice A96 r89.xPairs.ls.length c97] 84 3 1 H105 ?_
 intro A106 w107 H108
 replace H108 := Own.reh (y := row A106 1 1 (List.flatMap ResultD.cells ([(ResultD.mk r89.xFound r89.xValue (Sv.mk A96 c97 r89.xPairs.ls))])) 84 3) rfl H108
 have H109 := H108.pk [5, 6, 3, 0, 1, 2, 4]
 refine WL.do rfl (Do.appendW (k := l55.length) (m := 1) (El37) H109 rfl rfl (src_of Try.underlying37 (H109.rds (i := 3) rfl) (flat_one ResultD.one ([(ResultD.mk r89.xFound r89.xValue (Sv.mk A96 c97 r89.xPairs.ls))]))) rfl (by omega) (s := List.length (l55 ++ [r89])) (by first | omega | (simp only [List.length_append, List.length_cons, List.length_nil] <;> omega)) (List.flatMap_append).symm ?_)
 intro A110 c111 w112 H113
 have H114 := H113.pk [1, 2, 0, 3, 4, 5, 6]
 have H115 : Own w D w112 [sepL (List.flatMap ResultD.own (d56 ++ [(ResultD.mk r89.xFound r89.xValue (Sv.mk A96 c97 r89.xPairs.ls))])), row A110 (List.length (l55 ++ [r89])) c111 (List.flatMap ResultD.cells (d56 ++ [(ResultD.mk r89.xFound r89.xValue (Sv.mk A96 c97 r89.xPairs.ls))])) 84 3, row A106 1 1 (List.flatMap ResultD.cells ([(ResultD.mk r89.xFound r89.xValue (Sv.mk A96 c97 r89.xPairs.ls))])) 84 3, blk g101 [.bool r89.xFound, .string ⟨List.toArray r89.xValue⟩, .slice A96 r89.xPairs.ls.length c97] 84, row A94 r88.length c95 (List.flatMap PairD.cells r88) 32 2, blk g77 (OpD.cells x74) 53] := H114.sepAdd (L2 := [row A96 r89.xPairs.ls.length c97 (List.flatMap PairD.cells r89.xPairs.ls) 32 2]) (List.flatMap_append (f := ResultD.own) (xs := d56) (ys := [(ResultD.mk r89.xFound r89.xValue (Sv.mk A96 c97 r89.xPairs.ls))])).symm
 have hl116 : List.length (l55 ++ [r89]) = l55.length + 1 := by simp only [List.length_append, List.length_cons, List.length_nil]
 have hl117 := abs_len (abs_app (es := [(ResultD.mk r89.xFound r89.xValue (Sv.mk A96 c97 r89.xPairs.ls))]) (ms := [r89]) hi67 rfl)
 refine Az rfl (WL.nil (bN (Fin.then (Wp.region (fw (.int .i64 ((k57 + 1 : Nat) : Int)) (Yl.int (e := IntKind.i64.wrap (((k57 : Nat) : Int) + 1)) yk (by rw [IntWalk.i64_in _ (by omega)]; omega)) (Mz rfl (WL.nil ?_)))))))
 have H118 := H115.pk [4, 1, 0]
 exact Fin.round (A94, c95, r88, A110, c111, (d56 ++ [(ResultD.mk r89.xFound r89.xValue (Sv.mk A96 c97 r89.xPairs.ls))]), (l55 ++ [r89]), k57 + 1) ⟨rfl, rfl, rfl, rfl, rfl, rfl, rfl, rfl, trivial⟩ (dm65.2 ⟨H118, by exact (abs_app (es := [(ResultD.mk r89.xFound r89.xValue (Sv.mk A96 c97 r89.xPairs.ls))]) (ms := [r89]) hi67 rfl), by omega, by omega, by omega, by omega, et (hq66) (et (congrArg (fun q => r04_Apply_L0 q l52 l55) hd76) (bnd_of hr90))⟩) (by show l1.length - (k57 + 1) < l1.length - k57; omega)
 refine jF (dF h73) (Wp.exit (Fin.thenX ?_))
 have hL119 : r04_Apply_L0 l1 l0 ([]) = (l52, l55) := et (hq66) (et (congrArg (fun q => r04_Apply_L0 q l52 l55) (drop_end (ls := l1) (i := k57) (by omega))) rfl)
 refine Fin.thenX (Fin.blockX (Fin.then (sr (Mz rfl (Mz rfl (Az rfl (Az rfl (An rfl (rt (Fin.res (res3 rfl rfl rfl rfl) ?_))))))))))
 have H120 := H61.pk [0, 1, 2]
 have e : r04_Apply l0 l1 = (l52, l55, 0) := et (bnd_of hr27) (et (ip h31) (et (bnd_of hr38) (et (ip h42) (bnd_of hL119))))
 obtain ⟨rfl, rfl, rfl⟩ := pj3 (e.symm.trans hr)
 exact ⟨A50, c51, A53, c54, d56, rfl, H120, hi67, (by first | omega | exact Nat.zero_le _), (by first | omega | exact Nat.zero_le _)⟩
 refine jT (dT h42) (sr (Mz rfl (Az rfl (Az rfl (An rfl (rt (tR (Fin.res (res3 rfl rfl rfl rfl) ?_))))))))
 have H121 : Own w D w39 [row none 0 0 (List.flatMap PairD.cells ([])) 32 2] := H41.free (row_nil 32 2)
 have H122 : Own w D w39 [sepL (List.flatMap ResultD.own ([])), row none 0 0 (List.flatMap PairD.cells ([])) 32 2] := H121.sepNil
 have H123 : Own w D w39 [row none 0 0 (List.flatMap ResultD.cells ([])) 84 3, sepL (List.flatMap ResultD.own ([])), row none 0 0 (List.flatMap PairD.cells ([])) 32 2] := H122.free (row_nil 84 3)
 have H124 := H123.pk [2, 0, 1]
 have e : r04_Apply l0 l1 = ([], [], r37) := et (bnd_of hr27) (et (ip h31) (et (bnd_of hr38) (iN h42)))
 obtain ⟨rfl, rfl, rfl⟩ := pj3 (e.symm.trans hr)
 exact ⟨none, 0, none, 0, [], rfl, H124, rfl, (by first | omega | exact Nat.zero_le _), (by first | omega | exact Nat.zero_le _)⟩
 refine jT (dT h31) (sr (Mz rfl (Az rfl (Az rfl (An rfl (rt (tR (Fin.res (res3 rfl rfl rfl rfl) ?_))))))))
 have H125 : Own w D w28 [row none 0 0 (List.flatMap PairD.cells ([])) 32 2] := H30.free (row_nil 32 2)
 have H126 : Own w D w28 [sepL (List.flatMap ResultD.own ([])), row none 0 0 (List.flatMap PairD.cells ([])) 32 2] := H125.sepNil
 have H127 : Own w D w28 [row none 0 0 (List.flatMap ResultD.cells ([])) 84 3, sepL (List.flatMap ResultD.own ([])), row none 0 0 (List.flatMap PairD.cells ([])) 32 2] := H126.free (row_nil 84 3)
 have H128 := H127.pk [2, 0, 1]
 have e : r04_Apply l0 l1 = ([], [], r26) := et (bnd_of hr27) (iN h31)
 obtain ⟨rfl, rfl, rfl⟩ := pj3 (e.symm.trans hr)
 exact ⟨none, 0, none, 0, [], rfl, H128, rfl, (by first | omega | exact Nat.zero_le _), (by first | omega | exact Nat.zero_le _)⟩
def r04_SameResults_L0 (l1 : List ResultT) : List ResultT → Nat → Unit ⊕ Bool
  | [], k22 => Sum.inl ()
  | x34 :: q23, k22 => bnd (List.getD l1 k22 default) fun yx41 => if x34.xFound = yx41.xFound then if x34.xValue ≠ yx41.xValue then Sum.inr (false) else bnd (r04_SameMap x34.xPairs.ls yx41.xPairs.ls) fun yr53 => if yr53 = true then r04_SameResults_L0 l1 q23 (k22 + 1) else Sum.inr (false) else Sum.inr (false)
def r04_SameResults (l0 : List ResultT) (l1 : List ResultT) : Bool :=
 if ((l0.length : Nat) : Int) = ((l1.length : Nat) : Int) then lp (r04_SameResults_L0 l1 l0 0) fun _ => true else false
set_option maxRecDepth 100000 in
theorem r04_SameResults_ok (w : World) (D : Nat → Prop) (A0 : Option Addr) (n0 c0 : Nat) (d0 : List ResultD) (l0 : List ResultT) (A1 : Option Addr) (n1 c1 : Nat) (d1 : List ResultD) (l1 : List ResultT) (r0 : Bool) (H : Own w D w []) (hd0 : List.map ResultD.abs d0 = l0) (hx0 : Ro w D fun w' => Rds w' 3 A0 n0 (List.flatMap ResultD.cells d0)) (hm0 : ∀ x ∈ d0, Ro w D (fun w' => Rds w' 2 x.xPairs.A x.xPairs.ls.length (List.flatMap PairD.cells x.xPairs.ls)) ∧ (x.xPairs.ls.length ≤ x.xPairs.c ∧ x.xPairs.ls.length ≤ 9223372036854775807)) (hn0 : n0 = l0.length) (hl0 : l0.length ≤ 9223372036854775807) (hd1 : List.map ResultD.abs d1 = l1) (hx1 : Ro w D fun w' => Rds w' 3 A1 n1 (List.flatMap ResultD.cells d1)) (hm1 : ∀ x ∈ d1, Ro w D (fun w' => Rds w' 2 x.xPairs.A x.xPairs.ls.length (List.flatMap PairD.cells x.xPairs.ls)) ∧ (x.xPairs.ls.length ≤ x.xPairs.c ∧ x.xPairs.ls.length ≤ 9223372036854775807)) (hn1 : n1 = l1.length) (hl1 : l1.length ≤ 9223372036854775807) (hr : r04_SameResults l0 l1 = r0) :
    Calls Try.prog 29 #[.slice A0 n0 c0, .slice A1 n1 c1] w (Ret fun v w' => v = .bool r0 ∧ Own w D w' []) := by
 subst hn0 hn1
 have hdl0 := abs_len hd0
 have hdl1 := abs_len hd1
 refine Calls.body (args := [.slice A0 l0.length c0, .slice A1 l1.length c1]) Try.func29 rfl rfl rfl ?_
 show Wp _ _ _ [(0, .slice A0 l0.length c0), (1, .slice A1 l1.length c1)] _ _
 refine sr (An rfl (Wp.seq (sr (Mz rfl (Kz (.int .i64 ((l0.length : Nat) : Int)) (Mz rfl (Kz (.int .i64 ((l1.length : Nat) : Int)) (fw (.bool (decide (¬ (((l0.length : Nat) : Int) = ((l1.length : Nat) : Int))))) (Yl.bool (e := !(decide (((l0.length : Nat) : Int) = ((l1.length : Nat) : Int)))) yk decide_not.symm) (nt ?_)))))))))
 by_cases h21 : ((l0.length : Nat) : Int) = ((l1.length : Nat) : Int)
 refine jF (dF (not_not_intro h21)) (sk (Wp.seq (sr (Mz rfl (Kz (.int .i64 ((l0.length : Nat) : Int)) (Mn rfl (bo ?_)))))))
 have H24 : Own w D w [] := H.pk []
 obtain ⟨I28, hI29⟩ : ∃ q : Nat → World → Prop, q = fun (i : Nat) w' => Own w D w' [] ∧ (i ≤ l0.length ∧ r04_SameResults_L0 l1 l0 0 = r04_SameResults_L0 l1 (List.drop i l0) i) := ⟨_, rfl⟩
 have dm30 : ∀ {k22 : Nat} {w' : World}, I28 k22 w' ↔ Own w D w' [] ∧ k22 ≤ l0.length ∧ r04_SameResults_L0 l1 l0 0 = r04_SameResults_L0 l1 (List.drop k22 l0) k22 := by intros; subst hI29; exact Iff.rfl
 refine Wp.loop (fun i : Nat => [(4, .bool false), (13, .int .i64 ((i : Nat) : Int)), (12, .int .i64 ((l0.length : Nat) : Int)), (0, .slice A0 l0.length c0), (1, .slice A1 l1.length c1)]) I28 (fun i => l0.length - i) 0 ⟨rfl, rfl, rfl, rfl, rfl, trivial⟩ (dm30.2 ⟨H24, by omega, rfl⟩) ?_
 rintro k22 w25 hf27
 show Wp _ _ _ [(4, .bool false), (13, .int .i64 ((k22 : Nat) : Int)), (12, .int .i64 ((l0.length : Nat) : Int)), (0, .slice A0 l0.length c0), (1, .slice A1 l1.length c1)] _ _
 obtain ⟨H26, hi32, hq31⟩ := dm30.1 hf27
 refine sr (Kz (.bool (decide (((k22 : Nat) : Int) < ((l0.length : Nat) : Int)))) (nt (Wp.seq ?_)))
 by_cases h33 : ((k22 : Nat) : Int) < ((l0.length : Nat) : Int)
 obtain ⟨x34, hx35⟩ := rds_at (ls := d0) (i := k22) ResultD.len (by decide) (H26.ro hx0) (by first | omega | (simp; done) | (simp; omega))
 have hX36 := abs_at hd0 hx35
 have hb37 := (hm0 _ (List.mem_of_getElem? hx35)).2
 have hd38 := drop_at hX36
 refine jT (dT h33) (sk (Wp.seq (bo (sr (Mz rfl (An rfl (Wp.seq ?_)))))))
 have H40 := H26.drew
 refine Wp.drawnX [] (fun W => ∃ L', Own w D W ([] ++ L')) (by kernel_rfl) (by kernel_rfl) (NoP.then (NoP.block (NoP.then (NoP.then (NoP.block (NoP.then NoP.base)))))) ⟨_, H40⟩ ?_
 revert H40
 generalize World.drew w25 = w39
 intro H40
 refine GX.take (v := .slice A0 l0.length c0) (rs := []) 0 rfl (by kernel_rfl) (fun _ _ => Yl.move rfl) (GX.take (v := .int .i64 ((k22 : Nat) : Int)) (rs := []) 1 rfl (by kernel_rfl) (fun _ _ => Yl.move rfl) (GX.take (v := .pointer (some ⟨ab A0, ao A0 + k22 * 3, none⟩)) (rs := []) 2 rfl (by kernel_rfl) (fun _ ⟨_, H9⟩ => Yl.indexAddr (El37) rfl rfl ((H9.ro hx0).addr (i := k22) (by omega)) (by omega)) (GX.take (v := .pointer (some ⟨ab A0, ao A0 + k22 * 3, none⟩)) (rs := []) 3 rfl (by kernel_rfl) (fun _ _ => yk) (GX.take (v := .bool x34.xFound) (rs := []) 4 rfl (by kernel_rfl) (fun _ ⟨_, H9⟩ => Yl.load rfl (Lds.one Try.isAgg4 (((H9.ro hx0).elem ResultD.len hx35 (by decide)).at_ (k := 0) rfl))) (GX.take (v := .slice A1 l1.length c1) (rs := []) 5 rfl (by kernel_rfl) (fun _ _ => Yl.move rfl) (GX.take (v := .int .i64 ((k22 : Nat) : Int)) (rs := []) 6 rfl (by kernel_rfl) (fun _ _ => Yl.move rfl) ?_))))))
 obtain ⟨x41, hx42⟩ := at_of (ls := d1) (i := k22) (by first | omega | (simp; done) | (simp; omega))
 have hX43 := abs_at hd1 hx42
 have hb44 := (hm1 _ (List.mem_of_getElem? hx42)).2
 refine GX.take (v := .pointer (some ⟨ab A1, ao A1 + k22 * 3, none⟩)) (rs := []) 7 rfl (by kernel_rfl) (fun _ ⟨_, H9⟩ => Yl.indexAddr (El37) rfl rfl ((H9.ro hx1).addr (i := k22) (by omega)) (by omega)) (GX.take (v := .pointer (some ⟨ab A1, ao A1 + k22 * 3, none⟩)) (rs := []) 8 rfl (by kernel_rfl) (fun _ _ => yk) (GX.take (v := .bool x41.xFound) (rs := []) 9 rfl (by kernel_rfl) (fun _ ⟨_, H9⟩ => Yl.load rfl (Lds.one Try.isAgg4 (((H9.ro hx1).elem ResultD.len hx42 (by decide)).at_ (k := 0) rfl))) (GX.take (v := .bool (decide (¬ (x34.xFound = x41.xFound)))) (rs := []) 10 rfl (by kernel_rfl) (fun _ _ => Yl.bool (e := !(x34.xFound == x41.xFound)) yk (by first | (rw [Bool.beq_eq_decide_eq]; exact decide_not.symm) | (by_cases q : x34.xFound = x41.xFound <;> simp [q]))) (GX.take (v := .bool (decide (¬ (x34.xFound = x41.xFound)))) (rs := []) 11 rfl (by kernel_rfl) (fun _ _ => Yl.move rfl) ?_))))
 by_cases h45 : x34.xFound = x41.xFound
 refine GX.takeG (v := .slice A0 l0.length c0) (rs := []) 12 rfl rfl rfl (dF (not_not_intro h45)) (by kernel_rfl) (fun _ _ => Yl.move rfl) (GX.takeG (v := .int .i64 ((k22 : Nat) : Int)) (rs := []) 13 rfl rfl rfl (dF (not_not_intro h45)) (by kernel_rfl) (fun _ _ => Yl.move rfl) (GX.takeG (v := .pointer (some ⟨ab A0, ao A0 + k22 * 3, none⟩)) (rs := []) 14 rfl rfl rfl (dF (not_not_intro h45)) (by kernel_rfl) (fun _ ⟨_, H9⟩ => Yl.indexAddr (El37) rfl rfl ((H9.ro hx0).addr (i := k22) (by omega)) (by omega)) (GX.takeG (v := .pointer (some ⟨ab A0, ao A0 + k22 * 3 + 1, none⟩)) (rs := []) 15 rfl rfl rfl (dF (not_not_intro h45)) (by kernel_rfl) (fun _ _ => yk) (GX.takeG (v := .string ⟨List.toArray x34.xValue⟩) (rs := []) 16 rfl rfl rfl (dF (not_not_intro h45)) (by kernel_rfl) (fun _ ⟨_, H9⟩ => Yl.load rfl (Lds.one Try.isAgg9 (((H9.ro hx0).elem ResultD.len hx35 (by decide)).at_ (k := 1) rfl))) (GX.takeG (v := .slice A1 l1.length c1) (rs := []) 17 rfl rfl rfl (dF (not_not_intro h45)) (by kernel_rfl) (fun _ _ => Yl.move rfl) (GX.takeG (v := .int .i64 ((k22 : Nat) : Int)) (rs := []) 18 rfl rfl rfl (dF (not_not_intro h45)) (by kernel_rfl) (fun _ _ => Yl.move rfl) (GX.takeG (v := .pointer (some ⟨ab A1, ao A1 + k22 * 3, none⟩)) (rs := []) 19 rfl rfl rfl (dF (not_not_intro h45)) (by kernel_rfl) (fun _ ⟨_, H9⟩ => Yl.indexAddr (El37) rfl rfl ((H9.ro hx1).addr (i := k22) (by omega)) (by omega)) (GX.takeG (v := .pointer (some ⟨ab A1, ao A1 + k22 * 3 + 1, none⟩)) (rs := []) 20 rfl rfl rfl (dF (not_not_intro h45)) (by kernel_rfl) (fun _ _ => yk) (GX.takeG (v := .string ⟨List.toArray x41.xValue⟩) (rs := []) 21 rfl rfl rfl (dF (not_not_intro h45)) (by kernel_rfl) (fun _ ⟨_, H9⟩ => Yl.load rfl (Lds.one Try.isAgg9 (((H9.ro hx1).elem ResultD.len hx42 (by decide)).at_ (k := 1) rfl))) (GX.takeG (v := .bool (decide (x34.xValue ≠ x41.xValue))) (rs := []) 22 rfl rfl rfl (dF (not_not_intro h45)) (by kernel_rfl) (fun _ _ => Yl.strNe rfl rfl) (GX.take (v := .bool (decide (x34.xValue ≠ x41.xValue))) (rs := []) 23 rfl (by kernel_rfl) (fun _ _ => Yl.pickF rfl (dF (not_not_intro h45)) rfl) (GX.take (v := .bool (decide (x34.xValue ≠ x41.xValue))) (rs := []) 24 rfl (by kernel_rfl) (fun _ _ => Yl.move rfl) ?_))))))))))))
 by_cases h46 : x34.xValue ≠ x41.xValue
 refine GX.skipG (rs := []) 25 rfl rfl rfl (dT h46) (by kernel_rfl) (GX.skipG (rs := []) 26 rfl rfl rfl (dT h46) (by kernel_rfl) (GX.skipG (rs := []) 27 rfl rfl rfl (dT h46) (by kernel_rfl) (GX.skipG (rs := []) 28 rfl rfl rfl (dT h46) (by kernel_rfl) (GX.skipG (rs := []) 29 rfl rfl rfl (dT h46) (by kernel_rfl) (GX.skipG (rs := []) 30 rfl rfl rfl (dT h46) (by kernel_rfl) (GX.skipG (rs := []) 31 rfl rfl rfl (dT h46) (by kernel_rfl) (GX.skipG (rs := []) 32 rfl rfl rfl (dT h46) (by kernel_rfl) (GX.skipG (rs := []) 33 rfl rfl rfl (dT h46) (by kernel_rfl) (GX.skipG (rs := []) 34 rfl rfl rfl (dT h46) (by kernel_rfl) (GX.skipG (rs := []) 35 rfl rfl rfl (dT h46) (by kernel_rfl) (GX.skipG (rs := []) 36 rfl rfl rfl (dT h46) (by kernel_rfl) (GX.take (v := .bool true) (rs := []) 37 rfl (by kernel_rfl) (fun _ _ => Yl.pickT rfl (dT h46) rfl) (GX.done (by kernel_rfl) (Fin.then (jt (sr (An rfl (rt (bR (tR (tR (bR (tR (rs ?_))))))))))))))))))))))))
 have H47 := H40.pk []
 obtain rfl : _ = false := hr.symm.trans (et (ip h21) (lp_r (et (hq31) (et (congrArg (fun q => r04_SameResults_L0 l1 q k22) hd38) (et (bnd_of (getD_of hX43)) (et (ip h45) (ip h46)))))))
 exact ⟨rfl, H47⟩
 refine GX.takeG (v := .slice A0 l0.length c0) (rs := []) 25 rfl rfl rfl (dF h46) (by kernel_rfl) (fun _ _ => Yl.move rfl) (GX.takeG (v := .int .i64 ((k22 : Nat) : Int)) (rs := []) 26 rfl rfl rfl (dF h46) (by kernel_rfl) (fun _ _ => Yl.move rfl) (GX.takeG (v := .pointer (some ⟨ab A0, ao A0 + k22 * 3, none⟩)) (rs := []) 27 rfl rfl rfl (dF h46) (by kernel_rfl) (fun _ ⟨_, H9⟩ => Yl.indexAddr (El37) rfl rfl ((H9.ro hx0).addr (i := k22) (by omega)) (by omega)) (GX.takeG (v := .pointer (some ⟨ab A0, ao A0 + k22 * 3 + 2, none⟩)) (rs := []) 28 rfl rfl rfl (dF h46) (by kernel_rfl) (fun _ _ => yk) (GX.takeG (v := .slice x34.xPairs.A x34.xPairs.ls.length x34.xPairs.c) (rs := []) 29 rfl rfl rfl (dF h46) (by kernel_rfl) (fun _ ⟨_, H9⟩ => Yl.load rfl (Lds.one Try.isAgg27 (((H9.ro hx0).elem ResultD.len hx35 (by decide)).at_ (k := 2) rfl))) (GX.takeG (v := .slice A1 l1.length c1) (rs := []) 30 rfl rfl rfl (dF h46) (by kernel_rfl) (fun _ _ => Yl.move rfl) (GX.takeG (v := .int .i64 ((k22 : Nat) : Int)) (rs := []) 31 rfl rfl rfl (dF h46) (by kernel_rfl) (fun _ _ => Yl.move rfl) (GX.takeG (v := .pointer (some ⟨ab A1, ao A1 + k22 * 3, none⟩)) (rs := []) 32 rfl rfl rfl (dF h46) (by kernel_rfl) (fun _ ⟨_, H9⟩ => Yl.indexAddr (El37) rfl rfl ((H9.ro hx1).addr (i := k22) (by omega)) (by omega)) (GX.takeG (v := .pointer (some ⟨ab A1, ao A1 + k22 * 3 + 2, none⟩)) (rs := []) 33 rfl rfl rfl (dF h46) (by kernel_rfl) (fun _ _ => yk) (GX.takeG (v := .slice x41.xPairs.A x41.xPairs.ls.length x41.xPairs.c) (rs := []) 34 rfl rfl rfl (dF h46) (by kernel_rfl) (fun _ ⟨_, H9⟩ => Yl.load rfl (Lds.one Try.isAgg27 (((H9.ro hx1).elem ResultD.len hx42 (by decide)).at_ (k := 2) rfl))) ?_)))))))))
 obtain ⟨r53, hr54⟩ : ∃ q, r04_SameMap x34.xPairs.ls x41.xPairs.ls = q := ⟨_, rfl⟩
 obtain ⟨D48, HP49, ro50, bk51, rr52⟩ := Own.enter0 H40
 refine GX.doG 35 rfl rfl rfl (dF h46) (by kernel_rfl) (Do.call Try.call13 rfl (r04_SameMap_ok _ _ x34.xPairs.A x34.xPairs.ls.length x34.xPairs.c x34.xPairs.ls x41.xPairs.A x41.xPairs.ls.length x41.xPairs.c x41.xPairs.ls r53 HP49 (ro50 _ (hm0 _ (List.mem_of_getElem? hx35)).1) rfl (by omega) (ro50 _ (hm1 _ (List.mem_of_getElem? hx42)).1) rfl (by omega) hr54) ?_)
 rintro _ w55 ⟨rfl, HQ56⟩
 have H57 := bk51 _ _ HQ56
 refine ⟨.inr ⟨_, H57⟩, ?_⟩
 refine GX.takeG (v := .bool (!r53)) (rs := []) 36 rfl rfl rfl (dF h46) (by kernel_rfl) (fun _ _ => yk) (GX.take (v := .bool (!r53)) (rs := []) 37 rfl (by kernel_rfl) (fun _ _ => Yl.pickF rfl (dF h46) rfl) (GX.done (by kernel_rfl) (Fin.then ?_)))
 rcases Bool.eq_false_or_eq_true (r53) with h58 | h58
 refine jF (cn h58) (Wp.skip (bN (Fin.then (Wp.region (fw (.int .i64 ((k22 + 1 : Nat) : Int)) (Yl.int (e := IntKind.i64.wrap (((k22 : Nat) : Int) + 1)) yk (by rw [IntWalk.i64_in _ (by omega)]; omega)) (Mz rfl (WL.nil ?_)))))))
 have H59 := H57.pk []
 exact Fin.round (k22 + 1) ⟨rfl, rfl, rfl, rfl, rfl, trivial⟩ (dm30.2 ⟨H59, by omega, et (hq31) (et (congrArg (fun q => r04_SameResults_L0 l1 q k22) hd38) (et (bnd_of (getD_of hX43)) (et (ip h45) (et (iN h46) (et (bnd_of hr54) (ip h58))))))⟩) (by show l0.length - (k22 + 1) < l0.length - k22; omega)
 refine jT (cn h58) (sr (An rfl (rt (bR (tR (tR (bR (tR (rs ?_)))))))))
 have H60 := H57.pk []
 obtain rfl : _ = false := hr.symm.trans (et (ip h21) (lp_r (et (hq31) (et (congrArg (fun q => r04_SameResults_L0 l1 q k22) hd38) (et (bnd_of (getD_of hX43)) (et (ip h45) (et (iN h46) (et (bnd_of hr54) (ifF h58)))))))))
 exact ⟨rfl, H60⟩
 refine GX.skipG (rs := []) 12 rfl rfl rfl (dT h45) (by kernel_rfl) (GX.skipG (rs := []) 13 rfl rfl rfl (dT h45) (by kernel_rfl) (GX.skipG (rs := []) 14 rfl rfl rfl (dT h45) (by kernel_rfl) (GX.skipG (rs := []) 15 rfl rfl rfl (dT h45) (by kernel_rfl) (GX.skipG (rs := []) 16 rfl rfl rfl (dT h45) (by kernel_rfl) (GX.skipG (rs := []) 17 rfl rfl rfl (dT h45) (by kernel_rfl) (GX.skipG (rs := []) 18 rfl rfl rfl (dT h45) (by kernel_rfl) (GX.skipG (rs := []) 19 rfl rfl rfl (dT h45) (by kernel_rfl) (GX.skipG (rs := []) 20 rfl rfl rfl (dT h45) (by kernel_rfl) (GX.skipG (rs := []) 21 rfl rfl rfl (dT h45) (by kernel_rfl) (GX.skipG (rs := []) 22 rfl rfl rfl (dT h45) (by kernel_rfl) (GX.take (v := .bool true) (rs := []) 23 rfl (by kernel_rfl) (fun _ _ => Yl.pickT rfl (dT h45) rfl) (GX.take (v := .bool true) (rs := []) 24 rfl (by kernel_rfl) (fun _ _ => Yl.move rfl) (GX.skipG (rs := []) 25 rfl rfl rfl rfl (by kernel_rfl) (GX.skipG (rs := []) 26 rfl rfl rfl rfl (by kernel_rfl) (GX.skipG (rs := []) 27 rfl rfl rfl rfl (by kernel_rfl) (GX.skipG (rs := []) 28 rfl rfl rfl rfl (by kernel_rfl) (GX.skipG (rs := []) 29 rfl rfl rfl rfl (by kernel_rfl) (GX.skipG (rs := []) 30 rfl rfl rfl rfl (by kernel_rfl) (GX.skipG (rs := []) 31 rfl rfl rfl rfl (by kernel_rfl) (GX.skipG (rs := []) 32 rfl rfl rfl rfl (by kernel_rfl) (GX.skipG (rs := []) 33 rfl rfl rfl rfl (by kernel_rfl) (GX.skipG (rs := []) 34 rfl rfl rfl rfl (by kernel_rfl) (GX.skipG (rs := []) 35 rfl rfl rfl rfl (by kernel_rfl) (GX.skipG (rs := []) 36 rfl rfl rfl rfl (by kernel_rfl) (GX.take (v := .bool true) (rs := []) 37 rfl (by kernel_rfl) (fun _ _ => Yl.pickT rfl rfl rfl) (GX.done (by kernel_rfl) (Fin.then (jt (sr (An rfl (rt (bR (tR (tR (bR (tR ?_))))))))))))))))))))))))))))))))))))
 refine rs ?_
 have H61 := H40.pk []
 obtain rfl : _ = false := hr.symm.trans (et (ip h21) (lp_r (et (hq31) (et (congrArg (fun q => r04_SameResults_L0 l1 q k22) hd38) (et (bnd_of (getD_of hX43)) (iN h45))))))
 exact ⟨rfl, H61⟩
 refine jF (dF h33) (Wp.exit (Fin.thenX ?_))
 have hL62 : r04_SameResults_L0 l1 l0 0 = Sum.inl () := et (hq31) (et (congrArg (fun q => r04_SameResults_L0 l1 q k22) (drop_end (ls := l0) (i := k22) (by omega))) rfl)
 refine Fin.thenX (Fin.blockX (Fin.then (sr (An rfl (rt (rs ?_))))))
 have H63 := H26.pk []
 obtain rfl : _ = true := hr.symm.trans (et (ip h21) (lp_l hL62))
 exact ⟨rfl, H63⟩
 refine jT (dT h21) (sr (An rfl (rt (tR (rs ?_)))))
 have H64 : Own w D w [] := H.pk []
 obtain rfl : _ = false := hr.symm.trans (iN h21)
 exact ⟨rfl, H64⟩
end Go.Proofs.Ytjcdgofegkngpaa
