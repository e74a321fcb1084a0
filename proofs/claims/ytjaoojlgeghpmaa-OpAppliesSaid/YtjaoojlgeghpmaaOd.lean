/-
  op: the document's answer, of operations done.
-/
import Derived.Test.YtjaoojlgeghpmaaOc
import Derived.Test.YtjaoojlgeghpmaaKp
namespace Go.Proofs.Ytjaoojlgeghpmaa
open Go.RowKit
set_option linter.unusedVariables false
set_option linter.unusedSectionVars false
set_option linter.unusedSimpArgs false

def r04_Do (l0 : List PairD) (p1 : OpD) : (List PairD) × ResultT :=
  if p1.xKind = 1 then bnd (r04_Find l0 p1.xKey) fun yr38 => (l0, ResultT.mk yr38.2 yr38.1 (Ll.mk ([]))) else if p1.xKind = 2 then bnd (r04_put l0 (PairD.mk p1.xKey p1.xValue)) fun yr55 => (yr55, ResultT.mk false ([]) (Ll.mk ([]))) else if p1.xKind = 3 then bnd (r02_Point p1.xKey) fun yr75 => bnd (r04_without l0 yr75.1) fun yr91 => (yr91, ResultT.mk false ([]) (Ll.mk ([]))) else if p1.xKind = 4 then bnd (r04_Within l0 (RangeD.mk p1.xLo p1.xHi) p1.xMost) fun yr111 => (l0, ResultT.mk false ([]) (Ll.mk yr111)) else bnd (r04_without l0 (RangeD.mk p1.xLo p1.xHi)) fun yr128 => (yr128, ResultT.mk false ([]) (Ll.mk ([])))

set_option maxRecDepth 100000 in
theorem r04_Do_ok (w : World) (D : Nat → Prop) (A0 : Option Addr) (n0 c0 : Nat) (l0 : List PairD) (p1 : OpD) (r0 : List PairD) (r1 : ResultT) (H : Own w D w [row A0 n0 c0 (List.flatMap PairD.cells l0) 32 2]) (hn0 : n0 = List.length l0) (hl0 : List.length l0 * 32 ≤ 211106232532992) (hh0 : (List.length l0 + 1) * 32 ≤ 211106232532992) (hr : r04_Do l0 p1 = (r0, r1)) :
    Calls Try.prog 16 #[.slice A0 n0 c0, .agg (OpD.cells p1).toArray] w (Ret fun v w' => ∃ (B0 : Option Addr) (b0 : Nat) (B1x0 : Option Addr) (b1x0 : Nat), v = .tuple #[.slice B0 (List.length r0) b0, .agg #[.bool r1.xFound, .string ⟨List.toArray r1.xValue⟩, .slice B1x0 (List.length r1.xPairs.ls) b1x0]] ∧ Own w D w' [row B0 (List.length r0) b0 (List.flatMap PairD.cells r0) 32 2, row B1x0 (List.length r1.xPairs.ls) b1x0 (List.flatMap PairD.cells r1.xPairs.ls) 32 2] ∧ (List.length r0 ≤ List.length l0 + 1)) := by
  subst hn0
  have hc0 := H.rowC (i := 0) rfl
  refine Calls.body (args := [.slice A0 (List.length l0) c0, .agg (OpD.cells p1).toArray]) Try.func16 rfl rfl rfl ?_
  show Wp _ _ _ [(0, .slice A0 (List.length l0) c0), (1, .agg (OpD.cells p1).toArray)] _ _
  refine Wp.seq (Wp.region ?_)
  refine WL.do rfl (Do.newP (cs := (OpD.cells p1)) (t := 37) H rfl rfl (fun _ => by kernel_rfl) ?_)
  intro g21 w22 H23
  replace H23 : Own w D w22 [blk g21 (OpD.cells p1) 37, row A0 (List.length l0) c0 (List.flatMap PairD.cells l0) 32 2] := H23
  refine As rfl rfl ?_
  refine WL.do rfl (Do.newP (cs := [.bool false, .string ⟨List.toArray ([])⟩, .slice none 0 0]) (t := 34) H23 rfl rfl (fun _ => by kernel_rfl) ?_)
  intro g24 w25 H26
  replace H26 : Own w D w25 [blk g24 [.bool false, .string ⟨List.toArray ([])⟩, .slice none 0 0] 34, blk g21 (OpD.cells p1) 37, row A0 (List.length l0) c0 (List.flatMap PairD.cells l0) 32 2] := H26
  refine WL.nil (Fin.then (Wp.seq (Wp.region (Kn (v := .pointer (some ⟨g21, 3, none⟩)) rfl rfl rfl (fun _ => by kernel_rfl) (WL.val (v := .string ⟨List.toArray p1.xLo⟩) rfl (Yl.load rfl (Lds.one Try.isAgg9 (Cls.of (H26.cls (i := 1) rfl) rfl))) (Kn (v := .pointer (some ⟨g21, 4, none⟩)) rfl rfl rfl (fun _ => by kernel_rfl) (WL.val (v := .string ⟨List.toArray p1.xHi⟩) rfl (Yl.load rfl (Lds.one Try.isAgg9 (Cls.of (H26.cls (i := 1) rfl) rfl))) (Kn (v := .agg #[.string ⟨List.toArray p1.xLo⟩, .string ⟨List.toArray p1.xHi⟩]) rfl rfl rfl (fun _ => by kernel_rfl) ?_))))))))
  refine WL.do rfl (Do.newP (cs := [.string ⟨List.toArray ([])⟩, .string ⟨List.toArray ([])⟩]) (t := 53) H26 rfl rfl (fun _ => by kernel_rfl) ?_)
  intro g27 w28 H29
  replace H29 : Own w D w28 [blk g27 [.string ⟨List.toArray ([])⟩, .string ⟨List.toArray ([])⟩] 53, blk g24 [.bool false, .string ⟨List.toArray ([])⟩, .slice none 0 0] 34, blk g21 (OpD.cells p1) 37, row A0 (List.length l0) c0 (List.flatMap PairD.cells l0) 32 2] := H29
  refine WL.do0 (Do.store (vs := [.string ⟨List.toArray p1.xLo⟩, .string ⟨List.toArray p1.xHi⟩]) (o := 0) H29 rfl rfl Try.sizeOf53 rfl rfl rfl rfl ?_)
  intro w30 H31
  replace H31 : Own w D w30 [blk g27 [.string ⟨List.toArray p1.xLo⟩, .string ⟨List.toArray p1.xHi⟩] 53, blk g24 [.bool false, .string ⟨List.toArray ([])⟩, .slice none 0 0] 34, blk g21 (OpD.cells p1) 37, row A0 (List.length l0) c0 (List.flatMap PairD.cells l0) 32 2] := H31
  refine WL.nil (Fin.then (Wp.seq (Wp.seq (Wp.region (Kn (v := .pointer (some ⟨g21, 0, none⟩)) rfl rfl rfl (fun _ => by kernel_rfl) (WL.val (v := .int .i64 p1.xKind) rfl (Yl.load rfl (Lds.one Try.isAgg3 (Cls.of (H31.cls (i := 2) rfl) rfl))) (WL.nil (Fin.then (Wp.block (Wp.seq (Wp.region (Kn (v := .bool (decide (p1.xKind = 1))) rfl rfl rfl (fun _ => by kernel_rfl) (As rfl rfl (WL.nil (Fin.then ?_)))))))))))))))
  by_cases h32 : p1.xKind = 1
  refine Wp.cond1 rfl (decide_eq_true h32) (Wp.seq (Wp.region (Mv rfl rfl (Kn (v := .pointer (some ⟨g21, 1, none⟩)) rfl rfl rfl (fun _ => by kernel_rfl) (WL.val (v := .string ⟨List.toArray p1.xKey⟩) rfl (Yl.load rfl (Lds.one Try.isAgg9 (Cls.of (H31.cls (i := 2) rfl) rfl))) ?_)))))
  obtain ⟨⟨r38, r39⟩, hr40⟩ : ∃ q : (List UInt8) × Bool, r04_Find l0 p1.xKey = q := ⟨_, rfl⟩
  obtain ⟨D33, HP34, ro35, bk36, rr37⟩ := Own.enter0 H31
  refine WL.do rfl (Do.call Try.call36 rfl (r04_Find_ok _ _ A0 (List.length l0) c0 l0 p1.xKey r38 r39 HP34 (rr37 _ 3 _ rfl row_rds) rfl (by omega) hr40) ?_)
  rintro _ w41 ⟨rfl, HQ42⟩
  have H43 : Own w D w41 [blk g27 [.string ⟨List.toArray p1.xLo⟩, .string ⟨List.toArray p1.xHi⟩] 53, blk g24 [.bool false, .string ⟨List.toArray ([])⟩, .slice none 0 0] 34, blk g21 (OpD.cells p1) 37, row A0 (List.length l0) c0 (List.flatMap PairD.cells l0) 32 2] := bk36 _ _ HQ42
  refine Mv rfl rfl (Kn (v := .string ⟨List.toArray r38⟩) rfl rfl rfl (fun _ => by kernel_rfl) (Kn (v := .bool r39) rfl rfl rfl (fun _ => by kernel_rfl) (As rfl rfl (As rfl rfl (WL.nil (Fin.then (Wp.seq (Wp.region (Mv rfl rfl (Mv rfl rfl (Mv rfl rfl (Kn (v := .agg #[.bool r39, .string ⟨List.toArray r38⟩, .slice none 0 0]) rfl rfl rfl (fun _ => by kernel_rfl) (As rfl rfl ?_)))))))))))))
  have H44 : Own w D w41 [blk g24 [.bool false, .string ⟨List.toArray ([])⟩, .slice none 0 0] 34, blk g27 [.string ⟨List.toArray p1.xLo⟩, .string ⟨List.toArray p1.xHi⟩] 53, blk g21 (OpD.cells p1) 37, row A0 (List.length l0) c0 (List.flatMap PairD.cells l0) 32 2] := H43.pick [1, 0, 2, 3] (by decide) rfl
  refine WL.do0 (Do.store (vs := [.bool r39, .string ⟨List.toArray r38⟩, .slice none 0 0]) (o := 0) H44 rfl rfl Try.sizeOf34 rfl rfl rfl rfl ?_)
  intro w45 H46
  replace H46 : Own w D w45 [blk g24 [.bool r39, .string ⟨List.toArray r38⟩, .slice none 0 0] 34, blk g27 [.string ⟨List.toArray p1.xLo⟩, .string ⟨List.toArray p1.xHi⟩] 53, blk g21 (OpD.cells p1) 37, row A0 (List.length l0) c0 (List.flatMap PairD.cells l0) 32 2] := H46
  refine WL.nil (Fin.then (Wp.ret (Fin.blockR (Fin.thenR (Fin.res (resN (vs := [.slice A0 (List.length l0) c0, .agg #[.bool r39, .string ⟨List.toArray r38⟩, .slice none 0 0]]) rfl (ResV.tmp rfl (ResV.cell rfl (Lds.agg (cs := [.bool r39, .string ⟨List.toArray r38⟩, .slice none 0 0]) Try.isAgg34 Try.sizeOf34 ((H46.cls (i := 0) rfl).lit (k := 0) (m := 3) rfl)) ResV.nil)) (Nat.le_of_ble_eq_true rfl)) ?_)))))
  have H47 : Own w D w45 [row none 0 0 (List.flatMap PairD.cells ([])) 32 2, blk g24 [.bool r39, .string ⟨List.toArray r38⟩, .slice none 0 0] 34, blk g27 [.string ⟨List.toArray p1.xLo⟩, .string ⟨List.toArray p1.xHi⟩] 53, blk g21 (OpD.cells p1) 37, row A0 (List.length l0) c0 (List.flatMap PairD.cells l0) 32 2] := H46.free (row_nil 32 2)
  have H48 : Own w D w45 [row A0 (List.length l0) c0 (List.flatMap PairD.cells l0) 32 2, row none 0 0 (List.flatMap PairD.cells ([])) 32 2] := H47.pick [4, 0] (by decide) rfl
  have e : r04_Do l0 p1 = (l0, ResultT.mk r39 r38 (Ll.mk ([]))) := Eq.trans (if_pos h32) (bnd_of hr40)
  obtain ⟨rfl, rfl⟩ := pj2 (e.symm.trans hr)
  exact ⟨A0, c0, none, 0, rfl, H48, (by omega)⟩
  refine Wp.cond0 rfl (decide_eq_false h32) (Wp.seq (Wp.region (Kn (v := .bool (decide (p1.xKind = 2))) rfl rfl rfl (fun _ => by kernel_rfl) (As rfl rfl (WL.nil (Fin.then ?_))))))
  by_cases h49 : p1.xKind = 2
  refine Wp.cond1 rfl (decide_eq_true h49) (Wp.seq (Wp.region (Mv rfl rfl (Kn (v := .pointer (some ⟨g21, 1, none⟩)) rfl rfl rfl (fun _ => by kernel_rfl) (WL.val (v := .string ⟨List.toArray p1.xKey⟩) rfl (Yl.load rfl (Lds.one Try.isAgg9 (Cls.of (H31.cls (i := 2) rfl) rfl))) (Kn (v := .pointer (some ⟨g21, 2, none⟩)) rfl rfl rfl (fun _ => by kernel_rfl) (WL.val (v := .string ⟨List.toArray p1.xValue⟩) rfl (Yl.load rfl (Lds.one Try.isAgg9 (Cls.of (H31.cls (i := 2) rfl) rfl))) (Kn (v := .agg #[.string ⟨List.toArray p1.xKey⟩, .string ⟨List.toArray p1.xValue⟩]) rfl rfl rfl (fun _ => by kernel_rfl) ?_))))))))
  obtain ⟨r55, hr56⟩ : ∃ q, r04_put l0 (PairD.mk p1.xKey p1.xValue) = q := ⟨_, rfl⟩
  obtain ⟨D50, HP51, ro52, bk53, rr54⟩ := Own.enter0 H31
  refine WL.do rfl (Do.call Try.call37 rfl (r04_put_ok _ _ A0 (List.length l0) c0 l0 (PairD.mk p1.xKey p1.xValue) r55 HP51 (rr54 _ 3 _ rfl row_rds) rfl (by omega) (by omega) hr56) ?_)
  rintro _ w57 ⟨A60, c61, rfl, HQ58, hk62⟩
  have H59 : Own w D w57 [row A60 (List.length r55) c61 (List.flatMap PairD.cells r55) 32 2, blk g27 [.string ⟨List.toArray p1.xLo⟩, .string ⟨List.toArray p1.xHi⟩] 53, blk g24 [.bool false, .string ⟨List.toArray ([])⟩, .slice none 0 0] 34, blk g21 (OpD.cells p1) 37, row A0 (List.length l0) c0 (List.flatMap PairD.cells l0) 32 2] := bk53 _ _ HQ58
  have hb63 := H59.rowC (i := 0) rfl
  replace hk62 : List.length r55 ≤ List.length l0 + 1 := hk62
  refine Kn (v := .agg #[.bool false, .string ⟨List.toArray ([])⟩, .slice none 0 0]) rfl rfl rfl (fun _ => by kernel_rfl) (As rfl rfl ?_)
  have H64 : Own w D w57 [blk g24 [.bool false, .string ⟨List.toArray ([])⟩, .slice none 0 0] 34, row A60 (List.length r55) c61 (List.flatMap PairD.cells r55) 32 2, blk g27 [.string ⟨List.toArray p1.xLo⟩, .string ⟨List.toArray p1.xHi⟩] 53, blk g21 (OpD.cells p1) 37, row A0 (List.length l0) c0 (List.flatMap PairD.cells l0) 32 2] := H59.pick [2, 0, 1, 3, 4] (by decide) rfl
  refine WL.do0 (Do.store (vs := [.bool false, .string ⟨List.toArray ([])⟩, .slice none 0 0]) (o := 0) H64 rfl rfl Try.sizeOf34 rfl rfl rfl rfl ?_)
  intro w65 H66
  replace H66 : Own w D w65 [blk g24 [.bool false, .string ⟨List.toArray ([])⟩, .slice none 0 0] 34, row A60 (List.length r55) c61 (List.flatMap PairD.cells r55) 32 2, blk g27 [.string ⟨List.toArray p1.xLo⟩, .string ⟨List.toArray p1.xHi⟩] 53, blk g21 (OpD.cells p1) 37, row A0 (List.length l0) c0 (List.flatMap PairD.cells l0) 32 2] := H66
  refine WL.nil (Fin.then (Wp.ret (Fin.blockR (Fin.thenR (Fin.res (resN (vs := [.slice A60 (List.length r55) c61, .agg #[.bool false, .string ⟨List.toArray ([])⟩, .slice none 0 0]]) rfl (ResV.tmp rfl (ResV.cell rfl (Lds.agg (cs := [.bool false, .string ⟨List.toArray ([])⟩, .slice none 0 0]) Try.isAgg34 Try.sizeOf34 ((H66.cls (i := 0) rfl).lit (k := 0) (m := 3) rfl)) ResV.nil)) (Nat.le_of_ble_eq_true rfl)) ?_)))))
  have H67 : Own w D w65 [row none 0 0 (List.flatMap PairD.cells ([])) 32 2, blk g24 [.bool false, .string ⟨List.toArray ([])⟩, .slice none 0 0] 34, row A60 (List.length r55) c61 (List.flatMap PairD.cells r55) 32 2, blk g27 [.string ⟨List.toArray p1.xLo⟩, .string ⟨List.toArray p1.xHi⟩] 53, blk g21 (OpD.cells p1) 37, row A0 (List.length l0) c0 (List.flatMap PairD.cells l0) 32 2] := H66.free (row_nil 32 2)
  have H68 : Own w D w65 [row A60 (List.length r55) c61 (List.flatMap PairD.cells r55) 32 2, row none 0 0 (List.flatMap PairD.cells ([])) 32 2] := H67.pick [2, 0] (by decide) rfl
  have e : r04_Do l0 p1 = (r55, ResultT.mk false ([]) (Ll.mk ([]))) := Eq.trans (if_neg h32) (Eq.trans (if_pos h49) (bnd_of hr56))
  obtain ⟨rfl, rfl⟩ := pj2 (e.symm.trans hr)
  exact ⟨A60, c61, none, 0, rfl, H68, (by omega)⟩
  refine Wp.cond0 rfl (decide_eq_false h49) (Wp.seq (Wp.region (Kn (v := .bool (decide (p1.xKind = 3))) rfl rfl rfl (fun _ => by kernel_rfl) (As rfl rfl (WL.nil (Fin.then ?_))))))
  by_cases h69 : p1.xKind = 3
  refine Wp.cond1 rfl (decide_eq_true h69) (Wp.seq (Wp.region (Kn (v := .pointer (some ⟨g21, 1, none⟩)) rfl rfl rfl (fun _ => by kernel_rfl) (WL.val (v := .string ⟨List.toArray p1.xKey⟩) rfl (Yl.load rfl (Lds.one Try.isAgg9 (Cls.of (H31.cls (i := 2) rfl) rfl))) ?_))))
  obtain ⟨⟨r75, r76⟩, hr77⟩ : ∃ q : RangeD × Int, r02_Point p1.xKey = q := ⟨_, rfl⟩
  obtain ⟨D70, HP71, ro72, bk73, rr74⟩ := Own.enter0 H31
  refine WL.do rfl (Do.call Try.call38 rfl (r02_Point_ok _ _ p1.xKey r75 r76 HP71 hr77) ?_)
  rintro _ w78 ⟨rfl, HQ79⟩
  have H80 : Own w D w78 [blk g27 [.string ⟨List.toArray p1.xLo⟩, .string ⟨List.toArray p1.xHi⟩] 53, blk g24 [.bool false, .string ⟨List.toArray ([])⟩, .slice none 0 0] 34, blk g21 (OpD.cells p1) 37, row A0 (List.length l0) c0 (List.flatMap PairD.cells l0) 32 2] := bk73 _ _ HQ79
  refine Mv rfl rfl (Kn (v := .agg (RangeD.cells r75).toArray) rfl rfl rfl (fun _ => by kernel_rfl) (Kn (v := .int .i64 r76) rfl rfl rfl (fun _ => by kernel_rfl) ?_))
  refine WL.do rfl (Do.newP (cs := [.string ⟨List.toArray ([])⟩, .string ⟨List.toArray ([])⟩]) (t := 53) H80 rfl rfl (fun _ => by kernel_rfl) ?_)
  intro g81 w82 H83
  replace H83 : Own w D w82 [blk g81 [.string ⟨List.toArray ([])⟩, .string ⟨List.toArray ([])⟩] 53, blk g27 [.string ⟨List.toArray p1.xLo⟩, .string ⟨List.toArray p1.xHi⟩] 53, blk g24 [.bool false, .string ⟨List.toArray ([])⟩, .slice none 0 0] 34, blk g21 (OpD.cells p1) 37, row A0 (List.length l0) c0 (List.flatMap PairD.cells l0) 32 2] := H83
  refine WL.do0 (Do.store (vs := (RangeD.cells r75)) (o := 0) H83 rfl rfl Try.sizeOf53 rfl rfl rfl rfl ?_)
  intro w84 H85
  replace H85 : Own w D w84 [blk g81 (RangeD.cells r75) 53, blk g27 [.string ⟨List.toArray p1.xLo⟩, .string ⟨List.toArray p1.xHi⟩] 53, blk g24 [.bool false, .string ⟨List.toArray ([])⟩, .slice none 0 0] 34, blk g21 (OpD.cells p1) 37, row A0 (List.length l0) c0 (List.flatMap PairD.cells l0) 32 2] := H85
  refine As rfl rfl (WL.nil (Fin.then (Wp.seq (Wp.region (Mv rfl rfl (WL.val (v := .agg (RangeD.cells r75).toArray) rfl (Yl.load rfl (Lds.agg (cs := (RangeD.cells r75)) Try.isAgg53 Try.sizeOf53 ((H85.cls (i := 0) rfl).lit (k := 0) (m := 2) rfl))) ?_))))))
  obtain ⟨r91, hr92⟩ : ∃ q, r04_without l0 r75 = q := ⟨_, rfl⟩
  obtain ⟨D86, HP87, ro88, bk89, rr90⟩ := Own.enter0 H85
  refine WL.do rfl (Do.call Try.call39 rfl (r04_without_ok _ _ A0 (List.length l0) c0 l0 r75 r91 HP87 (rr90 _ 4 _ rfl row_rds) rfl (by omega) hr92) ?_)
  rintro _ w93 ⟨A96, c97, rfl, HQ94, hk98⟩
  have H95 : Own w D w93 [row A96 (List.length r91) c97 (List.flatMap PairD.cells r91) 32 2, blk g81 (RangeD.cells r75) 53, blk g27 [.string ⟨List.toArray p1.xLo⟩, .string ⟨List.toArray p1.xHi⟩] 53, blk g24 [.bool false, .string ⟨List.toArray ([])⟩, .slice none 0 0] 34, blk g21 (OpD.cells p1) 37, row A0 (List.length l0) c0 (List.flatMap PairD.cells l0) 32 2] := bk89 _ _ HQ94
  have hb99 := H95.rowC (i := 0) rfl
  replace hk98 : List.length r91 ≤ List.length l0 := hk98
  refine Kn (v := .agg #[.bool false, .string ⟨List.toArray ([])⟩, .slice none 0 0]) rfl rfl rfl (fun _ => by kernel_rfl) (As rfl rfl ?_)
  have H100 : Own w D w93 [blk g24 [.bool false, .string ⟨List.toArray ([])⟩, .slice none 0 0] 34, row A96 (List.length r91) c97 (List.flatMap PairD.cells r91) 32 2, blk g81 (RangeD.cells r75) 53, blk g27 [.string ⟨List.toArray p1.xLo⟩, .string ⟨List.toArray p1.xHi⟩] 53, blk g21 (OpD.cells p1) 37, row A0 (List.length l0) c0 (List.flatMap PairD.cells l0) 32 2] := H95.pick [3, 0, 1, 2, 4, 5] (by decide) rfl
  refine WL.do0 (Do.store (vs := [.bool false, .string ⟨List.toArray ([])⟩, .slice none 0 0]) (o := 0) H100 rfl rfl Try.sizeOf34 rfl rfl rfl rfl ?_)
  intro w101 H102
  replace H102 : Own w D w101 [blk g24 [.bool false, .string ⟨List.toArray ([])⟩, .slice none 0 0] 34, row A96 (List.length r91) c97 (List.flatMap PairD.cells r91) 32 2, blk g81 (RangeD.cells r75) 53, blk g27 [.string ⟨List.toArray p1.xLo⟩, .string ⟨List.toArray p1.xHi⟩] 53, blk g21 (OpD.cells p1) 37, row A0 (List.length l0) c0 (List.flatMap PairD.cells l0) 32 2] := H102
  refine WL.nil (Fin.then (Wp.ret (Fin.blockR (Fin.thenR (Fin.res (resN (vs := [.slice A96 (List.length r91) c97, .agg #[.bool false, .string ⟨List.toArray ([])⟩, .slice none 0 0]]) rfl (ResV.tmp rfl (ResV.cell rfl (Lds.agg (cs := [.bool false, .string ⟨List.toArray ([])⟩, .slice none 0 0]) Try.isAgg34 Try.sizeOf34 ((H102.cls (i := 0) rfl).lit (k := 0) (m := 3) rfl)) ResV.nil)) (Nat.le_of_ble_eq_true rfl)) ?_)))))
  have H103 : Own w D w101 [row none 0 0 (List.flatMap PairD.cells ([])) 32 2, blk g24 [.bool false, .string ⟨List.toArray ([])⟩, .slice none 0 0] 34, row A96 (List.length r91) c97 (List.flatMap PairD.cells r91) 32 2, blk g81 (RangeD.cells r75) 53, blk g27 [.string ⟨List.toArray p1.xLo⟩, .string ⟨List.toArray p1.xHi⟩] 53, blk g21 (OpD.cells p1) 37, row A0 (List.length l0) c0 (List.flatMap PairD.cells l0) 32 2] := H102.free (row_nil 32 2)
  have H104 : Own w D w101 [row A96 (List.length r91) c97 (List.flatMap PairD.cells r91) 32 2, row none 0 0 (List.flatMap PairD.cells ([])) 32 2] := H103.pick [2, 0] (by decide) rfl
  have e : r04_Do l0 p1 = (r91, ResultT.mk false ([]) (Ll.mk ([]))) := Eq.trans (if_neg h32) (Eq.trans (if_neg h49) (Eq.trans (if_pos h69) (Eq.trans (bnd_of hr77) (bnd_of hr92))))
  obtain ⟨rfl, rfl⟩ := pj2 (e.symm.trans hr)
  exact ⟨A96, c97, none, 0, rfl, H104, (by omega)⟩
  refine Wp.cond0 rfl (decide_eq_false h69) (Wp.seq (Wp.region (Kn (v := .bool (decide (p1.xKind = 4))) rfl rfl rfl (fun _ => by kernel_rfl) (As rfl rfl (WL.nil (Fin.then ?_))))))
  by_cases h105 : p1.xKind = 4
  refine Wp.cond1 rfl (decide_eq_true h105) (Wp.seq (Wp.region (Mv rfl rfl (Mv rfl rfl (WL.val (v := .agg #[.string ⟨List.toArray p1.xLo⟩, .string ⟨List.toArray p1.xHi⟩]) rfl (Yl.load rfl (Lds.agg (cs := [.string ⟨List.toArray p1.xLo⟩, .string ⟨List.toArray p1.xHi⟩]) Try.isAgg53 Try.sizeOf53 ((H31.cls (i := 0) rfl).lit (k := 0) (m := 2) rfl))) (Kn (v := .pointer (some ⟨g21, 5, none⟩)) rfl rfl rfl (fun _ => by kernel_rfl) (WL.val (v := .int .i64 p1.xMost) rfl (Yl.load rfl (Lds.one Try.isAgg3 (Cls.of (H31.cls (i := 2) rfl) rfl))) ?_)))))))
  obtain ⟨r111, hr112⟩ : ∃ q, r04_Within l0 (RangeD.mk p1.xLo p1.xHi) p1.xMost = q := ⟨_, rfl⟩
  obtain ⟨D106, HP107, ro108, bk109, rr110⟩ := Own.enter0 H31
  refine WL.do rfl (Do.call Try.call40 rfl (r04_Within_ok _ _ A0 (List.length l0) c0 l0 (RangeD.mk p1.xLo p1.xHi) p1.xMost r111 HP107 (rr110 _ 3 _ rfl row_rds) rfl (by omega) hr112) ?_)
  rintro _ w113 ⟨A116, c117, rfl, HQ114⟩
  have H115 : Own w D w113 [row A116 (List.length r111) c117 (List.flatMap PairD.cells r111) 32 2, blk g27 [.string ⟨List.toArray p1.xLo⟩, .string ⟨List.toArray p1.xHi⟩] 53, blk g24 [.bool false, .string ⟨List.toArray ([])⟩, .slice none 0 0] 34, blk g21 (OpD.cells p1) 37, row A0 (List.length l0) c0 (List.flatMap PairD.cells l0) 32 2] := bk109 _ _ HQ114
  have hb118 := H115.rowC (i := 0) rfl
  refine Kn (v := .agg #[.bool false, .string ⟨List.toArray ([])⟩, .slice A116 (List.length r111) c117]) rfl rfl rfl (fun _ => by kernel_rfl) (As rfl rfl ?_)
  have H119 : Own w D w113 [blk g24 [.bool false, .string ⟨List.toArray ([])⟩, .slice none 0 0] 34, row A116 (List.length r111) c117 (List.flatMap PairD.cells r111) 32 2, blk g27 [.string ⟨List.toArray p1.xLo⟩, .string ⟨List.toArray p1.xHi⟩] 53, blk g21 (OpD.cells p1) 37, row A0 (List.length l0) c0 (List.flatMap PairD.cells l0) 32 2] := H115.pick [2, 0, 1, 3, 4] (by decide) rfl
  refine WL.do0 (Do.store (vs := [.bool false, .string ⟨List.toArray ([])⟩, .slice A116 (List.length r111) c117]) (o := 0) H119 rfl rfl Try.sizeOf34 rfl rfl rfl rfl ?_)
  intro w120 H121
  replace H121 : Own w D w120 [blk g24 [.bool false, .string ⟨List.toArray ([])⟩, .slice A116 (List.length r111) c117] 34, row A116 (List.length r111) c117 (List.flatMap PairD.cells r111) 32 2, blk g27 [.string ⟨List.toArray p1.xLo⟩, .string ⟨List.toArray p1.xHi⟩] 53, blk g21 (OpD.cells p1) 37, row A0 (List.length l0) c0 (List.flatMap PairD.cells l0) 32 2] := H121
  refine WL.nil (Fin.then (Wp.ret (Fin.blockR (Fin.thenR (Fin.res (resN (vs := [.slice A0 (List.length l0) c0, .agg #[.bool false, .string ⟨List.toArray ([])⟩, .slice A116 (List.length r111) c117]]) rfl (ResV.tmp rfl (ResV.cell rfl (Lds.agg (cs := [.bool false, .string ⟨List.toArray ([])⟩, .slice A116 (List.length r111) c117]) Try.isAgg34 Try.sizeOf34 ((H121.cls (i := 0) rfl).lit (k := 0) (m := 3) rfl)) ResV.nil)) (Nat.le_of_ble_eq_true rfl)) ?_)))))
  have H122 : Own w D w120 [row A0 (List.length l0) c0 (List.flatMap PairD.cells l0) 32 2, row A116 (List.length r111) c117 (List.flatMap PairD.cells r111) 32 2] := H121.pick [4, 1] (by decide) rfl
  have e : r04_Do l0 p1 = (l0, ResultT.mk false ([]) (Ll.mk r111)) := Eq.trans (if_neg h32) (Eq.trans (if_neg h49) (Eq.trans (if_neg h69) (Eq.trans (if_pos h105) (bnd_of hr112))))
  obtain ⟨rfl, rfl⟩ := pj2 (e.symm.trans hr)
  exact ⟨A0, c0, A116, c117, rfl, H122, (by omega)⟩
  refine Wp.cond0 rfl (decide_eq_false h105) (Wp.skip (Fin.blockN (Fin.then (Wp.seq (Wp.region (Mv rfl rfl (WL.val (v := .agg #[.string ⟨List.toArray p1.xLo⟩, .string ⟨List.toArray p1.xHi⟩]) rfl (Yl.load rfl (Lds.agg (cs := [.string ⟨List.toArray p1.xLo⟩, .string ⟨List.toArray p1.xHi⟩]) Try.isAgg53 Try.sizeOf53 ((H31.cls (i := 0) rfl).lit (k := 0) (m := 2) rfl))) ?_)))))))
  obtain ⟨r128, hr129⟩ : ∃ q, r04_without l0 (RangeD.mk p1.xLo p1.xHi) = q := ⟨_, rfl⟩
  obtain ⟨D123, HP124, ro125, bk126, rr127⟩ := Own.enter0 H31
  refine WL.do rfl (Do.call Try.call39 rfl (r04_without_ok _ _ A0 (List.length l0) c0 l0 (RangeD.mk p1.xLo p1.xHi) r128 HP124 (rr127 _ 3 _ rfl row_rds) rfl (by omega) hr129) ?_)
  rintro _ w130 ⟨A133, c134, rfl, HQ131, hk135⟩
  have H132 : Own w D w130 [row A133 (List.length r128) c134 (List.flatMap PairD.cells r128) 32 2, blk g27 [.string ⟨List.toArray p1.xLo⟩, .string ⟨List.toArray p1.xHi⟩] 53, blk g24 [.bool false, .string ⟨List.toArray ([])⟩, .slice none 0 0] 34, blk g21 (OpD.cells p1) 37, row A0 (List.length l0) c0 (List.flatMap PairD.cells l0) 32 2] := bk126 _ _ HQ131
  have hb136 := H132.rowC (i := 0) rfl
  replace hk135 : List.length r128 ≤ List.length l0 := hk135
  refine Kn (v := .agg #[.bool false, .string ⟨List.toArray ([])⟩, .slice none 0 0]) rfl rfl rfl (fun _ => by kernel_rfl) (As rfl rfl ?_)
  have H137 : Own w D w130 [blk g24 [.bool false, .string ⟨List.toArray ([])⟩, .slice none 0 0] 34, row A133 (List.length r128) c134 (List.flatMap PairD.cells r128) 32 2, blk g27 [.string ⟨List.toArray p1.xLo⟩, .string ⟨List.toArray p1.xHi⟩] 53, blk g21 (OpD.cells p1) 37, row A0 (List.length l0) c0 (List.flatMap PairD.cells l0) 32 2] := H132.pick [2, 0, 1, 3, 4] (by decide) rfl
  refine WL.do0 (Do.store (vs := [.bool false, .string ⟨List.toArray ([])⟩, .slice none 0 0]) (o := 0) H137 rfl rfl Try.sizeOf34 rfl rfl rfl rfl ?_)
  intro w138 H139
  replace H139 : Own w D w138 [blk g24 [.bool false, .string ⟨List.toArray ([])⟩, .slice none 0 0] 34, row A133 (List.length r128) c134 (List.flatMap PairD.cells r128) 32 2, blk g27 [.string ⟨List.toArray p1.xLo⟩, .string ⟨List.toArray p1.xHi⟩] 53, blk g21 (OpD.cells p1) 37, row A0 (List.length l0) c0 (List.flatMap PairD.cells l0) 32 2] := H139
  refine WL.nil (Fin.then (Wp.ret (Fin.res (resN (vs := [.slice A133 (List.length r128) c134, .agg #[.bool false, .string ⟨List.toArray ([])⟩, .slice none 0 0]]) rfl (ResV.tmp rfl (ResV.cell rfl (Lds.agg (cs := [.bool false, .string ⟨List.toArray ([])⟩, .slice none 0 0]) Try.isAgg34 Try.sizeOf34 ((H139.cls (i := 0) rfl).lit (k := 0) (m := 3) rfl)) ResV.nil)) (Nat.le_of_ble_eq_true rfl)) ?_)))
  have H140 : Own w D w138 [row none 0 0 (List.flatMap PairD.cells ([])) 32 2, blk g24 [.bool false, .string ⟨List.toArray ([])⟩, .slice none 0 0] 34, row A133 (List.length r128) c134 (List.flatMap PairD.cells r128) 32 2, blk g27 [.string ⟨List.toArray p1.xLo⟩, .string ⟨List.toArray p1.xHi⟩] 53, blk g21 (OpD.cells p1) 37, row A0 (List.length l0) c0 (List.flatMap PairD.cells l0) 32 2] := H139.free (row_nil 32 2)
  have H141 : Own w D w138 [row A133 (List.length r128) c134 (List.flatMap PairD.cells r128) 32 2, row none 0 0 (List.flatMap PairD.cells ([])) 32 2] := H140.pick [2, 0] (by decide) rfl
  have e : r04_Do l0 p1 = (r128, ResultT.mk false ([]) (Ll.mk ([]))) := Eq.trans (if_neg h32) (Eq.trans (if_neg h49) (Eq.trans (if_neg h69) (Eq.trans (if_neg h105) (bnd_of hr129))))
  obtain ⟨rfl, rfl⟩ := pj2 (e.symm.trans hr)
  exact ⟨A133, c134, none, 0, rfl, H141, (by omega)⟩

def r04_Apply_L0 : List OpD → List PairD → List ResultT → (List PairD) × (List ResultT)
  | [], l52, l55 => (l52, l55)
  | x71 :: q58, l52, l55 => bnd (r04_Do l52 x71) fun yr85 => r04_Apply_L0 q58 yr85.1 (l55 ++ [yr85.2])

def r04_Apply (l0 : List PairD) (l1 : List OpD) : (List PairD) × (List ResultT) × Int :=
  bnd (r04_CheckMap l0) fun yr26 => if yr26 = 0 then bnd (r04_All l1) fun yr37 => if yr37 = 0 then bnd (r04_Apply_L0 l1 l0 ([])) fun sLrbtbtL => (sLrbtbtL.1, sLrbtbtL.2, 0) else ([], [], yr37) else ([], [], yr26)

set_option maxRecDepth 100000 in
theorem r04_Apply_ok (w : World) (D : Nat → Prop) (A0 : Option Addr) (n0 c0 : Nat) (l0 : List PairD) (A1 : Option Addr) (n1 c1 : Nat) (l1 : List OpD) (r0 : List PairD) (r1 : List ResultT) (r2 : Int) (H : Own w D w []) (hx0 : Ro w D fun w' => Rds w' 2 A0 n0 (List.flatMap PairD.cells l0)) (hn0 : n0 = List.length l0) (hl0 : List.length l0 * 32 ≤ 211106232532992) (hx1 : Ro w D fun w' => Rds w' 6 A1 n1 (List.flatMap OpD.cells l1)) (hn1 : n1 = List.length l1) (hl1 : List.length l1 * 80 ≤ 211106232532992) (hh0 : (List.length l0 + List.length l1) * 32 ≤ 211106232532992) (hr : r04_Apply l0 l1 = (r0, r1, r2)) :
    Calls Try.prog 6 #[.slice A0 n0 c0, .slice A1 n1 c1] w (Ret fun v w' => ∃ (B0 : Option Addr) (b0 : Nat) (B1 : Option Addr) (b1 : Nat) (e1 : List ResultD), v = .tuple #[.slice B0 (List.length r0) b0, .slice B1 (List.length r1) b1, .int .i64 r2] ∧ Own w D w' [row B0 (List.length r0) b0 (List.flatMap PairD.cells r0) 32 2, row B1 (List.length r1) b1 (List.flatMap ResultD.cells e1) 34 3, sepL (List.flatMap ResultD.own e1)] ∧ (List.map ResultD.abs e1 = r1) ∧ (List.length r0 ≤ List.length l0 + List.length l1) ∧ (List.length r1 ≤ List.length l1)) := by
  subst hn0 hn1
  refine Calls.body (args := [.slice A0 (List.length l0) c0, .slice A1 (List.length l1) c1]) Try.func6 rfl rfl rfl ?_
  show Wp _ _ _ [(0, .slice A0 (List.length l0) c0), (1, .slice A1 (List.length l1) c1)] _ _
  refine Wp.seq (Wp.region (As rfl rfl (As rfl rfl (As rfl rfl (WL.nil (Fin.then (Wp.seq (Wp.seq (Wp.region (Mv rfl rfl ?_))))))))))
  obtain ⟨r26, hr27⟩ : ∃ q, r04_CheckMap l0 = q := ⟨_, rfl⟩
  obtain ⟨D21, HP22, ro23, bk24, rr25⟩ := Own.enter0 H
  refine WL.do rfl (Do.call Try.call14 rfl (r04_CheckMap_ok _ _ A0 (List.length l0) c0 l0 r26 HP22 (ro23 _ hx0) rfl (by omega) hr27) ?_)
  rintro _ w28 ⟨rfl, HQ29⟩
  have H30 : Own w D w28 [] := bk24 _ _ HQ29
  refine As rfl rfl (WL.nil (Fin.then (Wp.seq (Wp.region (Mv rfl rfl (WL.val (v := .bool (decide (¬ (r26 = 0)))) rfl (Yl.bool (e := !(decide (r26 = 0))) (Yl.kern rfl rfl (fun _ => by kernel_rfl)) decide_not.symm) (WL.nil (Fin.then ?_))))))))
  by_cases h31 : r26 = 0
  refine Wp.cond0 rfl (decide_eq_false (not_not_intro h31)) (Wp.skip (Fin.then (Wp.seq (Wp.seq (Wp.region (Mv rfl rfl ?_))))))
  obtain ⟨r37, hr38⟩ : ∃ q, r04_All l1 = q := ⟨_, rfl⟩
  obtain ⟨D32, HP33, ro34, bk35, rr36⟩ := Own.enter0 H30
  refine WL.do rfl (Do.call Try.call15 rfl (r04_All_ok _ _ A1 (List.length l1) c1 l1 r37 HP33 (ro34 _ hx1) rfl (by omega) hr38) ?_)
  rintro _ w39 ⟨rfl, HQ40⟩
  have H41 : Own w D w39 [] := bk35 _ _ HQ40
  refine As rfl rfl (WL.nil (Fin.then (Wp.seq (Wp.region (Mv rfl rfl (WL.val (v := .bool (decide (¬ (r37 = 0)))) rfl (Yl.bool (e := !(decide (r37 = 0))) (Yl.kern rfl rfl (fun _ => by kernel_rfl)) decide_not.symm) (WL.nil (Fin.then ?_))))))))
  by_cases h42 : r37 = 0
  refine Wp.cond0 rfl (decide_eq_false (not_not_intro h42)) (Wp.skip (Fin.then (Wp.seq (Wp.region (Mv rfl rfl ?_)))))
  have H43 : Own w D w39 [row none 0 0 (List.flatMap PairD.cells ([])) 32 2] := H41.free (row_nil 32 2)
  refine WL.do rfl (Do.appendW (k := 0) (m := List.length l0) (El22) H43 rfl rfl (src_of Try.underlying22 (H43.ro hx0) (flat_one PairD.one l0)) rfl (by omega) (s := List.length l0) (by omega) rfl ?_)
  intro A44 c45 w46 H47
  replace H47 : Own w D w46 [row A44 (List.length l0) c45 (List.flatMap PairD.cells l0) 32 2] := H47
  refine As rfl rfl (WL.nil (Fin.then (Wp.seq (Wp.region (As rfl rfl (WL.nil (Fin.then (Wp.seq (Wp.seq (Wp.region (Mv rfl rfl (Kn (v := .int .i64 ((List.length l1 : Nat) : Int)) rfl rfl rfl (fun _ => by kernel_rfl) (Mv rfl rfl (WL.nil (Fin.then (Wp.block ?_))))))))))))))))
  have H48 : Own w D w46 [sepL (List.flatMap ResultD.own ([])), row A44 (List.length l0) c45 (List.flatMap PairD.cells l0) 32 2] := H47.sepNil
  have H49 : Own w D w46 [row none 0 0 (List.flatMap ResultD.cells ([])) 34 3, sepL (List.flatMap ResultD.own ([])), row A44 (List.length l0) c45 (List.flatMap PairD.cells l0) 32 2] := H48.free (row_nil 34 3)
  have H59 : Own w D w46 [row A44 (List.length l0) c45 (List.flatMap PairD.cells l0) 32 2, row none 0 0 (List.flatMap ResultD.cells ([])) 34 3, sepL (List.flatMap ResultD.own ([]))] := H49.pick [2, 0, 1] (by decide) rfl
  refine Wp.loop (ι := (Option Addr) × Nat × (List PairD) × (Option Addr) × Nat × (List ResultD) × (List ResultT) × Nat) (fun i => [(0, .slice i.1 (List.length i.2.2.1) i.2.1), (9, .slice i.2.2.2.1 (List.length i.2.2.2.2.2.2.1) i.2.2.2.2.1), (28, .int .i64 ((i.2.2.2.2.2.2.2 : Nat) : Int)), (27, .int .i64 ((List.length l1 : Nat) : Int)), (26, .slice A1 (List.length l1) c1), (6, .int .i64 0), (5, .slice none 0 0), (4, .slice none 0 0)]) (fun (i : (Option Addr) × Nat × (List PairD) × (Option Addr) × Nat × (List ResultD) × (List ResultT) × Nat) w' => Own w D w' [row i.1 (List.length i.2.2.1) i.2.1 (List.flatMap PairD.cells i.2.2.1) 32 2, row i.2.2.2.1 (List.length i.2.2.2.2.2.2.1) i.2.2.2.2.1 (List.flatMap ResultD.cells i.2.2.2.2.2.1) 34 3, sepL (List.flatMap ResultD.own i.2.2.2.2.2.1)] ∧ (List.map ResultD.abs i.2.2.2.2.2.1 = i.2.2.2.2.2.2.1 ∧ i.2.2.2.2.2.2.2 ≤ List.length l1 ∧ List.length i.2.2.1 ≤ List.length l0 + i.2.2.2.2.2.2.2 ∧ List.length i.2.2.2.2.2.2.1 = i.2.2.2.2.2.2.2 ∧ List.length i.2.2.2.2.2.2.1 ≤ i.2.2.2.2.2.2.2 ∧ r04_Apply_L0 l1 l0 ([]) = r04_Apply_L0 (List.drop i.2.2.2.2.2.2.2 l1) i.2.2.1 i.2.2.2.2.2.2.1)) (fun i => List.length l1 - i.2.2.2.2.2.2.2) (A44, c45, l0, none, 0, [], [], 0) ⟨rfl, rfl, rfl, rfl, rfl, rfl, rfl, rfl, trivial⟩ ⟨H59, (show List.map ResultD.abs ([]) = ([]) ∧ 0 ≤ List.length l1 ∧ List.length l0 ≤ List.length l0 ∧ 0 = 0 ∧ 0 ≤ 0 ∧ r04_Apply_L0 l1 l0 ([]) = r04_Apply_L0 (List.drop 0 l1) l0 ([]) from ⟨by exact rfl, by omega, by omega, by omega, by omega, rfl⟩)⟩ ?_
  rintro ⟨A50, c51, l52, A53, c54, d56, l55, k57⟩ w60 ⟨H61, hf62⟩
  show Wp _ _ _ [(0, .slice A50 (List.length l52) c51), (9, .slice A53 (List.length l55) c54), (28, .int .i64 ((k57 : Nat) : Int)), (27, .int .i64 ((List.length l1 : Nat) : Int)), (26, .slice A1 (List.length l1) c1), (6, .int .i64 0), (5, .slice none 0 0), (4, .slice none 0 0)] _ _
  replace H61 : Own w D w60 [row A50 (List.length l52) c51 (List.flatMap PairD.cells l52) 32 2, row A53 (List.length l55) c54 (List.flatMap ResultD.cells d56) 34 3, sepL (List.flatMap ResultD.own d56)] := H61
  replace hf62 : List.map ResultD.abs d56 = l55 ∧ k57 ≤ List.length l1 ∧ List.length l52 ≤ List.length l0 + k57 ∧ List.length l55 = k57 ∧ List.length l55 ≤ k57 ∧ r04_Apply_L0 l1 l0 ([]) = r04_Apply_L0 (List.drop k57 l1) l52 l55 := hf62
  obtain ⟨hi64, hi65, hi66, hi67, hi68, hq63⟩ := hf62
  have hl69 := abs_len hi64
  refine Wp.seq (Wp.region (Kn (v := .bool (decide (((k57 : Nat) : Int) < ((List.length l1 : Nat) : Int)))) rfl rfl rfl (fun _ => by kernel_rfl) (WL.nil (Fin.then (Wp.seq ?_)))))
  by_cases h70 : ((k57 : Nat) : Int) < ((List.length l1 : Nat) : Int)
  obtain ⟨x71, hx72⟩ := rds_at (ls := l1) (i := k57) OpD.len (by decide) (H61.ro hx1) (by first | omega | (simp; done) | (simp; omega))
  have hd73 := drop_at hx72
  refine Wp.cond1 rfl (decide_eq_true h70) (Wp.skip (Fin.then (Wp.seq (Wp.block (Wp.seq (Wp.region (WL.val (v := .pointer (some ⟨ab A1, ao A1 + k57 * 6, none⟩)) rfl (Yl.indexAddr (El23) rfl rfl ((H61.ro hx1).addr (i := k57) (by omega)) (by omega)) (WL.val (v := .agg (OpD.cells x71).toArray) rfl (Yl.load rfl (Lds.agg (cs := (OpD.cells x71)) Try.isAgg37 Try.sizeOf37 ((H61.ro hx1).elem OpD.len hx72 (by decide)))) ?_))))))))
  refine WL.do rfl (Do.newP (cs := [.int .i64 0, .string ⟨List.toArray ([])⟩, .string ⟨List.toArray ([])⟩, .string ⟨List.toArray ([])⟩, .string ⟨List.toArray ([])⟩, .int .i64 0]) (t := 37) H61 rfl rfl (fun _ => by kernel_rfl) ?_)
  intro g74 w75 H76
  replace H76 : Own w D w75 [blk g74 [.int .i64 0, .string ⟨List.toArray ([])⟩, .string ⟨List.toArray ([])⟩, .string ⟨List.toArray ([])⟩, .string ⟨List.toArray ([])⟩, .int .i64 0] 37, row A50 (List.length l52) c51 (List.flatMap PairD.cells l52) 32 2, row A53 (List.length l55) c54 (List.flatMap ResultD.cells d56) 34 3, sepL (List.flatMap ResultD.own d56)] := H76
  refine WL.do0 (Do.store (vs := (OpD.cells x71)) (o := 0) H76 rfl rfl Try.sizeOf37 rfl rfl rfl rfl ?_)
  intro w77 H78
  replace H78 : Own w D w77 [blk g74 (OpD.cells x71) 37, row A50 (List.length l52) c51 (List.flatMap PairD.cells l52) 32 2, row A53 (List.length l55) c54 (List.flatMap ResultD.cells d56) 34 3, sepL (List.flatMap ResultD.own d56)] := H78
  refine WL.nil (Fin.then (Wp.seq (Wp.region (Mv rfl rfl (WL.val (v := .agg (OpD.cells x71).toArray) rfl (Yl.load rfl (Lds.agg (cs := (OpD.cells x71)) Try.isAgg37 Try.sizeOf37 ((H78.cls (i := 0) rfl).lit (k := 0) (m := 6) rfl))) ?_)))))
  have H79 : Own w D w77 [row A50 (List.length l52) c51 (List.flatMap PairD.cells l52) 32 2, blk g74 (OpD.cells x71) 37, row A53 (List.length l55) c54 (List.flatMap ResultD.cells d56) 34 3, sepL (List.flatMap ResultD.own d56)] := H78.pick [1, 0, 2, 3] (by decide) rfl
  obtain ⟨⟨r85, r86⟩, hr87⟩ : ∃ q : (List PairD) × ResultT, r04_Do l52 x71 = q := ⟨_, rfl⟩
  obtain ⟨D80, HP81, ro82, bk83, rr84⟩ := Own.enter1 H79
  refine WL.do rfl (Do.call Try.call16 rfl (r04_Do_ok _ _ A50 (List.length l52) c51 l52 x71 r85 r86 HP81 rfl (by omega) (by omega) hr87) ?_)
  rintro _ w88 ⟨A91, c92, A93, c94, rfl, HQ89, hk95⟩
  have H90 : Own w D w88 [row A91 (List.length r85) c92 (List.flatMap PairD.cells r85) 32 2, row A93 (List.length r86.xPairs.ls) c94 (List.flatMap PairD.cells r86.xPairs.ls) 32 2, blk g74 (OpD.cells x71) 37, row A53 (List.length l55) c54 (List.flatMap ResultD.cells d56) 34 3, sepL (List.flatMap ResultD.own d56)] := bk83 _ _ HQ89
  have hb96 := H90.rowC (i := 0) rfl
  have hb97 := H90.rowC (i := 1) rfl
  replace hk95 : List.length r85 ≤ List.length l52 + 1 := hk95
  refine Mv rfl rfl (Kn (v := .slice A91 (List.length r85) c92) rfl rfl rfl (fun _ => by kernel_rfl) (Kn (v := .agg #[.bool r86.xFound, .string ⟨List.toArray r86.xValue⟩, .slice A93 (List.length r86.xPairs.ls) c94]) rfl rfl rfl (fun _ => by kernel_rfl) ?_))
  refine WL.do rfl (Do.newP (cs := [.bool false, .string ⟨List.toArray ([])⟩, .slice none 0 0]) (t := 34) H90 rfl rfl (fun _ => by kernel_rfl) ?_)
  intro g98 w99 H100
  replace H100 : Own w D w99 [blk g98 [.bool false, .string ⟨List.toArray ([])⟩, .slice none 0 0] 34, row A91 (List.length r85) c92 (List.flatMap PairD.cells r85) 32 2, row A93 (List.length r86.xPairs.ls) c94 (List.flatMap PairD.cells r86.xPairs.ls) 32 2, blk g74 (OpD.cells x71) 37, row A53 (List.length l55) c54 (List.flatMap ResultD.cells d56) 34 3, sepL (List.flatMap ResultD.own d56)] := H100
  refine As rfl rfl ?_
  refine WL.do0 (Do.store (vs := [.bool r86.xFound, .string ⟨List.toArray r86.xValue⟩, .slice A93 (List.length r86.xPairs.ls) c94]) (o := 0) H100 rfl rfl Try.sizeOf34 rfl rfl rfl rfl ?_)
  intro w101 H102
  replace H102 : Own w D w101 [blk g98 [.bool r86.xFound, .string ⟨List.toArray r86.xValue⟩, .slice A93 (List.length r86.xPairs.ls) c94] 34, row A91 (List.length r85) c92 (List.flatMap PairD.cells r85) 32 2, row A93 (List.length r86.xPairs.ls) c94 (List.flatMap PairD.cells r86.xPairs.ls) 32 2, blk g74 (OpD.cells x71) 37, row A53 (List.length l55) c54 (List.flatMap ResultD.cells d56) 34 3, sepL (List.flatMap ResultD.own d56)] := H102
  refine WL.nil (Fin.then (Wp.seq (Wp.region (Mv rfl rfl (As rfl rfl (WL.nil (Fin.then (Wp.region (Mv rfl rfl (WL.val (v := .agg #[.bool r86.xFound, .string ⟨List.toArray r86.xValue⟩, .slice A93 (List.length r86.xPairs.ls) c94]) rfl (Yl.load rfl (Lds.agg (cs := [.bool r86.xFound, .string ⟨List.toArray r86.xValue⟩, .slice A93 (List.length r86.xPairs.ls) c94]) Try.isAgg34 Try.sizeOf34 ((H102.cls (i := 0) rfl).lit (k := 0) (m := 3) rfl))) ?_))))))))))
  refine WL.do rfl (Do.newRow (cs := [.bool r86.xFound, .string ⟨List.toArray r86.xValue⟩, .slice A93 (List.length r86.xPairs.ls) c94]) (t := 34) (sz := 3) (m := 1) H102 rfl rfl (fun _ => by kernel_rfl) rfl (by decide) ?_)
  intro A103 w104 H105
  replace H105 : Own w D w104 [row A103 1 1 (List.flatMap ResultD.cells ([(ResultD.mk r86.xFound r86.xValue (Sv.mk A93 c94 r86.xPairs.ls))])) 34 3, blk g98 [.bool r86.xFound, .string ⟨List.toArray r86.xValue⟩, .slice A93 (List.length r86.xPairs.ls) c94] 34, row A91 (List.length r85) c92 (List.flatMap PairD.cells r85) 32 2, row A93 (List.length r86.xPairs.ls) c94 (List.flatMap PairD.cells r86.xPairs.ls) 32 2, blk g74 (OpD.cells x71) 37, row A53 (List.length l55) c54 (List.flatMap ResultD.cells d56) 34 3, sepL (List.flatMap ResultD.own d56)] := H105
  have H106 : Own w D w104 [row A53 (List.length l55) c54 (List.flatMap ResultD.cells d56) 34 3, sepL (List.flatMap ResultD.own d56), row A93 (List.length r86.xPairs.ls) c94 (List.flatMap PairD.cells r86.xPairs.ls) 32 2, row A103 1 1 (List.flatMap ResultD.cells ([(ResultD.mk r86.xFound r86.xValue (Sv.mk A93 c94 r86.xPairs.ls))])) 34 3, blk g98 [.bool r86.xFound, .string ⟨List.toArray r86.xValue⟩, .slice A93 (List.length r86.xPairs.ls) c94] 34, row A91 (List.length r85) c92 (List.flatMap PairD.cells r85) 32 2, blk g74 (OpD.cells x71) 37] := H105.pick [5, 6, 3, 0, 1, 2, 4] (by decide) rfl
  refine WL.do rfl (Do.appendW (k := List.length l55) (m := 1) (El25) H106 rfl rfl (src_of Try.underlying25 (H106.rds (i := 3) rfl) (flat_one ResultD.one ([(ResultD.mk r86.xFound r86.xValue (Sv.mk A93 c94 r86.xPairs.ls))]))) rfl (by omega) (s := List.length (l55 ++ [r86])) (by first | omega | (simp only [List.length_append, List.length_cons, List.length_nil] <;> omega)) (List.flatMap_append).symm ?_)
  intro A107 c108 w109 H110
  replace H110 : Own w D w109 [row A107 (List.length (l55 ++ [r86])) c108 (List.flatMap ResultD.cells (d56 ++ [(ResultD.mk r86.xFound r86.xValue (Sv.mk A93 c94 r86.xPairs.ls))])) 34 3, sepL (List.flatMap ResultD.own d56), row A93 (List.length r86.xPairs.ls) c94 (List.flatMap PairD.cells r86.xPairs.ls) 32 2, row A103 1 1 (List.flatMap ResultD.cells ([(ResultD.mk r86.xFound r86.xValue (Sv.mk A93 c94 r86.xPairs.ls))])) 34 3, blk g98 [.bool r86.xFound, .string ⟨List.toArray r86.xValue⟩, .slice A93 (List.length r86.xPairs.ls) c94] 34, row A91 (List.length r85) c92 (List.flatMap PairD.cells r85) 32 2, blk g74 (OpD.cells x71) 37] := H110
  have H111 : Own w D w109 [sepL (List.flatMap ResultD.own d56), row A93 (List.length r86.xPairs.ls) c94 (List.flatMap PairD.cells r86.xPairs.ls) 32 2, row A107 (List.length (l55 ++ [r86])) c108 (List.flatMap ResultD.cells (d56 ++ [(ResultD.mk r86.xFound r86.xValue (Sv.mk A93 c94 r86.xPairs.ls))])) 34 3, row A103 1 1 (List.flatMap ResultD.cells ([(ResultD.mk r86.xFound r86.xValue (Sv.mk A93 c94 r86.xPairs.ls))])) 34 3, blk g98 [.bool r86.xFound, .string ⟨List.toArray r86.xValue⟩, .slice A93 (List.length r86.xPairs.ls) c94] 34, row A91 (List.length r85) c92 (List.flatMap PairD.cells r85) 32 2, blk g74 (OpD.cells x71) 37] := H110.pick [1, 2, 0, 3, 4, 5, 6] (by decide) rfl
  have H112 : Own w D w109 [sepL (List.flatMap ResultD.own (d56 ++ [(ResultD.mk r86.xFound r86.xValue (Sv.mk A93 c94 r86.xPairs.ls))])), row A107 (List.length (l55 ++ [r86])) c108 (List.flatMap ResultD.cells (d56 ++ [(ResultD.mk r86.xFound r86.xValue (Sv.mk A93 c94 r86.xPairs.ls))])) 34 3, row A103 1 1 (List.flatMap ResultD.cells ([(ResultD.mk r86.xFound r86.xValue (Sv.mk A93 c94 r86.xPairs.ls))])) 34 3, blk g98 [.bool r86.xFound, .string ⟨List.toArray r86.xValue⟩, .slice A93 (List.length r86.xPairs.ls) c94] 34, row A91 (List.length r85) c92 (List.flatMap PairD.cells r85) 32 2, blk g74 (OpD.cells x71) 37] := H111.sepAdd (L2 := [row A93 (List.length r86.xPairs.ls) c94 (List.flatMap PairD.cells r86.xPairs.ls) 32 2]) (List.flatMap_append (f := ResultD.own) (xs := d56) (ys := [(ResultD.mk r86.xFound r86.xValue (Sv.mk A93 c94 r86.xPairs.ls))])).symm
  have hl113 : List.length (l55 ++ [r86]) = List.length l55 + 1 := by simp only [List.length_append, List.length_cons, List.length_nil]
  have hl114 := abs_len (abs_app (es := [(ResultD.mk r86.xFound r86.xValue (Sv.mk A93 c94 r86.xPairs.ls))]) (ms := [r86]) hi64 rfl)
  refine As rfl rfl (WL.nil (Fin.blockN (Fin.then (Wp.region (WL.val (v := .int .i64 ((k57 + 1 : Nat) : Int)) rfl (Yl.int (e := IntKind.i64.wrap (((k57 : Nat) : Int) + 1)) (Yl.kern rfl rfl (fun _ => by kernel_rfl)) (by rw [IntWalk.i64_in _ (by omega)]; omega)) (Mv rfl rfl (WL.nil ?_)))))))
  have H115 : Own w D w109 [row A91 (List.length r85) c92 (List.flatMap PairD.cells r85) 32 2, row A107 (List.length (l55 ++ [r86])) c108 (List.flatMap ResultD.cells (d56 ++ [(ResultD.mk r86.xFound r86.xValue (Sv.mk A93 c94 r86.xPairs.ls))])) 34 3, sepL (List.flatMap ResultD.own (d56 ++ [(ResultD.mk r86.xFound r86.xValue (Sv.mk A93 c94 r86.xPairs.ls))]))] := H112.pick [4, 1, 0] (by decide) rfl
  exact Fin.round (A91, c92, r85, A107, c108, (d56 ++ [(ResultD.mk r86.xFound r86.xValue (Sv.mk A93 c94 r86.xPairs.ls))]), (l55 ++ [r86]), k57 + 1) ⟨rfl, rfl, rfl, rfl, rfl, rfl, rfl, rfl, trivial⟩ ⟨H115, (show List.map ResultD.abs (d56 ++ [(ResultD.mk r86.xFound r86.xValue (Sv.mk A93 c94 r86.xPairs.ls))]) = (l55 ++ [r86]) ∧ (k57 + 1) ≤ List.length l1 ∧ List.length r85 ≤ List.length l0 + (k57 + 1) ∧ List.length (l55 ++ [r86]) = (k57 + 1) ∧ List.length (l55 ++ [r86]) ≤ (k57 + 1) ∧ r04_Apply_L0 l1 l0 ([]) = r04_Apply_L0 (List.drop (k57 + 1) l1) r85 (l55 ++ [r86]) from ⟨by exact (abs_app (es := [(ResultD.mk r86.xFound r86.xValue (Sv.mk A93 c94 r86.xPairs.ls))]) (ms := [r86]) hi64 rfl), by omega, by omega, by omega, by omega, Eq.trans (hq63) (Eq.trans (congrArg (fun q => r04_Apply_L0 q l52 l55) hd73) (bnd_of hr87))⟩)⟩ (by show List.length l1 - (k57 + 1) < List.length l1 - k57; omega)
  refine Wp.cond0 rfl (decide_eq_false h70) (Wp.exit (Fin.thenX ?_))
  have hL116 : r04_Apply_L0 l1 l0 ([]) = (l52, l55) := Eq.trans (hq63) (Eq.trans (congrArg (fun q => r04_Apply_L0 q l52 l55) (drop_end (ls := l1) (i := k57) (by omega))) rfl)
  refine Fin.thenX (Fin.blockX (Fin.then (Wp.seq (Wp.region (Mv rfl rfl (Mv rfl rfl (As rfl rfl (As rfl rfl (As rfl rfl (WL.nil (Fin.then (Wp.ret (Fin.res (res3 rfl rfl rfl rfl) ?_)))))))))))))
  have H117 : Own w D w60 [row A50 (List.length l52) c51 (List.flatMap PairD.cells l52) 32 2, row A53 (List.length l55) c54 (List.flatMap ResultD.cells d56) 34 3, sepL (List.flatMap ResultD.own d56)] := H61.pick [0, 1, 2] (by decide) rfl
  have e : r04_Apply l0 l1 = (l52, l55, 0) := Eq.trans (bnd_of hr27) (Eq.trans (if_pos h31) (Eq.trans (bnd_of hr38) (Eq.trans (if_pos h42) (bnd_of hL116))))
  obtain ⟨rfl, rfl, rfl⟩ := pj3 (e.symm.trans hr)
  exact ⟨A50, c51, A53, c54, d56, rfl, H117, hi64, (by first | omega | exact Nat.zero_le _), (by first | omega | exact Nat.zero_le _)⟩
  refine Wp.cond1 rfl (decide_eq_true h42) (Wp.seq (Wp.region (Mv rfl rfl (As rfl rfl (As rfl rfl (As rfl rfl (WL.nil (Fin.then (Wp.ret (Fin.thenR (Fin.res (res3 rfl rfl rfl rfl) ?_)))))))))))
  have H118 : Own w D w39 [row none 0 0 (List.flatMap PairD.cells ([])) 32 2] := H41.free (row_nil 32 2)
  have H119 : Own w D w39 [sepL (List.flatMap ResultD.own ([])), row none 0 0 (List.flatMap PairD.cells ([])) 32 2] := H118.sepNil
  have H120 : Own w D w39 [row none 0 0 (List.flatMap ResultD.cells ([])) 34 3, sepL (List.flatMap ResultD.own ([])), row none 0 0 (List.flatMap PairD.cells ([])) 32 2] := H119.free (row_nil 34 3)
  have H121 : Own w D w39 [row none 0 0 (List.flatMap PairD.cells ([])) 32 2, row none 0 0 (List.flatMap ResultD.cells ([])) 34 3, sepL (List.flatMap ResultD.own ([]))] := H120.pick [2, 0, 1] (by decide) rfl
  have e : r04_Apply l0 l1 = ([], [], r37) := Eq.trans (bnd_of hr27) (Eq.trans (if_pos h31) (Eq.trans (bnd_of hr38) (if_neg h42)))
  obtain ⟨rfl, rfl, rfl⟩ := pj3 (e.symm.trans hr)
  exact ⟨none, 0, none, 0, [], rfl, H121, rfl, (by first | omega | exact Nat.zero_le _), (by first | omega | exact Nat.zero_le _)⟩
  refine Wp.cond1 rfl (decide_eq_true h31) (Wp.seq (Wp.region (Mv rfl rfl (As rfl rfl (As rfl rfl (As rfl rfl (WL.nil (Fin.then (Wp.ret (Fin.thenR (Fin.res (res3 rfl rfl rfl rfl) ?_)))))))))))
  have H122 : Own w D w28 [row none 0 0 (List.flatMap PairD.cells ([])) 32 2] := H30.free (row_nil 32 2)
  have H123 : Own w D w28 [sepL (List.flatMap ResultD.own ([])), row none 0 0 (List.flatMap PairD.cells ([])) 32 2] := H122.sepNil
  have H124 : Own w D w28 [row none 0 0 (List.flatMap ResultD.cells ([])) 34 3, sepL (List.flatMap ResultD.own ([])), row none 0 0 (List.flatMap PairD.cells ([])) 32 2] := H123.free (row_nil 34 3)
  have H125 : Own w D w28 [row none 0 0 (List.flatMap PairD.cells ([])) 32 2, row none 0 0 (List.flatMap ResultD.cells ([])) 34 3, sepL (List.flatMap ResultD.own ([]))] := H124.pick [2, 0, 1] (by decide) rfl
  have e : r04_Apply l0 l1 = ([], [], r26) := Eq.trans (bnd_of hr27) (if_neg h31)
  obtain ⟨rfl, rfl, rfl⟩ := pj3 (e.symm.trans hr)
  exact ⟨none, 0, none, 0, [], rfl, H125, rfl, (by first | omega | exact Nat.zero_le _), (by first | omega | exact Nat.zero_le _)⟩

def r04_SameResults_L0 (l1 : List ResultT) : List ResultT → Nat → Unit ⊕ Bool
  | [], k22 => Sum.inl ()
  | x31 :: q23, k22 => bnd (List.getD l1 k22 default) fun yx38 => if x31.xFound = yx38.xFound then if x31.xValue ≠ yx38.xValue then Sum.inr (false) else bnd (r04_SameMap x31.xPairs.ls yx38.xPairs.ls) fun yr50 => if yr50 = true then r04_SameResults_L0 l1 q23 (k22 + 1) else Sum.inr (false) else Sum.inr (false)

def r04_SameResults (l0 : List ResultT) (l1 : List ResultT) : Bool :=
  if ((List.length l0 : Nat) : Int) = ((List.length l1 : Nat) : Int) then lp (r04_SameResults_L0 l1 l0 0) fun _ => true else false

set_option maxRecDepth 100000 in
theorem r04_SameResults_ok (w : World) (D : Nat → Prop) (A0 : Option Addr) (n0 c0 : Nat) (d0 : List ResultD) (l0 : List ResultT) (A1 : Option Addr) (n1 c1 : Nat) (d1 : List ResultD) (l1 : List ResultT) (r0 : Bool) (H : Own w D w []) (hd0 : List.map ResultD.abs d0 = l0) (hx0 : Ro w D fun w' => Rds w' 3 A0 n0 (List.flatMap ResultD.cells d0)) (hm0 : ∀ x ∈ d0, Ro w D (fun w' => Rds w' 2 x.xPairs.A (List.length x.xPairs.ls) (List.flatMap PairD.cells x.xPairs.ls)) ∧ List.length x.xPairs.ls ≤ 9223372036854775807) (hn0 : n0 = List.length l0) (hl0 : List.length l0 * 48 ≤ 211106232532992) (hd1 : List.map ResultD.abs d1 = l1) (hx1 : Ro w D fun w' => Rds w' 3 A1 n1 (List.flatMap ResultD.cells d1)) (hm1 : ∀ x ∈ d1, Ro w D (fun w' => Rds w' 2 x.xPairs.A (List.length x.xPairs.ls) (List.flatMap PairD.cells x.xPairs.ls)) ∧ List.length x.xPairs.ls ≤ 9223372036854775807) (hn1 : n1 = List.length l1) (hl1 : List.length l1 * 48 ≤ 211106232532992) (hr : r04_SameResults l0 l1 = r0) :
    Calls Try.prog 8 #[.slice A0 n0 c0, .slice A1 n1 c1] w (Ret fun v w' => v = .bool r0 ∧ Own w D w' []) := by
  subst hn0 hn1
  have hdl0 := abs_len hd0
  have hdl1 := abs_len hd1
  refine Calls.body (args := [.slice A0 (List.length l0) c0, .slice A1 (List.length l1) c1]) Try.func8 rfl rfl rfl ?_
  show Wp _ _ _ [(0, .slice A0 (List.length l0) c0), (1, .slice A1 (List.length l1) c1)] _ _
  refine Wp.seq (Wp.region (As rfl rfl (WL.nil (Fin.then (Wp.seq (Wp.seq (Wp.region (Mv rfl rfl (Kn (v := .int .i64 ((List.length l0 : Nat) : Int)) rfl rfl rfl (fun _ => by kernel_rfl) (Mv rfl rfl (Kn (v := .int .i64 ((List.length l1 : Nat) : Int)) rfl rfl rfl (fun _ => by kernel_rfl) (WL.val (v := .bool (decide (¬ (((List.length l0 : Nat) : Int) = ((List.length l1 : Nat) : Int))))) rfl (Yl.bool (e := !(decide (((List.length l0 : Nat) : Int) = ((List.length l1 : Nat) : Int)))) (Yl.kern rfl rfl (fun _ => by kernel_rfl)) decide_not.symm) (WL.nil (Fin.then ?_))))))))))))))
  by_cases h21 : ((List.length l0 : Nat) : Int) = ((List.length l1 : Nat) : Int)
  refine Wp.cond0 rfl (decide_eq_false (not_not_intro h21)) (Wp.skip (Fin.then (Wp.seq (Wp.seq (Wp.region (Mv rfl rfl (Kn (v := .int .i64 ((List.length l0 : Nat) : Int)) rfl rfl rfl (fun _ => by kernel_rfl) (Mv rfl rfl (WL.nil (Fin.then (Wp.block ?_)))))))))))
  have H24 : Own w D w [] := H.pick [] (by decide) rfl
  refine Wp.loop (ι := Nat) (fun i => [(4, .bool false), (13, .int .i64 ((i : Nat) : Int)), (12, .int .i64 ((List.length l0 : Nat) : Int)), (0, .slice A0 (List.length l0) c0), (1, .slice A1 (List.length l1) c1)]) (fun (i : Nat) w' => Own w D w' [] ∧ (i ≤ List.length l0 ∧ r04_SameResults_L0 l1 l0 0 = r04_SameResults_L0 l1 (List.drop i l0) i)) (fun i => List.length l0 - i) 0 ⟨rfl, rfl, rfl, rfl, rfl, trivial⟩ ⟨H24, (show 0 ≤ List.length l0 ∧ r04_SameResults_L0 l1 l0 0 = r04_SameResults_L0 l1 (List.drop 0 l0) 0 from ⟨by omega, rfl⟩)⟩ ?_
  rintro k22 w25 ⟨H26, hf27⟩
  show Wp _ _ _ [(4, .bool false), (13, .int .i64 ((k22 : Nat) : Int)), (12, .int .i64 ((List.length l0 : Nat) : Int)), (0, .slice A0 (List.length l0) c0), (1, .slice A1 (List.length l1) c1)] _ _
  replace H26 : Own w D w25 [] := H26
  replace hf27 : k22 ≤ List.length l0 ∧ r04_SameResults_L0 l1 l0 0 = r04_SameResults_L0 l1 (List.drop k22 l0) k22 := hf27
  obtain ⟨hi29, hq28⟩ := hf27
  refine Wp.seq (Wp.region (Kn (v := .bool (decide (((k22 : Nat) : Int) < ((List.length l0 : Nat) : Int)))) rfl rfl rfl (fun _ => by kernel_rfl) (WL.nil (Fin.then (Wp.seq ?_)))))
  by_cases h30 : ((k22 : Nat) : Int) < ((List.length l0 : Nat) : Int)
  obtain ⟨x31, hx32⟩ := rds_at (ls := d0) (i := k22) ResultD.len (by decide) (H26.ro hx0) (by first | omega | (simp; done) | (simp; omega))
  have hX33 := abs_at hd0 hx32
  have hb34 := (hm0 _ (List.mem_of_getElem? hx32)).2
  have hd35 := drop_at hX33
  refine Wp.cond1 rfl (decide_eq_true h30) (Wp.skip (Fin.then (Wp.seq (Wp.block (Wp.seq (Wp.region (Mv rfl rfl (As rfl rfl (WL.nil (Fin.then (Wp.seq ?_)))))))))))
  have H37 := H26.drew
  refine Wp.drawnX [] (fun W => ∃ L', Own w D W ([] ++ L')) (by kernel_rfl) (by kernel_rfl) (NoP.then (NoP.block (NoP.then (NoP.then (NoP.block (NoP.then NoP.base)))))) ⟨_, H37⟩ ?_
  revert H37
  generalize World.drew w25 = w36
  intro H37
  replace H37 : Own w D w36 [] := H37
  refine GX.take (v := .slice A0 (List.length l0) c0) (rs := []) 0 rfl (by kernel_rfl) (fun _ _ => Yl.move rfl) (GX.take (v := .int .i64 ((k22 : Nat) : Int)) (rs := []) 1 rfl (by kernel_rfl) (fun _ _ => Yl.move rfl) (GX.take (v := .pointer (some ⟨ab A0, ao A0 + k22 * 3, none⟩)) (rs := []) 2 rfl (by kernel_rfl) (fun _ ⟨_, H9⟩ => Yl.indexAddr (El25) rfl rfl ((H9.ro hx0).addr (i := k22) (by omega)) (by omega)) (GX.take (v := .pointer (some ⟨ab A0, ao A0 + k22 * 3, none⟩)) (rs := []) 3 rfl (by kernel_rfl) (fun _ _ => Yl.kern rfl rfl (fun _ => by kernel_rfl)) (GX.take (v := .bool x31.xFound) (rs := []) 4 rfl (by kernel_rfl) (fun _ ⟨_, H9⟩ => Yl.load rfl (Lds.one Try.isAgg4 (((H9.ro hx0).elem ResultD.len hx32 (by decide)).at_ (k := 0) rfl))) (GX.take (v := .slice A1 (List.length l1) c1) (rs := []) 5 rfl (by kernel_rfl) (fun _ _ => Yl.move rfl) (GX.take (v := .int .i64 ((k22 : Nat) : Int)) (rs := []) 6 rfl (by kernel_rfl) (fun _ _ => Yl.move rfl) ?_))))))
  obtain ⟨x38, hx39⟩ := at_of (ls := d1) (i := k22) (by first | omega | (simp; done) | (simp; omega))
  have hX40 := abs_at hd1 hx39
  have hb41 := (hm1 _ (List.mem_of_getElem? hx39)).2
  refine GX.take (v := .pointer (some ⟨ab A1, ao A1 + k22 * 3, none⟩)) (rs := []) 7 rfl (by kernel_rfl) (fun _ ⟨_, H9⟩ => Yl.indexAddr (El25) rfl rfl ((H9.ro hx1).addr (i := k22) (by omega)) (by omega)) (GX.take (v := .pointer (some ⟨ab A1, ao A1 + k22 * 3, none⟩)) (rs := []) 8 rfl (by kernel_rfl) (fun _ _ => Yl.kern rfl rfl (fun _ => by kernel_rfl)) (GX.take (v := .bool x38.xFound) (rs := []) 9 rfl (by kernel_rfl) (fun _ ⟨_, H9⟩ => Yl.load rfl (Lds.one Try.isAgg4 (((H9.ro hx1).elem ResultD.len hx39 (by decide)).at_ (k := 0) rfl))) (GX.take (v := .bool (decide (¬ (x31.xFound = x38.xFound)))) (rs := []) 10 rfl (by kernel_rfl) (fun _ _ => Yl.bool (e := !(x31.xFound == x38.xFound)) (Yl.kern rfl rfl (fun _ => by kernel_rfl)) (by first | (rw [Bool.beq_eq_decide_eq]; exact decide_not.symm) | (by_cases q : x31.xFound = x38.xFound <;> simp [q]))) (GX.take (v := .bool (decide (¬ (x31.xFound = x38.xFound)))) (rs := []) 11 rfl (by kernel_rfl) (fun _ _ => Yl.move rfl) ?_))))
  by_cases h42 : x31.xFound = x38.xFound
  refine GX.takeG (v := .slice A0 (List.length l0) c0) (rs := []) 12 rfl rfl rfl (decide_eq_false (not_not_intro h42)) (by kernel_rfl) (fun _ _ => Yl.move rfl) (GX.takeG (v := .int .i64 ((k22 : Nat) : Int)) (rs := []) 13 rfl rfl rfl (decide_eq_false (not_not_intro h42)) (by kernel_rfl) (fun _ _ => Yl.move rfl) (GX.takeG (v := .pointer (some ⟨ab A0, ao A0 + k22 * 3, none⟩)) (rs := []) 14 rfl rfl rfl (decide_eq_false (not_not_intro h42)) (by kernel_rfl) (fun _ ⟨_, H9⟩ => Yl.indexAddr (El25) rfl rfl ((H9.ro hx0).addr (i := k22) (by omega)) (by omega)) (GX.takeG (v := .pointer (some ⟨ab A0, ao A0 + k22 * 3 + 1, none⟩)) (rs := []) 15 rfl rfl rfl (decide_eq_false (not_not_intro h42)) (by kernel_rfl) (fun _ _ => Yl.kern rfl rfl (fun _ => by kernel_rfl)) (GX.takeG (v := .string ⟨List.toArray x31.xValue⟩) (rs := []) 16 rfl rfl rfl (decide_eq_false (not_not_intro h42)) (by kernel_rfl) (fun _ ⟨_, H9⟩ => Yl.load rfl (Lds.one Try.isAgg9 (((H9.ro hx0).elem ResultD.len hx32 (by decide)).at_ (k := 1) rfl))) (GX.takeG (v := .slice A1 (List.length l1) c1) (rs := []) 17 rfl rfl rfl (decide_eq_false (not_not_intro h42)) (by kernel_rfl) (fun _ _ => Yl.move rfl) (GX.takeG (v := .int .i64 ((k22 : Nat) : Int)) (rs := []) 18 rfl rfl rfl (decide_eq_false (not_not_intro h42)) (by kernel_rfl) (fun _ _ => Yl.move rfl) (GX.takeG (v := .pointer (some ⟨ab A1, ao A1 + k22 * 3, none⟩)) (rs := []) 19 rfl rfl rfl (decide_eq_false (not_not_intro h42)) (by kernel_rfl) (fun _ ⟨_, H9⟩ => Yl.indexAddr (El25) rfl rfl ((H9.ro hx1).addr (i := k22) (by omega)) (by omega)) (GX.takeG (v := .pointer (some ⟨ab A1, ao A1 + k22 * 3 + 1, none⟩)) (rs := []) 20 rfl rfl rfl (decide_eq_false (not_not_intro h42)) (by kernel_rfl) (fun _ _ => Yl.kern rfl rfl (fun _ => by kernel_rfl)) (GX.takeG (v := .string ⟨List.toArray x38.xValue⟩) (rs := []) 21 rfl rfl rfl (decide_eq_false (not_not_intro h42)) (by kernel_rfl) (fun _ ⟨_, H9⟩ => Yl.load rfl (Lds.one Try.isAgg9 (((H9.ro hx1).elem ResultD.len hx39 (by decide)).at_ (k := 1) rfl))) (GX.takeG (v := .bool (decide (x31.xValue ≠ x38.xValue))) (rs := []) 22 rfl rfl rfl (decide_eq_false (not_not_intro h42)) (by kernel_rfl) (fun _ _ => Yl.strNe rfl rfl) (GX.take (v := .bool (decide (x31.xValue ≠ x38.xValue))) (rs := []) 23 rfl (by kernel_rfl) (fun _ _ => Yl.pickF rfl (decide_eq_false (not_not_intro h42)) rfl) (GX.take (v := .bool (decide (x31.xValue ≠ x38.xValue))) (rs := []) 24 rfl (by kernel_rfl) (fun _ _ => Yl.move rfl) ?_))))))))))))
  by_cases h43 : x31.xValue ≠ x38.xValue
  refine GX.skipG (rs := []) 25 rfl rfl rfl (decide_eq_true h43) (by kernel_rfl) (GX.skipG (rs := []) 26 rfl rfl rfl (decide_eq_true h43) (by kernel_rfl) (GX.skipG (rs := []) 27 rfl rfl rfl (decide_eq_true h43) (by kernel_rfl) (GX.skipG (rs := []) 28 rfl rfl rfl (decide_eq_true h43) (by kernel_rfl) (GX.skipG (rs := []) 29 rfl rfl rfl (decide_eq_true h43) (by kernel_rfl) (GX.skipG (rs := []) 30 rfl rfl rfl (decide_eq_true h43) (by kernel_rfl) (GX.skipG (rs := []) 31 rfl rfl rfl (decide_eq_true h43) (by kernel_rfl) (GX.skipG (rs := []) 32 rfl rfl rfl (decide_eq_true h43) (by kernel_rfl) (GX.skipG (rs := []) 33 rfl rfl rfl (decide_eq_true h43) (by kernel_rfl) (GX.skipG (rs := []) 34 rfl rfl rfl (decide_eq_true h43) (by kernel_rfl) (GX.skipG (rs := []) 35 rfl rfl rfl (decide_eq_true h43) (by kernel_rfl) (GX.skipG (rs := []) 36 rfl rfl rfl (decide_eq_true h43) (by kernel_rfl) (GX.take (v := .bool true) (rs := []) 37 rfl (by kernel_rfl) (fun _ _ => Yl.pickT rfl (decide_eq_true h43) rfl) (GX.done (by kernel_rfl) (Fin.then (Wp.cond1 rfl rfl (Wp.seq (Wp.region (As rfl rfl (WL.nil (Fin.then (Wp.ret (Fin.blockR (Fin.thenR (Fin.thenR (Fin.blockR (Fin.thenR (Fin.res (res1 rfl rfl) ?_)))))))))))))))))))))))))))
  have H44 : Own w D w36 [] := H37.pick [] (by decide) rfl
  have e : r04_SameResults l0 l1 = false := Eq.trans (if_pos h21) (lp_r (Eq.trans (hq28) (Eq.trans (congrArg (fun q => r04_SameResults_L0 l1 q k22) hd35) (Eq.trans (bnd_of (getD_of hX40)) (Eq.trans (if_pos h42) (if_pos h43))))))
  obtain rfl := e.symm.trans hr
  exact ⟨rfl, H44⟩
  refine GX.takeG (v := .slice A0 (List.length l0) c0) (rs := []) 25 rfl rfl rfl (decide_eq_false h43) (by kernel_rfl) (fun _ _ => Yl.move rfl) (GX.takeG (v := .int .i64 ((k22 : Nat) : Int)) (rs := []) 26 rfl rfl rfl (decide_eq_false h43) (by kernel_rfl) (fun _ _ => Yl.move rfl) (GX.takeG (v := .pointer (some ⟨ab A0, ao A0 + k22 * 3, none⟩)) (rs := []) 27 rfl rfl rfl (decide_eq_false h43) (by kernel_rfl) (fun _ ⟨_, H9⟩ => Yl.indexAddr (El25) rfl rfl ((H9.ro hx0).addr (i := k22) (by omega)) (by omega)) (GX.takeG (v := .pointer (some ⟨ab A0, ao A0 + k22 * 3 + 2, none⟩)) (rs := []) 28 rfl rfl rfl (decide_eq_false h43) (by kernel_rfl) (fun _ _ => Yl.kern rfl rfl (fun _ => by kernel_rfl)) (GX.takeG (v := .slice x31.xPairs.A (List.length x31.xPairs.ls) x31.xPairs.c) (rs := []) 29 rfl rfl rfl (decide_eq_false h43) (by kernel_rfl) (fun _ ⟨_, H9⟩ => Yl.load rfl (Lds.one Try.isAgg22 (((H9.ro hx0).elem ResultD.len hx32 (by decide)).at_ (k := 2) rfl))) (GX.takeG (v := .slice A1 (List.length l1) c1) (rs := []) 30 rfl rfl rfl (decide_eq_false h43) (by kernel_rfl) (fun _ _ => Yl.move rfl) (GX.takeG (v := .int .i64 ((k22 : Nat) : Int)) (rs := []) 31 rfl rfl rfl (decide_eq_false h43) (by kernel_rfl) (fun _ _ => Yl.move rfl) (GX.takeG (v := .pointer (some ⟨ab A1, ao A1 + k22 * 3, none⟩)) (rs := []) 32 rfl rfl rfl (decide_eq_false h43) (by kernel_rfl) (fun _ ⟨_, H9⟩ => Yl.indexAddr (El25) rfl rfl ((H9.ro hx1).addr (i := k22) (by omega)) (by omega)) (GX.takeG (v := .pointer (some ⟨ab A1, ao A1 + k22 * 3 + 2, none⟩)) (rs := []) 33 rfl rfl rfl (decide_eq_false h43) (by kernel_rfl) (fun _ _ => Yl.kern rfl rfl (fun _ => by kernel_rfl)) (GX.takeG (v := .slice x38.xPairs.A (List.length x38.xPairs.ls) x38.xPairs.c) (rs := []) 34 rfl rfl rfl (decide_eq_false h43) (by kernel_rfl) (fun _ ⟨_, H9⟩ => Yl.load rfl (Lds.one Try.isAgg22 (((H9.ro hx1).elem ResultD.len hx39 (by decide)).at_ (k := 2) rfl))) ?_)))))))))
  obtain ⟨r50, hr51⟩ : ∃ q, r04_SameMap x31.xPairs.ls x38.xPairs.ls = q := ⟨_, rfl⟩
  obtain ⟨D45, HP46, ro47, bk48, rr49⟩ := Own.enter0 H37
  refine GX.doG 35 rfl rfl rfl (decide_eq_false h43) (by kernel_rfl) (Do.call Try.call7 rfl (r04_SameMap_ok _ _ x31.xPairs.A (List.length x31.xPairs.ls) x31.xPairs.c x31.xPairs.ls x38.xPairs.A (List.length x38.xPairs.ls) x38.xPairs.c x38.xPairs.ls r50 HP46 (ro47 _ (hm0 _ (List.mem_of_getElem? hx32)).1) rfl (by omega) (ro47 _ (hm1 _ (List.mem_of_getElem? hx39)).1) rfl (by omega) hr51) ?_)
  rintro _ w52 ⟨rfl, HQ53⟩
  have H54 : Own w D w52 [] := bk48 _ _ HQ53
  refine ⟨.inr ⟨_, H54⟩, ?_⟩
  refine GX.takeG (v := .bool (!r50)) (rs := []) 36 rfl rfl rfl (decide_eq_false h43) (by kernel_rfl) (fun _ _ => Yl.kern rfl rfl (fun _ => by kernel_rfl)) (GX.take (v := .bool (!r50)) (rs := []) 37 rfl (by kernel_rfl) (fun _ _ => Yl.pickF rfl (decide_eq_false h43) rfl) (GX.done (by kernel_rfl) (Fin.then ?_)))
  rcases Bool.eq_false_or_eq_true (r50) with h55 | h55
  refine Wp.cond0 rfl (congrArg not h55) (Wp.skip (Fin.blockN (Fin.then (Wp.region (WL.val (v := .int .i64 ((k22 + 1 : Nat) : Int)) rfl (Yl.int (e := IntKind.i64.wrap (((k22 : Nat) : Int) + 1)) (Yl.kern rfl rfl (fun _ => by kernel_rfl)) (by rw [IntWalk.i64_in _ (by omega)]; omega)) (Mv rfl rfl (WL.nil ?_)))))))
  have H56 : Own w D w52 [] := H54.pick [] (by decide) rfl
  exact Fin.round (k22 + 1) ⟨rfl, rfl, rfl, rfl, rfl, trivial⟩ ⟨H56, (show (k22 + 1) ≤ List.length l0 ∧ r04_SameResults_L0 l1 l0 0 = r04_SameResults_L0 l1 (List.drop (k22 + 1) l0) (k22 + 1) from ⟨by omega, Eq.trans (hq28) (Eq.trans (congrArg (fun q => r04_SameResults_L0 l1 q k22) hd35) (Eq.trans (bnd_of (getD_of hX40)) (Eq.trans (if_pos h42) (Eq.trans (if_neg h43) (Eq.trans (bnd_of hr51) (if_pos h55))))))⟩)⟩ (by show List.length l0 - (k22 + 1) < List.length l0 - k22; omega)
  refine Wp.cond1 rfl (congrArg not h55) (Wp.seq (Wp.region (As rfl rfl (WL.nil (Fin.then (Wp.ret (Fin.blockR (Fin.thenR (Fin.thenR (Fin.blockR (Fin.thenR (Fin.res (res1 rfl rfl) ?_))))))))))))
  have H57 : Own w D w52 [] := H54.pick [] (by decide) rfl
  have e : r04_SameResults l0 l1 = false := Eq.trans (if_pos h21) (lp_r (Eq.trans (hq28) (Eq.trans (congrArg (fun q => r04_SameResults_L0 l1 q k22) hd35) (Eq.trans (bnd_of (getD_of hX40)) (Eq.trans (if_pos h42) (Eq.trans (if_neg h43) (Eq.trans (bnd_of hr51) (ifF h55))))))))
  obtain rfl := e.symm.trans hr
  exact ⟨rfl, H57⟩
  refine GX.skipG (rs := []) 12 rfl rfl rfl (decide_eq_true h42) (by kernel_rfl) (GX.skipG (rs := []) 13 rfl rfl rfl (decide_eq_true h42) (by kernel_rfl) (GX.skipG (rs := []) 14 rfl rfl rfl (decide_eq_true h42) (by kernel_rfl) (GX.skipG (rs := []) 15 rfl rfl rfl (decide_eq_true h42) (by kernel_rfl) (GX.skipG (rs := []) 16 rfl rfl rfl (decide_eq_true h42) (by kernel_rfl) (GX.skipG (rs := []) 17 rfl rfl rfl (decide_eq_true h42) (by kernel_rfl) (GX.skipG (rs := []) 18 rfl rfl rfl (decide_eq_true h42) (by kernel_rfl) (GX.skipG (rs := []) 19 rfl rfl rfl (decide_eq_true h42) (by kernel_rfl) (GX.skipG (rs := []) 20 rfl rfl rfl (decide_eq_true h42) (by kernel_rfl) (GX.skipG (rs := []) 21 rfl rfl rfl (decide_eq_true h42) (by kernel_rfl) (GX.skipG (rs := []) 22 rfl rfl rfl (decide_eq_true h42) (by kernel_rfl) (GX.take (v := .bool true) (rs := []) 23 rfl (by kernel_rfl) (fun _ _ => Yl.pickT rfl (decide_eq_true h42) rfl) (GX.take (v := .bool true) (rs := []) 24 rfl (by kernel_rfl) (fun _ _ => Yl.move rfl) (GX.skipG (rs := []) 25 rfl rfl rfl rfl (by kernel_rfl) (GX.skipG (rs := []) 26 rfl rfl rfl rfl (by kernel_rfl) (GX.skipG (rs := []) 27 rfl rfl rfl rfl (by kernel_rfl) (GX.skipG (rs := []) 28 rfl rfl rfl rfl (by kernel_rfl) (GX.skipG (rs := []) 29 rfl rfl rfl rfl (by kernel_rfl) (GX.skipG (rs := []) 30 rfl rfl rfl rfl (by kernel_rfl) (GX.skipG (rs := []) 31 rfl rfl rfl rfl (by kernel_rfl) (GX.skipG (rs := []) 32 rfl rfl rfl rfl (by kernel_rfl) (GX.skipG (rs := []) 33 rfl rfl rfl rfl (by kernel_rfl) (GX.skipG (rs := []) 34 rfl rfl rfl rfl (by kernel_rfl) (GX.skipG (rs := []) 35 rfl rfl rfl rfl (by kernel_rfl) (GX.skipG (rs := []) 36 rfl rfl rfl rfl (by kernel_rfl) (GX.take (v := .bool true) (rs := []) 37 rfl (by kernel_rfl) (fun _ _ => Yl.pickT rfl rfl rfl) (GX.done (by kernel_rfl) (Fin.then (Wp.cond1 rfl rfl (Wp.seq (Wp.region (As rfl rfl (WL.nil (Fin.then (Wp.ret (Fin.blockR (Fin.thenR (Fin.thenR (Fin.blockR (Fin.thenR ?_)))))))))))))))))))))))))))))))))))))))
  refine Fin.res (res1 rfl rfl) ?_
  have H58 : Own w D w36 [] := H37.pick [] (by decide) rfl
  have e : r04_SameResults l0 l1 = false := Eq.trans (if_pos h21) (lp_r (Eq.trans (hq28) (Eq.trans (congrArg (fun q => r04_SameResults_L0 l1 q k22) hd35) (Eq.trans (bnd_of (getD_of hX40)) (if_neg h42)))))
  obtain rfl := e.symm.trans hr
  exact ⟨rfl, H58⟩
  refine Wp.cond0 rfl (decide_eq_false h30) (Wp.exit (Fin.thenX ?_))
  have hL59 : r04_SameResults_L0 l1 l0 0 = Sum.inl () := Eq.trans (hq28) (Eq.trans (congrArg (fun q => r04_SameResults_L0 l1 q k22) (drop_end (ls := l0) (i := k22) (by omega))) rfl)
  refine Fin.thenX (Fin.blockX (Fin.then (Wp.seq (Wp.region (As rfl rfl (WL.nil (Fin.then (Wp.ret (Fin.res (res1 rfl rfl) ?_)))))))))
  have H60 : Own w D w25 [] := H26.pick [] (by decide) rfl
  have e : r04_SameResults l0 l1 = true := Eq.trans (if_pos h21) (lp_l hL59)
  obtain rfl := e.symm.trans hr
  exact ⟨rfl, H60⟩
  refine Wp.cond1 rfl (decide_eq_true h21) (Wp.seq (Wp.region (As rfl rfl (WL.nil (Fin.then (Wp.ret (Fin.thenR (Fin.res (res1 rfl rfl) ?_))))))))
  have H61 : Own w D w [] := H.pick [] (by decide) rfl
  have e : r04_SameResults l0 l1 = false := if_neg h21
  obtain rfl := e.symm.trans hr
  exact ⟨rfl, H61⟩
end Go.Proofs.Ytjaoojlgeghpmaa
