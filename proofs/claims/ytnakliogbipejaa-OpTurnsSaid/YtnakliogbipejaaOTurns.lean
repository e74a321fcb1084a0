/-
  op: the law OpTurns
-/
import Derived.Test.YtnakliogbipejaaOw
import Derived.Test.YtnakliogbipejaaKn
namespace Go.Proofs.Ytnakliogbipejaa
open Go.RowKit
set_option linter.unusedVariables false
set_option linter.unusedSectionVars false
set_option linter.unusedSimpArgs false

def span_lesserHi (p0 : List UInt8) (p1 : List UInt8) : (List UInt8) :=
  if p0 = ([]) then p1 else if p1 ≠ ([]) then if p1 < p0 then p1 else p0 else p0

set_option maxRecDepth 100000 in
theorem span_lesserHi_ok (w : World) (D : Nat → Prop) (p0 : List UInt8) (p1 : List UInt8) (r0 : List UInt8) (H : Own w D w [])  (hr : span_lesserHi p0 p1 = r0) :
    Calls Try.prog 17 #[.string ⟨List.toArray p0⟩, .string ⟨List.toArray p1⟩] w (Ret fun v w' => v = .string ⟨List.toArray r0⟩ ∧ Own w D w' []) := by
  refine Calls.body (args := [.string ⟨List.toArray p0⟩, .string ⟨List.toArray p1⟩]) Try.func17 rfl rfl rfl ?_
  show Wp _ _ _ [(0, .string ⟨List.toArray p0⟩), (1, .string ⟨List.toArray p1⟩)] _ _
  refine Wp.seq (Wp.region (As rfl rfl (WL.nil (Fin.then (Wp.seq (Wp.seq (Wp.region (Mv rfl rfl (WL.val (v := .bool (decide (p0 = ([])))) rfl (Yl.strEq rfl rfl) (Mv rfl rfl ?_))))))))))
  by_cases h21 : p0 = ([])
  refine Sk rfl rfl (decide_eq_true h21) rfl (Sk rfl rfl (decide_eq_true h21) rfl (Sk rfl rfl (decide_eq_true h21) rfl (WL.skipU rfl rfl rfl (WL.skipU rfl rfl rfl (WL.skipU rfl rfl rfl (Sk rfl rfl (decide_eq_true h21) rfl (WL.val (v := .bool true) rfl (Yl.pickT rfl (decide_eq_true h21) rfl) (WL.nil (Fin.then (Wp.cond1 rfl rfl (Wp.seq (Wp.region (Mv rfl rfl (As rfl rfl (WL.nil (Fin.then (Wp.ret (Fin.thenR (Fin.res (res1 rfl rfl) ?_)))))))))))))))))))
  have H22 : Own w D w [] := H.pick [] (by decide) rfl
  have e : span_lesserHi p0 p1 = p1 := if_pos h21
  obtain rfl := e.symm.trans hr
  exact ⟨rfl, H22⟩
  refine WL.valG (v := .string ⟨List.toArray p1⟩) rfl rfl (decide_eq_false h21) rfl (Yl.move rfl) (WL.valG (v := .bool (decide (p1 ≠ ([])))) rfl rfl (decide_eq_false h21) rfl (Yl.strNe rfl rfl) (WL.valG (v := .bool (decide (p1 ≠ ([])))) rfl rfl (decide_eq_false h21) rfl (Yl.move rfl) ?_))
  by_cases h23 : p1 ≠ ([])
  refine WL.valG (v := .string ⟨List.toArray p1⟩) rfl rfl (decide_eq_true h23) rfl (Yl.move rfl) (WL.valG (v := .string ⟨List.toArray p0⟩) rfl rfl (decide_eq_true h23) rfl (Yl.move rfl) (WL.valG (v := .bool (decide (p1 < p0))) rfl rfl (decide_eq_true h23) rfl (Yl.bool (e := Op.bytesLess p1 p0) (Yl.strLt rfl rfl) (bl_lt _ _)) (WL.valG (v := .bool (decide (p1 < p0))) rfl rfl (decide_eq_false h21) rfl (Yl.pickT rfl (decide_eq_true h23) rfl) (WL.val (v := .bool (decide (p1 < p0))) rfl (Yl.pickF rfl (decide_eq_false h21) rfl) (WL.nil (Fin.then ?_))))))
  by_cases h24 : p1 < p0
  refine Wp.cond1 rfl (decide_eq_true h24) (Wp.seq (Wp.region (Mv rfl rfl (As rfl rfl (WL.nil (Fin.then (Wp.ret (Fin.thenR (Fin.res (res1 rfl rfl) ?_)))))))))
  have H25 : Own w D w [] := H.pick [] (by decide) rfl
  have e : span_lesserHi p0 p1 = p1 := Eq.trans (if_neg h21) (Eq.trans (if_pos h23) (if_pos h24))
  obtain rfl := e.symm.trans hr
  exact ⟨rfl, H25⟩
  refine Wp.cond0 rfl (decide_eq_false h24) (Wp.skip (Fin.then (Wp.seq (Wp.region (Mv rfl rfl (As rfl rfl (WL.nil (Fin.then (Wp.ret (Fin.res (res1 rfl rfl) ?_))))))))))
  have H26 : Own w D w [] := H.pick [] (by decide) rfl
  have e : span_lesserHi p0 p1 = p0 := Eq.trans (if_neg h21) (Eq.trans (if_pos h23) (if_neg h24))
  obtain rfl := e.symm.trans hr
  exact ⟨rfl, H26⟩
  refine Sk rfl rfl (decide_eq_false h23) rfl (Sk rfl rfl (decide_eq_false h23) rfl (Sk rfl rfl (decide_eq_false h23) rfl (WL.valG (v := .bool false) rfl rfl (decide_eq_false h21) rfl (Yl.pickF rfl (decide_eq_false h23) rfl) (WL.val (v := .bool false) rfl (Yl.pickF rfl (decide_eq_false h21) rfl) (WL.nil (Fin.then (Wp.cond0 rfl rfl (Wp.skip (Fin.then (Wp.seq (Wp.region (Mv rfl rfl (As rfl rfl (WL.nil (Fin.then (Wp.ret (Fin.res (res1 rfl rfl) ?_)))))))))))))))))
  have H27 : Own w D w [] := H.pick [] (by decide) rfl
  have e : span_lesserHi p0 p1 = p0 := Eq.trans (if_neg h21) (if_neg h23)
  obtain rfl := e.symm.trans hr
  exact ⟨rfl, H27⟩

def span_below (p0 : List UInt8) (p1 : List UInt8) : Bool :=
  if p1 = ([]) then true else decide (p0 < p1)

set_option maxRecDepth 100000 in
theorem span_below_ok (w : World) (D : Nat → Prop) (p0 : List UInt8) (p1 : List UInt8) (r0 : Bool) (H : Own w D w [])  (hr : span_below p0 p1 = r0) :
    Calls Try.prog 18 #[.string ⟨List.toArray p0⟩, .string ⟨List.toArray p1⟩] w (Ret fun v w' => v = .bool r0 ∧ Own w D w' []) := by
  refine Calls.body (args := [.string ⟨List.toArray p0⟩, .string ⟨List.toArray p1⟩]) Try.func18 rfl rfl rfl ?_
  show Wp _ _ _ [(0, .string ⟨List.toArray p0⟩), (1, .string ⟨List.toArray p1⟩)] _ _
  refine Wp.seq (Wp.region (As rfl rfl (WL.nil (Fin.then (Wp.seq (Wp.region (Mv rfl rfl (WL.val (v := .bool (decide (p1 = ([])))) rfl (Yl.strEq rfl rfl) (Mv rfl rfl ?_)))))))))
  by_cases h21 : p1 = ([])
  refine Sk rfl rfl (decide_eq_true h21) rfl (Sk rfl rfl (decide_eq_true h21) rfl (Sk rfl rfl (decide_eq_true h21) rfl (WL.val (v := .bool true) rfl (Yl.pickT rfl (decide_eq_true h21) rfl) (As rfl rfl (WL.nil (Fin.then (Wp.ret (Fin.res (res1 rfl rfl) ?_))))))))
  have H22 : Own w D w [] := H.pick [] (by decide) rfl
  have e : span_below p0 p1 = true := if_pos h21
  obtain rfl := e.symm.trans hr
  exact ⟨rfl, H22⟩
  refine WL.valG (v := .string ⟨List.toArray p0⟩) rfl rfl (decide_eq_false h21) rfl (Yl.move rfl) (WL.valG (v := .string ⟨List.toArray p1⟩) rfl rfl (decide_eq_false h21) rfl (Yl.move rfl) (WL.valG (v := .bool (decide (p0 < p1))) rfl rfl (decide_eq_false h21) rfl (Yl.bool (e := Op.bytesLess p0 p1) (Yl.strLt rfl rfl) (bl_lt _ _)) (WL.val (v := .bool (decide (p0 < p1))) rfl (Yl.pickF rfl (decide_eq_false h21) rfl) (As rfl rfl (WL.nil (Fin.then (Wp.ret (Fin.res (res1 rfl rfl) ?_))))))))
  have H23 : Own w D w [] := H.pick [] (by decide) rfl
  have e : span_below p0 p1 = decide (p0 < p1) := if_neg h21
  obtain rfl := e.symm.trans hr
  exact ⟨rfl, H23⟩

def span_Meet (p0 : RangeD) (p1 : RangeD) : RangeD × Bool :=
  bnd (span_Check p0) fun yr35 => if yr35 = 0 then bnd (span_Check p1) fun yr46 => if yr46 = 0 then bnd (span_lesserHi p0.xHi p1.xHi) fun yr98 => bnd (span_below (maxL p0.xLo p1.xLo) yr98) fun yr112 => if yr112 = true then (RangeD.mk (maxL p0.xLo p1.xLo) yr98, true) else (RangeD.mk ([]) ([]), false) else (RangeD.mk ([]) ([]), false) else (RangeD.mk ([]) ([]), false)

set_option maxRecDepth 100000 in
theorem span_Meet_ok (w : World) (D : Nat → Prop) (p0 : RangeD) (p1 : RangeD) (r0 : RangeD) (r1 : Bool) (H : Own w D w [])  (hr : span_Meet p0 p1 = (r0, r1)) :
    Calls Try.prog 8 #[.agg (RangeD.cells p0).toArray, .agg (RangeD.cells p1).toArray] w (Ret fun v w' => v = .tuple #[.agg (RangeD.cells r0).toArray, .bool r1] ∧ Own w D w' []) := by
  refine Calls.body (args := [.agg (RangeD.cells p0).toArray, .agg (RangeD.cells p1).toArray]) Try.func8 rfl rfl rfl ?_
  show Wp _ _ _ [(0, .agg (RangeD.cells p0).toArray), (1, .agg (RangeD.cells p1).toArray)] _ _
  refine Wp.seq (Wp.region ?_)
  refine WL.do rfl (Do.newP (cs := (RangeD.cells p0)) (t := 27) H rfl rfl (fun _ => by kernel_rfl) ?_)
  intro g21 w22 H23
  replace H23 : Own w D w22 [blk g21 (RangeD.cells p0) 27] := H23
  refine WL.do rfl (Do.newP (cs := (RangeD.cells p1)) (t := 27) H23 rfl rfl (fun _ => by kernel_rfl) ?_)
  intro g24 w25 H26
  replace H26 : Own w D w25 [blk g24 (RangeD.cells p1) 27, blk g21 (RangeD.cells p0) 27] := H26
  refine WL.do rfl (Do.newP (cs := [.string ⟨List.toArray ([])⟩, .string ⟨List.toArray ([])⟩]) (t := 27) H26 rfl rfl (fun _ => by kernel_rfl) ?_)
  intro g27 w28 H29
  replace H29 : Own w D w28 [blk g27 [.string ⟨List.toArray ([])⟩, .string ⟨List.toArray ([])⟩] 27, blk g24 (RangeD.cells p1) 27, blk g21 (RangeD.cells p0) 27] := H29
  refine As rfl rfl (WL.nil (Fin.then (Wp.seq (Wp.seq (Wp.region (WL.val (v := .agg (RangeD.cells p0).toArray) rfl (Yl.load rfl (Lds.agg (cs := (RangeD.cells p0)) Try.isAgg27 Try.sizeOf27 ((H29.cls (i := 2) rfl).lit (k := 0) (m := 2) rfl))) ?_))))))
  obtain ⟨r35, hr36⟩ : ∃ q, span_Check p0 = q := ⟨_, rfl⟩
  obtain ⟨D30, HP31, ro32, bk33, rr34⟩ := Own.enter0 H29
  refine WL.do rfl (Do.call Try.call16 rfl (span_Check_ok _ _ p0 r35 HP31 hr36) ?_)
  rintro _ w37 ⟨rfl, HQ38⟩
  have H39 : Own w D w37 [blk g27 [.string ⟨List.toArray ([])⟩, .string ⟨List.toArray ([])⟩] 27, blk g24 (RangeD.cells p1) 27, blk g21 (RangeD.cells p0) 27] := bk33 _ _ HQ38
  refine WL.val (v := .bool (decide (¬ (r35 = 0)))) rfl (Yl.bool (e := !(decide (r35 = 0))) (Yl.kern rfl rfl (fun _ => by kernel_rfl)) decide_not.symm) (Mv rfl rfl ?_)
  by_cases h40 : r35 = 0
  refine WL.valG (v := .agg (RangeD.cells p1).toArray) rfl rfl (decide_eq_false (not_not_intro h40)) rfl (Yl.load rfl (Lds.agg (cs := (RangeD.cells p1)) Try.isAgg27 Try.sizeOf27 ((H39.cls (i := 1) rfl).lit (k := 0) (m := 2) rfl))) ?_
  obtain ⟨r46, hr47⟩ : ∃ q, span_Check p1 = q := ⟨_, rfl⟩
  obtain ⟨D41, HP42, ro43, bk44, rr45⟩ := Own.enter0 H39
  refine WL.doG rfl rfl (decide_eq_false (not_not_intro h40)) rfl (Do.call Try.call16 rfl (span_Check_ok _ _ p1 r46 HP42 hr47) ?_)
  rintro _ w48 ⟨rfl, HQ49⟩
  have H50 : Own w D w48 [blk g27 [.string ⟨List.toArray ([])⟩, .string ⟨List.toArray ([])⟩] 27, blk g24 (RangeD.cells p1) 27, blk g21 (RangeD.cells p0) 27] := bk44 _ _ HQ49
  refine WL.valG (v := .bool (decide (¬ (r46 = 0)))) rfl rfl (decide_eq_false (not_not_intro h40)) rfl (Yl.bool (e := !(decide (r46 = 0))) (Yl.kern rfl rfl (fun _ => by kernel_rfl)) decide_not.symm) (WL.val (v := .bool (decide (¬ (r46 = 0)))) rfl (Yl.pickF rfl (decide_eq_false (not_not_intro h40)) rfl) (WL.nil (Fin.then ?_)))
  by_cases h51 : r46 = 0
  refine Wp.cond0 rfl (decide_eq_false (not_not_intro h51)) (Wp.skip (Fin.then (Wp.seq ?_)))
  have H53 := H50.drew
  refine Wp.drawnX [] (fun W => ∃ L', Own w D W ([blk g27 [.string ⟨List.toArray ([])⟩, .string ⟨List.toArray ([])⟩] 27, blk g24 (RangeD.cells p1) 27, blk g21 (RangeD.cells p0) 27] ++ L')) (by kernel_rfl) (by kernel_rfl) (NoP.then NoP.base) ⟨_, H53⟩ ?_
  revert H53
  generalize World.drew w48 = w52
  intro H53
  replace H53 : Own w D w52 [blk g27 [.string ⟨List.toArray ([])⟩, .string ⟨List.toArray ([])⟩] 27, blk g24 (RangeD.cells p1) 27, blk g21 (RangeD.cells p0) 27] := H53
  refine GX.take (v := .pointer (some ⟨g21, 0, none⟩)) (rs := []) 0 rfl (by kernel_rfl) (fun _ _ => Yl.kern rfl rfl (fun _ => by kernel_rfl)) (GX.take (v := .string ⟨List.toArray p0.xLo⟩) (rs := []) 1 rfl (by kernel_rfl) (fun _ ⟨_, H9⟩ => Yl.load rfl (Lds.one Try.isAgg9 (Cls.of (H9.cls (i := 2) rfl) rfl))) (GX.take (v := .pointer (some ⟨g24, 0, none⟩)) (rs := []) 2 rfl (by kernel_rfl) (fun _ _ => Yl.kern rfl rfl (fun _ => by kernel_rfl)) (GX.take (v := .string ⟨List.toArray p1.xLo⟩) (rs := []) 3 rfl (by kernel_rfl) (fun _ ⟨_, H9⟩ => Yl.load rfl (Lds.one Try.isAgg9 (Cls.of (H9.cls (i := 1) rfl) rfl))) (GX.take (v := .string ⟨List.toArray (maxL p0.xLo p1.xLo)⟩) (rs := []) 4 rfl (by kernel_rfl) (fun _ _ => Yl.maxStr rfl) (GX.take (v := .pointer (some ⟨g21, 1, none⟩)) (rs := []) 5 rfl (by kernel_rfl) (fun _ _ => Yl.kern rfl rfl (fun _ => by kernel_rfl)) (GX.take (v := .string ⟨List.toArray p0.xHi⟩) (rs := []) 6 rfl (by kernel_rfl) (fun _ ⟨_, H9⟩ => Yl.load rfl (Lds.one Try.isAgg9 (Cls.of (H9.cls (i := 2) rfl) rfl))) (GX.take (v := .pointer (some ⟨g24, 1, none⟩)) (rs := []) 7 rfl (by kernel_rfl) (fun _ _ => Yl.kern rfl rfl (fun _ => by kernel_rfl)) (GX.take (v := .string ⟨List.toArray p1.xHi⟩) (rs := []) 8 rfl (by kernel_rfl) (fun _ ⟨_, H9⟩ => Yl.load rfl (Lds.one Try.isAgg9 (Cls.of (H9.cls (i := 1) rfl) rfl))) ?_))))))))
  refine GX.any2 9 11 (by kernel_rfl) ?_ ?_
  obtain ⟨r59, hr60⟩ : ∃ q, span_lesserHi p0.xHi p1.xHi = q := ⟨_, rfl⟩
  obtain ⟨D54, HP55, ro56, bk57, rr58⟩ := Own.enter0 H53
  refine GY.do 9 rfl (by kernel_rfl) (Do.call Try.call17 rfl (span_lesserHi_ok _ _ p0.xHi p1.xHi r59 HP55 hr60) ?_)
  rintro _ w61 ⟨rfl, HQ62⟩
  have H63 : Own w D w61 [blk g27 [.string ⟨List.toArray ([])⟩, .string ⟨List.toArray ([])⟩] 27, blk g24 (RangeD.cells p1) 27, blk g21 (RangeD.cells p0) 27] := bk57 _ _ HQ62
  refine ⟨.inr ⟨_, H63⟩, ?_⟩
  refine GX.take (v := .agg #[.string ⟨List.toArray (maxL p0.xLo p1.xLo)⟩, .string ⟨List.toArray r59⟩]) (rs := []) 10 rfl (by kernel_rfl) (fun _ _ => Yl.kern rfl rfl (fun _ => by kernel_rfl)) ?_
  refine GX.do 11 rfl (by kernel_rfl) (Do.newP (cs := [.string ⟨List.toArray ([])⟩, .string ⟨List.toArray ([])⟩]) (t := 27) H63 rfl rfl (fun _ => by kernel_rfl) ?_)
  intro g64 w65 H66
  replace H66 : Own w D w65 [blk g64 [.string ⟨List.toArray ([])⟩, .string ⟨List.toArray ([])⟩] 27, blk g27 [.string ⟨List.toArray ([])⟩, .string ⟨List.toArray ([])⟩] 27, blk g24 (RangeD.cells p1) 27, blk g21 (RangeD.cells p0) 27] := H66
  have H67 : Own w D w65 [blk g27 [.string ⟨List.toArray ([])⟩, .string ⟨List.toArray ([])⟩] 27, blk g24 (RangeD.cells p1) 27, blk g21 (RangeD.cells p0) 27, blk g64 [.string ⟨List.toArray ([])⟩, .string ⟨List.toArray ([])⟩] 27] := H66.pick [1, 2, 3, 0] (by decide) rfl
  refine ⟨.inr ⟨_, H67⟩, ?_⟩
  have H68 : Own w D w65 [blk g64 [.string ⟨List.toArray ([])⟩, .string ⟨List.toArray ([])⟩] 27, blk g27 [.string ⟨List.toArray ([])⟩, .string ⟨List.toArray ([])⟩] 27, blk g24 (RangeD.cells p1) 27, blk g21 (RangeD.cells p0) 27] := H67.pick [3, 0, 1, 2] (by decide) rfl
  refine GX.do0 12 rfl (by kernel_rfl) (Do.store (vs := [.string ⟨List.toArray (maxL p0.xLo p1.xLo)⟩, .string ⟨List.toArray r59⟩]) (o := 0) H68 rfl rfl Try.sizeOf27 rfl rfl rfl rfl ?_)
  intro w69 H70
  replace H70 : Own w D w69 [blk g64 [.string ⟨List.toArray (maxL p0.xLo p1.xLo)⟩, .string ⟨List.toArray r59⟩] 27, blk g27 [.string ⟨List.toArray ([])⟩, .string ⟨List.toArray ([])⟩] 27, blk g24 (RangeD.cells p1) 27, blk g21 (RangeD.cells p0) 27] := H70
  have H71 : Own w D w69 [blk g27 [.string ⟨List.toArray ([])⟩, .string ⟨List.toArray ([])⟩] 27, blk g24 (RangeD.cells p1) 27, blk g21 (RangeD.cells p0) 27, blk g64 [.string ⟨List.toArray (maxL p0.xLo p1.xLo)⟩, .string ⟨List.toArray r59⟩] 27] := H70.pick [1, 2, 3, 0] (by decide) rfl
  refine ⟨.inr ⟨_, H71⟩, ?_⟩
  refine GX.done (by kernel_rfl) (Fin.then (Wp.seq (Wp.seq (Wp.region (Kn (v := .pointer (some ⟨g64, 0, none⟩)) rfl rfl rfl (fun _ => by kernel_rfl) (WL.val (v := .string ⟨List.toArray (maxL p0.xLo p1.xLo)⟩) rfl (Yl.load rfl (Lds.one Try.isAgg9 (Cls.of (H71.cls (i := 3) rfl) rfl))) (Kn (v := .pointer (some ⟨g64, 1, none⟩)) rfl rfl rfl (fun _ => by kernel_rfl) (WL.val (v := .string ⟨List.toArray r59⟩) rfl (Yl.load rfl (Lds.one Try.isAgg9 (Cls.of (H71.cls (i := 3) rfl) rfl))) ?_))))))))
  obtain ⟨r77, hr78⟩ : ∃ q, span_below (maxL p0.xLo p1.xLo) r59 = q := ⟨_, rfl⟩
  obtain ⟨D72, HP73, ro74, bk75, rr76⟩ := Own.enter0 H71
  refine WL.do rfl (Do.call Try.call18 rfl (span_below_ok _ _ (maxL p0.xLo p1.xLo) r59 r77 HP73 hr78) ?_)
  rintro _ w79 ⟨rfl, HQ80⟩
  have H81 : Own w D w79 [blk g27 [.string ⟨List.toArray ([])⟩, .string ⟨List.toArray ([])⟩] 27, blk g24 (RangeD.cells p1) 27, blk g21 (RangeD.cells p0) 27, blk g64 [.string ⟨List.toArray (maxL p0.xLo p1.xLo)⟩, .string ⟨List.toArray r59⟩] 27] := bk75 _ _ HQ80
  refine Kn (v := .bool (!r77)) rfl rfl rfl (fun _ => by kernel_rfl) (WL.nil (Fin.then ?_))
  rcases Bool.eq_false_or_eq_true (r77) with h82 | h82
  refine Wp.cond0 rfl (congrArg not h82) (Wp.skip (Fin.then (Wp.seq (Wp.region (WL.val (v := .agg #[.string ⟨List.toArray (maxL p0.xLo p1.xLo)⟩, .string ⟨List.toArray r59⟩]) rfl (Yl.load rfl (Lds.agg (cs := [.string ⟨List.toArray (maxL p0.xLo p1.xLo)⟩, .string ⟨List.toArray r59⟩]) Try.isAgg27 Try.sizeOf27 ((H81.cls (i := 3) rfl).lit (k := 0) (m := 2) rfl))) ?_)))))
  refine WL.do0 (Do.store (vs := [.string ⟨List.toArray (maxL p0.xLo p1.xLo)⟩, .string ⟨List.toArray r59⟩]) (o := 0) H81 rfl rfl Try.sizeOf27 rfl rfl rfl rfl ?_)
  intro w83 H84
  replace H84 : Own w D w83 [blk g27 [.string ⟨List.toArray (maxL p0.xLo p1.xLo)⟩, .string ⟨List.toArray r59⟩] 27, blk g24 (RangeD.cells p1) 27, blk g21 (RangeD.cells p0) 27, blk g64 [.string ⟨List.toArray (maxL p0.xLo p1.xLo)⟩, .string ⟨List.toArray r59⟩] 27] := H84
  refine As rfl rfl (WL.nil (Fin.then (Wp.ret (Fin.res (resN (vs := [.agg #[.string ⟨List.toArray (maxL p0.xLo p1.xLo)⟩, .string ⟨List.toArray r59⟩], .bool true]) rfl (ResV.cell rfl (Lds.agg (cs := [.string ⟨List.toArray (maxL p0.xLo p1.xLo)⟩, .string ⟨List.toArray r59⟩]) Try.isAgg27 Try.sizeOf27 ((H84.cls (i := 0) rfl).lit (k := 0) (m := 2) rfl)) (ResV.tmp rfl ResV.nil)) (Nat.le_of_ble_eq_true rfl)) ?_))))
  have H85 : Own w D w83 [] := H84.pick [] (by decide) rfl
  have e : span_Meet p0 p1 = (RangeD.mk (maxL p0.xLo p1.xLo) r59, true) := Eq.trans (bnd_of hr36) (Eq.trans (if_pos h40) (Eq.trans (bnd_of hr47) (Eq.trans (if_pos h51) (Eq.trans (bnd_of hr60) (Eq.trans (bnd_of hr78) (if_pos h82))))))
  obtain ⟨rfl, rfl⟩ := pj2 (e.symm.trans hr)
  exact ⟨rfl, H85⟩
  refine Wp.cond1 rfl (congrArg not h82) (Wp.seq (Wp.region (Kn (v := .agg #[.string ⟨List.toArray ([])⟩, .string ⟨List.toArray ([])⟩]) rfl rfl rfl (fun _ => by kernel_rfl) ?_)))
  refine WL.do0 (Do.store (vs := [.string ⟨List.toArray ([])⟩, .string ⟨List.toArray ([])⟩]) (o := 0) H81 rfl rfl Try.sizeOf27 rfl rfl rfl rfl ?_)
  intro w86 H87
  replace H87 : Own w D w86 [blk g27 [.string ⟨List.toArray ([])⟩, .string ⟨List.toArray ([])⟩] 27, blk g24 (RangeD.cells p1) 27, blk g21 (RangeD.cells p0) 27, blk g64 [.string ⟨List.toArray (maxL p0.xLo p1.xLo)⟩, .string ⟨List.toArray r59⟩] 27] := H87
  refine As rfl rfl (WL.nil (Fin.then (Wp.ret (Fin.thenR (Fin.res (resN (vs := [.agg #[.string ⟨List.toArray ([])⟩, .string ⟨List.toArray ([])⟩], .bool false]) rfl (ResV.cell rfl (Lds.agg (cs := [.string ⟨List.toArray ([])⟩, .string ⟨List.toArray ([])⟩]) Try.isAgg27 Try.sizeOf27 ((H87.cls (i := 0) rfl).lit (k := 0) (m := 2) rfl)) (ResV.tmp rfl ResV.nil)) (Nat.le_of_ble_eq_true rfl)) ?_)))))
  have H88 : Own w D w86 [] := H87.pick [] (by decide) rfl
  have e : span_Meet p0 p1 = (RangeD.mk ([]) ([]), false) := Eq.trans (bnd_of hr36) (Eq.trans (if_pos h40) (Eq.trans (bnd_of hr47) (Eq.trans (if_pos h51) (Eq.trans (bnd_of hr60) (Eq.trans (bnd_of hr78) (ifF h82))))))
  obtain ⟨rfl, rfl⟩ := pj2 (e.symm.trans hr)
  exact ⟨rfl, H88⟩
  refine GY.do 11 rfl (by kernel_rfl) (Do.newP (cs := [.string ⟨List.toArray ([])⟩, .string ⟨List.toArray ([])⟩]) (t := 27) H53 rfl rfl (fun _ => by kernel_rfl) ?_)
  intro g89 w90 H91
  replace H91 : Own w D w90 [blk g89 [.string ⟨List.toArray ([])⟩, .string ⟨List.toArray ([])⟩] 27, blk g27 [.string ⟨List.toArray ([])⟩, .string ⟨List.toArray ([])⟩] 27, blk g24 (RangeD.cells p1) 27, blk g21 (RangeD.cells p0) 27] := H91
  have H92 : Own w D w90 [blk g27 [.string ⟨List.toArray ([])⟩, .string ⟨List.toArray ([])⟩] 27, blk g24 (RangeD.cells p1) 27, blk g21 (RangeD.cells p0) 27, blk g89 [.string ⟨List.toArray ([])⟩, .string ⟨List.toArray ([])⟩] 27] := H91.pick [1, 2, 3, 0] (by decide) rfl
  refine ⟨.inr ⟨_, H92⟩, ?_⟩
  obtain ⟨r98, hr99⟩ : ∃ q, span_lesserHi p0.xHi p1.xHi = q := ⟨_, rfl⟩
  obtain ⟨D93, HP94, ro95, bk96, rr97⟩ := Own.enter0 H92
  refine GX.do 9 rfl (by kernel_rfl) (Do.call Try.call17 rfl (span_lesserHi_ok _ _ p0.xHi p1.xHi r98 HP94 hr99) ?_)
  rintro _ w100 ⟨rfl, HQ101⟩
  have H102 : Own w D w100 [blk g27 [.string ⟨List.toArray ([])⟩, .string ⟨List.toArray ([])⟩] 27, blk g24 (RangeD.cells p1) 27, blk g21 (RangeD.cells p0) 27, blk g89 [.string ⟨List.toArray ([])⟩, .string ⟨List.toArray ([])⟩] 27] := bk96 _ _ HQ101
  refine ⟨.inr ⟨_, H102⟩, ?_⟩
  refine GX.take (v := .agg #[.string ⟨List.toArray (maxL p0.xLo p1.xLo)⟩, .string ⟨List.toArray r98⟩]) (rs := []) 10 rfl (by kernel_rfl) (fun _ _ => Yl.kern rfl rfl (fun _ => by kernel_rfl)) ?_
  have H103 : Own w D w100 [blk g89 [.string ⟨List.toArray ([])⟩, .string ⟨List.toArray ([])⟩] 27, blk g27 [.string ⟨List.toArray ([])⟩, .string ⟨List.toArray ([])⟩] 27, blk g24 (RangeD.cells p1) 27, blk g21 (RangeD.cells p0) 27] := H102.pick [3, 0, 1, 2] (by decide) rfl
  refine GX.do0 12 rfl (by kernel_rfl) (Do.store (vs := [.string ⟨List.toArray (maxL p0.xLo p1.xLo)⟩, .string ⟨List.toArray r98⟩]) (o := 0) H103 rfl rfl Try.sizeOf27 rfl rfl rfl rfl ?_)
  intro w104 H105
  replace H105 : Own w D w104 [blk g89 [.string ⟨List.toArray (maxL p0.xLo p1.xLo)⟩, .string ⟨List.toArray r98⟩] 27, blk g27 [.string ⟨List.toArray ([])⟩, .string ⟨List.toArray ([])⟩] 27, blk g24 (RangeD.cells p1) 27, blk g21 (RangeD.cells p0) 27] := H105
  have H106 : Own w D w104 [blk g27 [.string ⟨List.toArray ([])⟩, .string ⟨List.toArray ([])⟩] 27, blk g24 (RangeD.cells p1) 27, blk g21 (RangeD.cells p0) 27, blk g89 [.string ⟨List.toArray (maxL p0.xLo p1.xLo)⟩, .string ⟨List.toArray r98⟩] 27] := H105.pick [1, 2, 3, 0] (by decide) rfl
  refine ⟨.inr ⟨_, H106⟩, ?_⟩
  refine GX.done (by kernel_rfl) (Fin.then (Wp.seq (Wp.seq (Wp.region (Kn (v := .pointer (some ⟨g89, 0, none⟩)) rfl rfl rfl (fun _ => by kernel_rfl) (WL.val (v := .string ⟨List.toArray (maxL p0.xLo p1.xLo)⟩) rfl (Yl.load rfl (Lds.one Try.isAgg9 (Cls.of (H106.cls (i := 3) rfl) rfl))) (Kn (v := .pointer (some ⟨g89, 1, none⟩)) rfl rfl rfl (fun _ => by kernel_rfl) (WL.val (v := .string ⟨List.toArray r98⟩) rfl (Yl.load rfl (Lds.one Try.isAgg9 (Cls.of (H106.cls (i := 3) rfl) rfl))) ?_))))))))
  obtain ⟨r112, hr113⟩ : ∃ q, span_below (maxL p0.xLo p1.xLo) r98 = q := ⟨_, rfl⟩
  obtain ⟨D107, HP108, ro109, bk110, rr111⟩ := Own.enter0 H106
  refine WL.do rfl (Do.call Try.call18 rfl (span_below_ok _ _ (maxL p0.xLo p1.xLo) r98 r112 HP108 hr113) ?_)
  rintro _ w114 ⟨rfl, HQ115⟩
  have H116 : Own w D w114 [blk g27 [.string ⟨List.toArray ([])⟩, .string ⟨List.toArray ([])⟩] 27, blk g24 (RangeD.cells p1) 27, blk g21 (RangeD.cells p0) 27, blk g89 [.string ⟨List.toArray (maxL p0.xLo p1.xLo)⟩, .string ⟨List.toArray r98⟩] 27] := bk110 _ _ HQ115
  refine Kn (v := .bool (!r112)) rfl rfl rfl (fun _ => by kernel_rfl) (WL.nil (Fin.then ?_))
  rcases Bool.eq_false_or_eq_true (r112) with h117 | h117
  refine Wp.cond0 rfl (congrArg not h117) (Wp.skip (Fin.then (Wp.seq (Wp.region (WL.val (v := .agg #[.string ⟨List.toArray (maxL p0.xLo p1.xLo)⟩, .string ⟨List.toArray r98⟩]) rfl (Yl.load rfl (Lds.agg (cs := [.string ⟨List.toArray (maxL p0.xLo p1.xLo)⟩, .string ⟨List.toArray r98⟩]) Try.isAgg27 Try.sizeOf27 ((H116.cls (i := 3) rfl).lit (k := 0) (m := 2) rfl))) ?_)))))
  refine WL.do0 (Do.store (vs := [.string ⟨List.toArray (maxL p0.xLo p1.xLo)⟩, .string ⟨List.toArray r98⟩]) (o := 0) H116 rfl rfl Try.sizeOf27 rfl rfl rfl rfl ?_)
  intro w118 H119
  replace H119 : Own w D w118 [blk g27 [.string ⟨List.toArray (maxL p0.xLo p1.xLo)⟩, .string ⟨List.toArray r98⟩] 27, blk g24 (RangeD.cells p1) 27, blk g21 (RangeD.cells p0) 27, blk g89 [.string ⟨List.toArray (maxL p0.xLo p1.xLo)⟩, .string ⟨List.toArray r98⟩] 27] := H119
  refine As rfl rfl (WL.nil (Fin.then (Wp.ret (Fin.res (resN (vs := [.agg #[.string ⟨List.toArray (maxL p0.xLo p1.xLo)⟩, .string ⟨List.toArray r98⟩], .bool true]) rfl (ResV.cell rfl (Lds.agg (cs := [.string ⟨List.toArray (maxL p0.xLo p1.xLo)⟩, .string ⟨List.toArray r98⟩]) Try.isAgg27 Try.sizeOf27 ((H119.cls (i := 0) rfl).lit (k := 0) (m := 2) rfl)) (ResV.tmp rfl ResV.nil)) (Nat.le_of_ble_eq_true rfl)) ?_))))
  have H120 : Own w D w118 [] := H119.pick [] (by decide) rfl
  have e : span_Meet p0 p1 = (RangeD.mk (maxL p0.xLo p1.xLo) r98, true) := Eq.trans (bnd_of hr36) (Eq.trans (if_pos h40) (Eq.trans (bnd_of hr47) (Eq.trans (if_pos h51) (Eq.trans (bnd_of hr99) (Eq.trans (bnd_of hr113) (if_pos h117))))))
  obtain ⟨rfl, rfl⟩ := pj2 (e.symm.trans hr)
  exact ⟨rfl, H120⟩
  refine Wp.cond1 rfl (congrArg not h117) (Wp.seq (Wp.region (Kn (v := .agg #[.string ⟨List.toArray ([])⟩, .string ⟨List.toArray ([])⟩]) rfl rfl rfl (fun _ => by kernel_rfl) ?_)))
  refine WL.do0 (Do.store (vs := [.string ⟨List.toArray ([])⟩, .string ⟨List.toArray ([])⟩]) (o := 0) H116 rfl rfl Try.sizeOf27 rfl rfl rfl rfl ?_)
  intro w121 H122
  replace H122 : Own w D w121 [blk g27 [.string ⟨List.toArray ([])⟩, .string ⟨List.toArray ([])⟩] 27, blk g24 (RangeD.cells p1) 27, blk g21 (RangeD.cells p0) 27, blk g89 [.string ⟨List.toArray (maxL p0.xLo p1.xLo)⟩, .string ⟨List.toArray r98⟩] 27] := H122
  refine As rfl rfl (WL.nil (Fin.then (Wp.ret (Fin.thenR (Fin.res (resN (vs := [.agg #[.string ⟨List.toArray ([])⟩, .string ⟨List.toArray ([])⟩], .bool false]) rfl (ResV.cell rfl (Lds.agg (cs := [.string ⟨List.toArray ([])⟩, .string ⟨List.toArray ([])⟩]) Try.isAgg27 Try.sizeOf27 ((H122.cls (i := 0) rfl).lit (k := 0) (m := 2) rfl)) (ResV.tmp rfl ResV.nil)) (Nat.le_of_ble_eq_true rfl)) ?_)))))
  have H123 : Own w D w121 [] := H122.pick [] (by decide) rfl
  have e : span_Meet p0 p1 = (RangeD.mk ([]) ([]), false) := Eq.trans (bnd_of hr36) (Eq.trans (if_pos h40) (Eq.trans (bnd_of hr47) (Eq.trans (if_pos h51) (Eq.trans (bnd_of hr99) (Eq.trans (bnd_of hr113) (ifF h117))))))
  obtain ⟨rfl, rfl⟩ := pj2 (e.symm.trans hr)
  exact ⟨rfl, H123⟩
  refine Wp.cond1 rfl (decide_eq_true h51) (Wp.seq (Wp.region (Kn (v := .agg #[.string ⟨List.toArray ([])⟩, .string ⟨List.toArray ([])⟩]) rfl rfl rfl (fun _ => by kernel_rfl) ?_)))
  refine WL.do0 (Do.store (vs := [.string ⟨List.toArray ([])⟩, .string ⟨List.toArray ([])⟩]) (o := 0) H50 rfl rfl Try.sizeOf27 rfl rfl rfl rfl ?_)
  intro w124 H125
  replace H125 : Own w D w124 [blk g27 [.string ⟨List.toArray ([])⟩, .string ⟨List.toArray ([])⟩] 27, blk g24 (RangeD.cells p1) 27, blk g21 (RangeD.cells p0) 27] := H125
  refine As rfl rfl (WL.nil (Fin.then (Wp.ret (Fin.thenR (Fin.res (resN (vs := [.agg #[.string ⟨List.toArray ([])⟩, .string ⟨List.toArray ([])⟩], .bool false]) rfl (ResV.cell rfl (Lds.agg (cs := [.string ⟨List.toArray ([])⟩, .string ⟨List.toArray ([])⟩]) Try.isAgg27 Try.sizeOf27 ((H125.cls (i := 0) rfl).lit (k := 0) (m := 2) rfl)) (ResV.tmp rfl ResV.nil)) (Nat.le_of_ble_eq_true rfl)) ?_)))))
  have H126 : Own w D w124 [] := H125.pick [] (by decide) rfl
  have e : span_Meet p0 p1 = (RangeD.mk ([]) ([]), false) := Eq.trans (bnd_of hr36) (Eq.trans (if_pos h40) (Eq.trans (bnd_of hr47) (if_neg h51)))
  obtain ⟨rfl, rfl⟩ := pj2 (e.symm.trans hr)
  exact ⟨rfl, H126⟩
  refine Sk rfl rfl (decide_eq_true h40) rfl (Sk rfl rfl (decide_eq_true h40) rfl (Sk rfl rfl (decide_eq_true h40) rfl (WL.val (v := .bool true) rfl (Yl.pickT rfl (decide_eq_true h40) rfl) (WL.nil (Fin.then (Wp.cond1 rfl rfl (Wp.seq (Wp.region (Kn (v := .agg #[.string ⟨List.toArray ([])⟩, .string ⟨List.toArray ([])⟩]) rfl rfl rfl (fun _ => by kernel_rfl) ?_)))))))))
  refine WL.do0 (Do.store (vs := [.string ⟨List.toArray ([])⟩, .string ⟨List.toArray ([])⟩]) (o := 0) H39 rfl rfl Try.sizeOf27 rfl rfl rfl rfl ?_)
  intro w127 H128
  replace H128 : Own w D w127 [blk g27 [.string ⟨List.toArray ([])⟩, .string ⟨List.toArray ([])⟩] 27, blk g24 (RangeD.cells p1) 27, blk g21 (RangeD.cells p0) 27] := H128
  refine As rfl rfl (WL.nil (Fin.then (Wp.ret (Fin.thenR (Fin.res (resN (vs := [.agg #[.string ⟨List.toArray ([])⟩, .string ⟨List.toArray ([])⟩], .bool false]) rfl (ResV.cell rfl (Lds.agg (cs := [.string ⟨List.toArray ([])⟩, .string ⟨List.toArray ([])⟩]) Try.isAgg27 Try.sizeOf27 ((H128.cls (i := 0) rfl).lit (k := 0) (m := 2) rfl)) (ResV.tmp rfl ResV.nil)) (Nat.le_of_ble_eq_true rfl)) ?_)))))
  have H129 : Own w D w127 [] := H128.pick [] (by decide) rfl
  have e : span_Meet p0 p1 = (RangeD.mk ([]) ([]), false) := Eq.trans (bnd_of hr36) (if_neg h40)
  obtain ⟨rfl, rfl⟩ := pj2 (e.symm.trans hr)
  exact ⟨rfl, H129⟩

def r04_SameResults_L0 (l1 : List ResultT) : List ResultT → Nat → Unit ⊕ Bool
  | [], k22 => Sum.inl ()
  | x31 :: q23, k22 => bnd (List.getD l1 k22 default) fun yx38 => if x31.xFound = yx38.xFound then if x31.xValue ≠ yx38.xValue then Sum.inr (false) else bnd (r04_SameMap x31.xPairs.ls yx38.xPairs.ls) fun yr50 => if yr50 = true then r04_SameResults_L0 l1 q23 (k22 + 1) else Sum.inr (false) else Sum.inr (false)

def r04_SameResults (l0 : List ResultT) (l1 : List ResultT) : Bool :=
  if ((List.length l0 : Nat) : Int) = ((List.length l1 : Nat) : Int) then lp (r04_SameResults_L0 l1 l0 0) fun _ => true else false

set_option maxRecDepth 100000 in
theorem r04_SameResults_ok (w : World) (D : Nat → Prop) (A0 : Option Addr) (n0 c0 : Nat) (d0 : List ResultD) (l0 : List ResultT) (A1 : Option Addr) (n1 c1 : Nat) (d1 : List ResultD) (l1 : List ResultT) (r0 : Bool) (H : Own w D w []) (hd0 : List.map ResultD.abs d0 = l0) (hx0 : Ro w D fun w' => Rds w' 3 A0 n0 (List.flatMap ResultD.cells d0)) (hm0 : ∀ x ∈ d0, Ro w D (fun w' => Rds w' 2 x.xPairs.A (List.length x.xPairs.ls) (List.flatMap PairD.cells x.xPairs.ls)) ∧ List.length x.xPairs.ls ≤ 9223372036854775807) (hn0 : n0 = List.length l0) (hl0 : List.length l0 * 48 ≤ 211106232532992) (hd1 : List.map ResultD.abs d1 = l1) (hx1 : Ro w D fun w' => Rds w' 3 A1 n1 (List.flatMap ResultD.cells d1)) (hm1 : ∀ x ∈ d1, Ro w D (fun w' => Rds w' 2 x.xPairs.A (List.length x.xPairs.ls) (List.flatMap PairD.cells x.xPairs.ls)) ∧ List.length x.xPairs.ls ≤ 9223372036854775807) (hn1 : n1 = List.length l1) (hl1 : List.length l1 * 48 ≤ 211106232532992) (hr : r04_SameResults l0 l1 = r0) :
    Calls Try.prog 12 #[.slice A0 n0 c0, .slice A1 n1 c1] w (Ret fun v w' => v = .bool r0 ∧ Own w D w' []) := by
  subst hn0 hn1
  have hdl0 := abs_len hd0
  have hdl1 := abs_len hd1
  refine Calls.body (args := [.slice A0 (List.length l0) c0, .slice A1 (List.length l1) c1]) Try.func12 rfl rfl rfl ?_
  show Wp _ _ _ [(0, .slice A0 (List.length l0) c0), (1, .slice A1 (List.length l1) c1)] _ _
  refine Wp.seq (Wp.region (As rfl rfl (WL.nil (Fin.then (Wp.seq (Wp.seq (Wp.region (Mv rfl rfl (Kn (v := .int .i64 ((List.length l0 : Nat) : Int)) rfl rfl rfl (fun _ => by kernel_rfl) (Mv rfl rfl (Kn (v := .int .i64 ((List.length l1 : Nat) : Int)) rfl rfl rfl (fun _ => by kernel_rfl) (WL.val (v := .bool (decide (¬ (((List.length l0 : Nat) : Int) = ((List.length l1 : Nat) : Int))))) rfl (Yl.bool (e := !(decide (((List.length l0 : Nat) : Int) = ((List.length l1 : Nat) : Int)))) (Yl.kern rfl rfl (fun _ => by kernel_rfl)) decide_not.symm) (WL.nil (Fin.then ?_))))))))))))))
  by_cases h21 : ((List.length l0 : Nat) : Int) = ((List.length l1 : Nat) : Int)
  refine Wp.cond0 rfl (decide_eq_false (not_not_intro h21)) (Wp.skip (Fin.then (Wp.seq (Wp.seq (Wp.region (Mv rfl rfl (Kn (v := .int .i64 ((List.length l0 : Nat) : Int)) rfl rfl rfl (fun _ => by kernel_rfl) (Mv rfl rfl (WL.nil (Fin.then (Wp.block ?_)))))))))))
  have H24 : Own w D w [] := H.pick [] (by decide) rfl
  refine Wp.loop (ι := Nat) (fun i => [(4, .bool false), (13, .int .i64 ((i : Nat) : Int)), (12, .int .i64 ((List.length l0 : Nat) : Int)), (0, .slice A0 (List.length l0) c0), (1, .slice A1 (List.length l1) c1)]) (fun (i : Nat) w' => Own w D w' [] ∧ (i ≤ List.length l0 ∧ r04_SameResults_L0 l1 l0 0 = r04_SameResults_L0 l1 (List.drop i l0) i)) (fun i => List.length l0 - i) 0 ⟨rfl, rfl, rfl, rfl, rfl, trivial⟩ ⟨H24, (show 0 ≤ List.length l0 ∧ r04_SameResults_L0 l1 l0 0 = r04_SameResults_L0 l1 (List.drop 0 l0) 0 from ⟨by omega, rfl⟩)⟩ ?_
  rintro k22 w25 ⟨H26, hf27⟩
  show Wp _ _ _ [(4, .bool false), (13, .int .i64 ((k22 : Nat) : Int)), (12, .int .i64 ((List.length l0 : Nat) : Int)), (0, .slice A0 (List.length l0) c0), (1, .slice A1 (List.length l1) c1)] _ _
  replace H26 : Own w D w25 [] := H26
  replace hf27 : k22 ≤ List.length l0 ∧ r04_SameResults_L0 l1 l0 0 = r04_SameResults_L0 l1 (List.drop k22 l0) k22 := hf27
  obtain ⟨hi29, hq28⟩ := hf27
  refine Wp.seq (Wp.region (Kn (v := .bool (decide (((k22 : Nat) : Int) < ((List.length l0 : Nat) : Int)))) rfl rfl rfl (fun _ => by kernel_rfl) (WL.nil (Fin.then (Wp.seq ?_)))))
  by_cases h30 : ((k22 : Nat) : Int) < ((List.length l0 : Nat) : Int)
  obtain ⟨x31, hx32⟩ := rds_at (ls := d0) (i := k22) ResultD.len (by decide) (H26.ro hx0) (by first | omega | (simp; done) | (simp; omega))
  have hX33 := abs_at hd0 hx32
  have hb34 := (hm0 _ (List.mem_of_getElem? hx32)).2
  have hd35 := drop_at hX33
  refine Wp.cond1 rfl (decide_eq_true h30) (Wp.skip (Fin.then (Wp.seq (Wp.block (Wp.seq (Wp.region (Mv rfl rfl (As rfl rfl (WL.nil (Fin.then (Wp.seq ?_)))))))))))
  have H37 := H26.drew
  refine Wp.drawnX [] (fun W => ∃ L', Own w D W ([] ++ L')) (by kernel_rfl) (by kernel_rfl) (NoP.then (NoP.block (NoP.then (NoP.then (NoP.block (NoP.then NoP.base)))))) ⟨_, H37⟩ ?_
  revert H37
  generalize World.drew w25 = w36
  intro H37
  replace H37 : Own w D w36 [] := H37
  refine GX.take (v := .slice A0 (List.length l0) c0) (rs := []) 0 rfl (by kernel_rfl) (fun _ _ => Yl.move rfl) (GX.take (v := .int .i64 ((k22 : Nat) : Int)) (rs := []) 1 rfl (by kernel_rfl) (fun _ _ => Yl.move rfl) (GX.take (v := .pointer (some ⟨ab A0, ao A0 + k22 * 3, none⟩)) (rs := []) 2 rfl (by kernel_rfl) (fun _ ⟨_, H9⟩ => Yl.indexAddr (El34) rfl rfl ((H9.ro hx0).addr (i := k22) (by omega)) (by omega)) (GX.take (v := .pointer (some ⟨ab A0, ao A0 + k22 * 3, none⟩)) (rs := []) 3 rfl (by kernel_rfl) (fun _ _ => Yl.kern rfl rfl (fun _ => by kernel_rfl)) (GX.take (v := .bool x31.xFound) (rs := []) 4 rfl (by kernel_rfl) (fun _ ⟨_, H9⟩ => Yl.load rfl (Lds.one Try.isAgg4 (((H9.ro hx0).elem ResultD.len hx32 (by decide)).at_ (k := 0) rfl))) (GX.take (v := .slice A1 (List.length l1) c1) (rs := []) 5 rfl (by kernel_rfl) (fun _ _ => Yl.move rfl) (GX.take (v := .int .i64 ((k22 : Nat) : Int)) (rs := []) 6 rfl (by kernel_rfl) (fun _ _ => Yl.move rfl) ?_))))))
  obtain ⟨x38, hx39⟩ := at_of (ls := d1) (i := k22) (by first | omega | (simp; done) | (simp; omega))
  have hX40 := abs_at hd1 hx39
  have hb41 := (hm1 _ (List.mem_of_getElem? hx39)).2
  refine GX.take (v := .pointer (some ⟨ab A1, ao A1 + k22 * 3, none⟩)) (rs := []) 7 rfl (by kernel_rfl) (fun _ ⟨_, H9⟩ => Yl.indexAddr (El34) rfl rfl ((H9.ro hx1).addr (i := k22) (by omega)) (by omega)) (GX.take (v := .pointer (some ⟨ab A1, ao A1 + k22 * 3, none⟩)) (rs := []) 8 rfl (by kernel_rfl) (fun _ _ => Yl.kern rfl rfl (fun _ => by kernel_rfl)) (GX.take (v := .bool x38.xFound) (rs := []) 9 rfl (by kernel_rfl) (fun _ ⟨_, H9⟩ => Yl.load rfl (Lds.one Try.isAgg4 (((H9.ro hx1).elem ResultD.len hx39 (by decide)).at_ (k := 0) rfl))) (GX.take (v := .bool (decide (¬ (x31.xFound = x38.xFound)))) (rs := []) 10 rfl (by kernel_rfl) (fun _ _ => Yl.bool (e := !(x31.xFound == x38.xFound)) (Yl.kern rfl rfl (fun _ => by kernel_rfl)) (by first | (rw [Bool.beq_eq_decide_eq]; exact decide_not.symm) | (by_cases q : x31.xFound = x38.xFound <;> simp [q]))) (GX.take (v := .bool (decide (¬ (x31.xFound = x38.xFound)))) (rs := []) 11 rfl (by kernel_rfl) (fun _ _ => Yl.move rfl) ?_))))
  by_cases h42 : x31.xFound = x38.xFound
  refine GX.takeG (v := .slice A0 (List.length l0) c0) (rs := []) 12 rfl rfl rfl (decide_eq_false (not_not_intro h42)) (by kernel_rfl) (fun _ _ => Yl.move rfl) (GX.takeG (v := .int .i64 ((k22 : Nat) : Int)) (rs := []) 13 rfl rfl rfl (decide_eq_false (not_not_intro h42)) (by kernel_rfl) (fun _ _ => Yl.move rfl) (GX.takeG (v := .pointer (some ⟨ab A0, ao A0 + k22 * 3, none⟩)) (rs := []) 14 rfl rfl rfl (decide_eq_false (not_not_intro h42)) (by kernel_rfl) (fun _ ⟨_, H9⟩ => Yl.indexAddr (El34) rfl rfl ((H9.ro hx0).addr (i := k22) (by omega)) (by omega)) (GX.takeG (v := .pointer (some ⟨ab A0, ao A0 + k22 * 3 + 1, none⟩)) (rs := []) 15 rfl rfl rfl (decide_eq_false (not_not_intro h42)) (by kernel_rfl) (fun _ _ => Yl.kern rfl rfl (fun _ => by kernel_rfl)) (GX.takeG (v := .string ⟨List.toArray x31.xValue⟩) (rs := []) 16 rfl rfl rfl (decide_eq_false (not_not_intro h42)) (by kernel_rfl) (fun _ ⟨_, H9⟩ => Yl.load rfl (Lds.one Try.isAgg9 (((H9.ro hx0).elem ResultD.len hx32 (by decide)).at_ (k := 1) rfl))) (GX.takeG (v := .slice A1 (List.length l1) c1) (rs := []) 17 rfl rfl rfl (decide_eq_false (not_not_intro h42)) (by kernel_rfl) (fun _ _ => Yl.move rfl) (GX.takeG (v := .int .i64 ((k22 : Nat) : Int)) (rs := []) 18 rfl rfl rfl (decide_eq_false (not_not_intro h42)) (by kernel_rfl) (fun _ _ => Yl.move rfl) (GX.takeG (v := .pointer (some ⟨ab A1, ao A1 + k22 * 3, none⟩)) (rs := []) 19 rfl rfl rfl (decide_eq_false (not_not_intro h42)) (by kernel_rfl) (fun _ ⟨_, H9⟩ => Yl.indexAddr (El34) rfl rfl ((H9.ro hx1).addr (i := k22) (by omega)) (by omega)) (GX.takeG (v := .pointer (some ⟨ab A1, ao A1 + k22 * 3 + 1, none⟩)) (rs := []) 20 rfl rfl rfl (decide_eq_false (not_not_intro h42)) (by kernel_rfl) (fun _ _ => Yl.kern rfl rfl (fun _ => by kernel_rfl)) (GX.takeG (v := .string ⟨List.toArray x38.xValue⟩) (rs := []) 21 rfl rfl rfl (decide_eq_false (not_not_intro h42)) (by kernel_rfl) (fun _ ⟨_, H9⟩ => Yl.load rfl (Lds.one Try.isAgg9 (((H9.ro hx1).elem ResultD.len hx39 (by decide)).at_ (k := 1) rfl))) (GX.takeG (v := .bool (decide (x31.xValue ≠ x38.xValue))) (rs := []) 22 rfl rfl rfl (decide_eq_false (not_not_intro h42)) (by kernel_rfl) (fun _ _ => Yl.strNe rfl rfl) (GX.take (v := .bool (decide (x31.xValue ≠ x38.xValue))) (rs := []) 23 rfl (by kernel_rfl) (fun _ _ => Yl.pickF rfl (decide_eq_false (not_not_intro h42)) rfl) (GX.take (v := .bool (decide (x31.xValue ≠ x38.xValue))) (rs := []) 24 rfl (by kernel_rfl) (fun _ _ => Yl.move rfl) ?_))))))))))))
  by_cases h43 : x31.xValue ≠ x38.xValue
  refine GX.skipG (rs := []) 25 rfl rfl rfl (decide_eq_true h43) (by kernel_rfl) (GX.skipG (rs := []) 26 rfl rfl rfl (decide_eq_true h43) (by kernel_rfl) (GX.skipG (rs := []) 27 rfl rfl rfl (decide_eq_true h43) (by kernel_rfl) (GX.skipG (rs := []) 28 rfl rfl rfl (decide_eq_true h43) (by kernel_rfl) (GX.skipG (rs := []) 29 rfl rfl rfl (decide_eq_true h43) (by kernel_rfl) (GX.skipG (rs := []) 30 rfl rfl rfl (decide_eq_true h43) (by kernel_rfl) (GX.skipG (rs := []) 31 rfl rfl rfl (decide_eq_true h43) (by kernel_rfl) (GX.skipG (rs := []) 32 rfl rfl rfl (decide_eq_true h43) (by kernel_rfl) (GX.skipG (rs := []) 33 rfl rfl rfl (decide_eq_true h43) (by kernel_rfl) (GX.skipG (rs := []) 34 rfl rfl rfl (decide_eq_true h43) (by kernel_rfl) (GX.skipG (rs := []) 35 rfl rfl rfl (decide_eq_true h43) (by kernel_rfl) (GX.skipG (rs := []) 36 rfl rfl rfl (decide_eq_true h43) (by kernel_rfl) (GX.take (v := .bool true) (rs := []) 37 rfl (by kernel_rfl) (fun _ _ => Yl.pickT rfl (decide_eq_true h43) rfl) (GX.done (by kernel_rfl) (Fin.then (Wp.cond1 rfl rfl (Wp.seq (Wp.region (As rfl rfl (WL.nil (Fin.then (Wp.ret (Fin.blockR (Fin.thenR (Fin.thenR (Fin.blockR (Fin.thenR (Fin.res (res1 rfl rfl) ?_)))))))))))))))))))))))))))
  have H44 : Own w D w36 [] := H37.pick [] (by decide) rfl
  have e : r04_SameResults l0 l1 = false := Eq.trans (if_pos h21) (lp_r (Eq.trans (hq28) (Eq.trans (congrArg (fun q => r04_SameResults_L0 l1 q k22) hd35) (Eq.trans (bnd_of (getD_of hX40)) (Eq.trans (if_pos h42) (if_pos h43))))))
  obtain rfl := e.symm.trans hr
  exact ⟨rfl, H44⟩
  refine GX.takeG (v := .slice A0 (List.length l0) c0) (rs := []) 25 rfl rfl rfl (decide_eq_false h43) (by kernel_rfl) (fun _ _ => Yl.move rfl) (GX.takeG (v := .int .i64 ((k22 : Nat) : Int)) (rs := []) 26 rfl rfl rfl (decide_eq_false h43) (by kernel_rfl) (fun _ _ => Yl.move rfl) (GX.takeG (v := .pointer (some ⟨ab A0, ao A0 + k22 * 3, none⟩)) (rs := []) 27 rfl rfl rfl (decide_eq_false h43) (by kernel_rfl) (fun _ ⟨_, H9⟩ => Yl.indexAddr (El34) rfl rfl ((H9.ro hx0).addr (i := k22) (by omega)) (by omega)) (GX.takeG (v := .pointer (some ⟨ab A0, ao A0 + k22 * 3 + 2, none⟩)) (rs := []) 28 rfl rfl rfl (decide_eq_false h43) (by kernel_rfl) (fun _ _ => Yl.kern rfl rfl (fun _ => by kernel_rfl)) (GX.takeG (v := .slice x31.xPairs.A (List.length x31.xPairs.ls) x31.xPairs.c) (rs := []) 29 rfl rfl rfl (decide_eq_false h43) (by kernel_rfl) (fun _ ⟨_, H9⟩ => Yl.load rfl (Lds.one Try.isAgg22 (((H9.ro hx0).elem ResultD.len hx32 (by decide)).at_ (k := 2) rfl))) (GX.takeG (v := .slice A1 (List.length l1) c1) (rs := []) 30 rfl rfl rfl (decide_eq_false h43) (by kernel_rfl) (fun _ _ => Yl.move rfl) (GX.takeG (v := .int .i64 ((k22 : Nat) : Int)) (rs := []) 31 rfl rfl rfl (decide_eq_false h43) (by kernel_rfl) (fun _ _ => Yl.move rfl) (GX.takeG (v := .pointer (some ⟨ab A1, ao A1 + k22 * 3, none⟩)) (rs := []) 32 rfl rfl rfl (decide_eq_false h43) (by kernel_rfl) (fun _ ⟨_, H9⟩ => Yl.indexAddr (El34) rfl rfl ((H9.ro hx1).addr (i := k22) (by omega)) (by omega)) (GX.takeG (v := .pointer (some ⟨ab A1, ao A1 + k22 * 3 + 2, none⟩)) (rs := []) 33 rfl rfl rfl (decide_eq_false h43) (by kernel_rfl) (fun _ _ => Yl.kern rfl rfl (fun _ => by kernel_rfl)) (GX.takeG (v := .slice x38.xPairs.A (List.length x38.xPairs.ls) x38.xPairs.c) (rs := []) 34 rfl rfl rfl (decide_eq_false h43) (by kernel_rfl) (fun _ ⟨_, H9⟩ => Yl.load rfl (Lds.one Try.isAgg22 (((H9.ro hx1).elem ResultD.len hx39 (by decide)).at_ (k := 2) rfl))) ?_)))))))))
  obtain ⟨r50, hr51⟩ : ∃ q, r04_SameMap x31.xPairs.ls x38.xPairs.ls = q := ⟨_, rfl⟩
  obtain ⟨D45, HP46, ro47, bk48, rr49⟩ := Own.enter0 H37
  refine GX.doG 35 rfl rfl rfl (decide_eq_false h43) (by kernel_rfl) (Do.call Try.call11 rfl (r04_SameMap_ok _ _ x31.xPairs.A (List.length x31.xPairs.ls) x31.xPairs.c x31.xPairs.ls x38.xPairs.A (List.length x38.xPairs.ls) x38.xPairs.c x38.xPairs.ls r50 HP46 (ro47 _ (hm0 _ (List.mem_of_getElem? hx32)).1) rfl (by omega) (ro47 _ (hm1 _ (List.mem_of_getElem? hx39)).1) rfl (by omega) hr51) ?_)
  rintro _ w52 ⟨rfl, HQ53⟩
  have H54 : Own w D w52 [] := bk48 _ _ HQ53
  refine ⟨.inr ⟨_, H54⟩, ?_⟩
  refine GX.takeG (v := .bool (!r50)) (rs := []) 36 rfl rfl rfl (decide_eq_false h43) (by kernel_rfl) (fun _ _ => Yl.kern rfl rfl (fun _ => by kernel_rfl)) (GX.take (v := .bool (!r50)) (rs := []) 37 rfl (by kernel_rfl) (fun _ _ => Yl.pickF rfl (decide_eq_false h43) rfl) (GX.done (by kernel_rfl) (Fin.then ?_)))
  rcases Bool.eq_false_or_eq_true (r50) with h55 | h55
  refine Wp.cond0 rfl (congrArg not h55) (Wp.skip (Fin.blockN (Fin.then (Wp.region (WL.val (v := .int .i64 ((k22 + 1 : Nat) : Int)) rfl (Yl.int (e := IntKind.i64.wrap (((k22 : Nat) : Int) + 1)) (Yl.kern rfl rfl (fun _ => by kernel_rfl)) (by rw [IntWalk.i64_in _ (by omega)]; omega)) (Mv rfl rfl (WL.nil ?_)))))))
  have H56 : Own w D w52 [] := H54.pick [] (by decide) rfl
  exact Fin.round (k22 + 1) ⟨rfl, rfl, rfl, rfl, rfl, trivial⟩ ⟨H56, (show (k22 + 1) ≤ List.length l0 ∧ r04_SameResults_L0 l1 l0 0 = r04_SameResults_L0 l1 (List.drop (k22 + 1) l0) (k22 + 1) from ⟨by omega, Eq.trans (hq28) (Eq.trans (congrArg (fun q => r04_SameResults_L0 l1 q k22) hd35) (Eq.trans (bnd_of (getD_of hX40)) (Eq.trans (if_pos h42) (Eq.trans (if_neg h43) (Eq.trans (bnd_of hr51) (if_pos h55))))))⟩)⟩ (by show List.length l0 - (k22 + 1) < List.length l0 - k22; omega)
  refine Wp.cond1 rfl (congrArg not h55) (Wp.seq (Wp.region (As rfl rfl (WL.nil (Fin.then (Wp.ret (Fin.blockR (Fin.thenR (Fin.thenR (Fin.blockR (Fin.thenR (Fin.res (res1 rfl rfl) ?_))))))))))))
  have H57 : Own w D w52 [] := H54.pick [] (by decide) rfl
  have e : r04_SameResults l0 l1 = false := Eq.trans (if_pos h21) (lp_r (Eq.trans (hq28) (Eq.trans (congrArg (fun q => r04_SameResults_L0 l1 q k22) hd35) (Eq.trans (bnd_of (getD_of hX40)) (Eq.trans (if_pos h42) (Eq.trans (if_neg h43) (Eq.trans (bnd_of hr51) (ifF h55))))))))
  obtain rfl := e.symm.trans hr
  exact ⟨rfl, H57⟩
  refine GX.skipG (rs := []) 12 rfl rfl rfl (decide_eq_true h42) (by kernel_rfl) (GX.skipG (rs := []) 13 rfl rfl rfl (decide_eq_true h42) (by kernel_rfl) (GX.skipG (rs := []) 14 rfl rfl rfl (decide_eq_true h42) (by kernel_rfl) (GX.skipG (rs := []) 15 rfl rfl rfl (decide_eq_true h42) (by kernel_rfl) (GX.skipG (rs := []) 16 rfl rfl rfl (decide_eq_true h42) (by kernel_rfl) (GX.skipG (rs := []) 17 rfl rfl rfl (decide_eq_true h42) (by kernel_rfl) (GX.skipG (rs := []) 18 rfl rfl rfl (decide_eq_true h42) (by kernel_rfl) (GX.skipG (rs := []) 19 rfl rfl rfl (decide_eq_true h42) (by kernel_rfl) (GX.skipG (rs := []) 20 rfl rfl rfl (decide_eq_true h42) (by kernel_rfl) (GX.skipG (rs := []) 21 rfl rfl rfl (decide_eq_true h42) (by kernel_rfl) (GX.skipG (rs := []) 22 rfl rfl rfl (decide_eq_true h42) (by kernel_rfl) (GX.take (v := .bool true) (rs := []) 23 rfl (by kernel_rfl) (fun _ _ => Yl.pickT rfl (decide_eq_true h42) rfl) (GX.take (v := .bool true) (rs := []) 24 rfl (by kernel_rfl) (fun _ _ => Yl.move rfl) (GX.skipG (rs := []) 25 rfl rfl rfl rfl (by kernel_rfl) (GX.skipG (rs := []) 26 rfl rfl rfl rfl (by kernel_rfl) (GX.skipG (rs := []) 27 rfl rfl rfl rfl (by kernel_rfl) (GX.skipG (rs := []) 28 rfl rfl rfl rfl (by kernel_rfl) (GX.skipG (rs := []) 29 rfl rfl rfl rfl (by kernel_rfl) (GX.skipG (rs := []) 30 rfl rfl rfl rfl (by kernel_rfl) (GX.skipG (rs := []) 31 rfl rfl rfl rfl (by kernel_rfl) (GX.skipG (rs := []) 32 rfl rfl rfl rfl (by kernel_rfl) (GX.skipG (rs := []) 33 rfl rfl rfl rfl (by kernel_rfl) (GX.skipG (rs := []) 34 rfl rfl rfl rfl (by kernel_rfl) (GX.skipG (rs := []) 35 rfl rfl rfl rfl (by kernel_rfl) (GX.skipG (rs := []) 36 rfl rfl rfl rfl (by kernel_rfl) (GX.take (v := .bool true) (rs := []) 37 rfl (by kernel_rfl) (fun _ _ => Yl.pickT rfl rfl rfl) (GX.done (by kernel_rfl) (Fin.then (Wp.cond1 rfl rfl (Wp.seq (Wp.region (As rfl rfl (WL.nil (Fin.then (Wp.ret (Fin.blockR (Fin.thenR (Fin.thenR (Fin.blockR (Fin.thenR ?_)))))))))))))))))))))))))))))))))))))))
  refine Fin.res (res1 rfl rfl) ?_
  have H58 : Own w D w36 [] := H37.pick [] (by decide) rfl
  have e : r04_SameResults l0 l1 = false := Eq.trans (if_pos h21) (lp_r (Eq.trans (hq28) (Eq.trans (congrArg (fun q => r04_SameResults_L0 l1 q k22) hd35) (Eq.trans (bnd_of (getD_of hX40)) (if_neg h42)))))
  obtain rfl := e.symm.trans hr
  exact ⟨rfl, H58⟩
  refine Wp.cond0 rfl (decide_eq_false h30) (Wp.exit (Fin.thenX ?_))
  have hL59 : r04_SameResults_L0 l1 l0 0 = Sum.inl () := Eq.trans (hq28) (congrArg (fun q => r04_SameResults_L0 l1 q k22) (drop_end (ls := l0) (i := k22) (by omega)))
  refine Fin.thenX (Fin.blockX (Fin.then (Wp.seq (Wp.region (As rfl rfl (WL.nil (Fin.then (Wp.ret (Fin.res (res1 rfl rfl) ?_)))))))))
  have H60 : Own w D w25 [] := H26.pick [] (by decide) rfl
  have e : r04_SameResults l0 l1 = true := Eq.trans (if_pos h21) (lp_l hL59)
  obtain rfl := e.symm.trans hr
  exact ⟨rfl, H60⟩
  refine Wp.cond1 rfl (decide_eq_true h21) (Wp.seq (Wp.region (As rfl rfl (WL.nil (Fin.then (Wp.ret (Fin.thenR (Fin.res (res1 rfl rfl) ?_))))))))
  have H61 : Own w D w [] := H.pick [] (by decide) rfl
  have e : r04_SameResults l0 l1 = false := if_neg h21
  obtain rfl := e.symm.trans hr
  exact ⟨rfl, H61⟩

def w04_OpTurns (l0 : List PairD) (p1 : OpD) (p2 : OpD) : Bool :=
  bnd (w04_live) fun yr32 => bnd (op_Span p1) fun yr42 => bnd (op_Span p2) fun yr58 => if yr42.2 = 0 then if yr58.2 = 0 then bnd (span_Meet yr42.1 yr58.1) fun yr76 => if yr76.2 = true then bnd (op_Writes p1) fun yr93 => if yr93 = true then yr32 else bnd (op_Writes p2) fun yr105 => if yr105 = true then yr32 else bnd (op_Apply l0 ([p1, p2])) fun yr120 => bnd (op_Apply l0 ([p2, p1])) fun yr145 => if yr120.2.2 = 0 then if yr145.2.2 = 0 then if yr32 = true then bnd (r04_SameMap yr120.1 yr145.1) fun yr172 => if yr172 = true then if ((List.length yr120.2.1 : Nat) : Int) = 2 then if ((List.length yr145.2.1 : Nat) : Int) = 2 then bnd (List.getD yr145.2.1 1 default) fun yx180 => bnd (List.getD yr145.2.1 0 default) fun yx183 => bnd (r04_SameResults yr120.2.1 ([(ResultT.mk yx180.xFound yx180.xValue (Ll.mk yx180.xPairs.ls)), (ResultT.mk yx183.xFound yx183.xValue (Ll.mk yx183.xPairs.ls))])) fun yr195 => yr195 else false else false else false else false else if yr32 = true then decide (yr120.2.2 = yr145.2.2) else false else if yr32 = true then decide (yr120.2.2 = yr145.2.2) else false else bnd (op_Apply l0 ([p1, p2])) fun yr219 => bnd (op_Apply l0 ([p2, p1])) fun yr244 => if yr219.2.2 = 0 then if yr244.2.2 = 0 then if yr32 = true then bnd (r04_SameMap yr219.1 yr244.1) fun yr271 => if yr271 = true then if ((List.length yr219.2.1 : Nat) : Int) = 2 then if ((List.length yr244.2.1 : Nat) : Int) = 2 then bnd (List.getD yr244.2.1 1 default) fun yx279 => bnd (List.getD yr244.2.1 0 default) fun yx282 => bnd (r04_SameResults yr219.2.1 ([(ResultT.mk yx279.xFound yx279.xValue (Ll.mk yx279.xPairs.ls)), (ResultT.mk yx282.xFound yx282.xValue (Ll.mk yx282.xPairs.ls))])) fun yr294 => yr294 else false else false else false else false else if yr32 = true then decide (yr219.2.2 = yr244.2.2) else false else if yr32 = true then decide (yr219.2.2 = yr244.2.2) else false else yr32 else yr32

set_option maxRecDepth 100000 in
theorem w04_OpTurns_ok (w : World) (D : Nat → Prop) (A0 : Option Addr) (n0 c0 : Nat) (l0 : List PairD) (p1 : OpD) (p2 : OpD) (r0 : Bool) (H : Own w D w []) (hx0 : Ro w D fun w' => Rds w' 2 A0 n0 (List.flatMap PairD.cells l0)) (hn0 : n0 = List.length l0) (hl0 : List.length l0 * 32 ≤ 211106232532992) (hh0 : List.length l0 * 32 ≤ 140737488351232) (hr : w04_OpTurns l0 p1 p2 = r0) :
    Calls Try.prog 3 #[.slice A0 n0 c0, .agg (OpD.cells p1).toArray, .agg (OpD.cells p2).toArray] w (Ret fun v w' => v = .bool r0 ∧ Own w D w' []) := by
  subst hn0
  refine Calls.body (args := [.slice A0 (List.length l0) c0, .agg (OpD.cells p1).toArray, .agg (OpD.cells p2).toArray]) Try.func3 rfl rfl rfl ?_
  show Wp _ _ _ [(0, .slice A0 (List.length l0) c0), (1, .agg (OpD.cells p1).toArray), (2, .agg (OpD.cells p2).toArray)] _ _
  refine Wp.seq (Wp.region ?_)
  refine WL.do rfl (Do.newP (cs := (OpD.cells p1)) (t := 24) H rfl rfl (fun _ => by kernel_rfl) ?_)
  intro g21 w22 H23
  replace H23 : Own w D w22 [blk g21 (OpD.cells p1) 24] := H23
  refine WL.do rfl (Do.newP (cs := (OpD.cells p2)) (t := 24) H23 rfl rfl (fun _ => by kernel_rfl) ?_)
  intro g24 w25 H26
  replace H26 : Own w D w25 [blk g24 (OpD.cells p2) 24, blk g21 (OpD.cells p1) 24] := H26
  refine As rfl rfl (WL.nil (Fin.then (Wp.seq (Wp.region ?_))))
  obtain ⟨r32, hr33⟩ : ∃ q, w04_live = q := ⟨_, rfl⟩
  obtain ⟨D27, HP28, ro29, bk30, rr31⟩ := Own.enter0 H26
  refine WL.do rfl (Do.call Try.call6 rfl (w04_live_ok _ _ r32 HP28 hr33) ?_)
  rintro _ w34 ⟨rfl, HQ35⟩
  have H36 : Own w D w34 [blk g24 (OpD.cells p2) 24, blk g21 (OpD.cells p1) 24] := bk30 _ _ HQ35
  refine As rfl rfl (WL.nil (Fin.then (Wp.seq (Wp.region (WL.val (v := .agg (OpD.cells p1).toArray) rfl (Yl.load rfl (Lds.agg (cs := (OpD.cells p1)) Try.isAgg24 Try.sizeOf24 ((H36.cls (i := 1) rfl).lit (k := 0) (m := 6) rfl))) ?_)))))
  obtain ⟨⟨r42, r43⟩, hr44⟩ : ∃ q : RangeD × Int, op_Span p1 = q := ⟨_, rfl⟩
  obtain ⟨D37, HP38, ro39, bk40, rr41⟩ := Own.enter0 H36
  refine WL.do rfl (Do.call Try.call7 rfl (op_Span_ok _ _ p1 r42 r43 HP38 hr44) ?_)
  rintro _ w45 ⟨rfl, HQ46⟩
  have H47 : Own w D w45 [blk g24 (OpD.cells p2) 24, blk g21 (OpD.cells p1) 24] := bk40 _ _ HQ46
  refine Mv rfl rfl (Kn (v := .agg (RangeD.cells r42).toArray) rfl rfl rfl (fun _ => by kernel_rfl) (Kn (v := .int .i64 r43) rfl rfl rfl (fun _ => by kernel_rfl) ?_))
  refine WL.do rfl (Do.newP (cs := [.string ⟨List.toArray ([])⟩, .string ⟨List.toArray ([])⟩]) (t := 27) H47 rfl rfl (fun _ => by kernel_rfl) ?_)
  intro g48 w49 H50
  replace H50 : Own w D w49 [blk g48 [.string ⟨List.toArray ([])⟩, .string ⟨List.toArray ([])⟩] 27, blk g24 (OpD.cells p2) 24, blk g21 (OpD.cells p1) 24] := H50
  refine WL.do0 (Do.store (vs := (RangeD.cells r42)) (o := 0) H50 rfl rfl Try.sizeOf27 rfl rfl rfl rfl ?_)
  intro w51 H52
  replace H52 : Own w D w51 [blk g48 (RangeD.cells r42) 27, blk g24 (OpD.cells p2) 24, blk g21 (OpD.cells p1) 24] := H52
  refine As rfl rfl (WL.nil (Fin.then (Wp.seq (Wp.region (WL.val (v := .agg (OpD.cells p2).toArray) rfl (Yl.load rfl (Lds.agg (cs := (OpD.cells p2)) Try.isAgg24 Try.sizeOf24 ((H52.cls (i := 1) rfl).lit (k := 0) (m := 6) rfl))) ?_)))))
  obtain ⟨⟨r58, r59⟩, hr60⟩ : ∃ q : RangeD × Int, op_Span p2 = q := ⟨_, rfl⟩
  obtain ⟨D53, HP54, ro55, bk56, rr57⟩ := Own.enter0 H52
  refine WL.do rfl (Do.call Try.call7 rfl (op_Span_ok _ _ p2 r58 r59 HP54 hr60) ?_)
  rintro _ w61 ⟨rfl, HQ62⟩
  have H63 : Own w D w61 [blk g48 (RangeD.cells r42) 27, blk g24 (OpD.cells p2) 24, blk g21 (OpD.cells p1) 24] := bk56 _ _ HQ62
  refine Mv rfl rfl (Kn (v := .agg (RangeD.cells r58).toArray) rfl rfl rfl (fun _ => by kernel_rfl) (Kn (v := .int .i64 r59) rfl rfl rfl (fun _ => by kernel_rfl) ?_))
  refine WL.do rfl (Do.newP (cs := [.string ⟨List.toArray ([])⟩, .string ⟨List.toArray ([])⟩]) (t := 27) H63 rfl rfl (fun _ => by kernel_rfl) ?_)
  intro g64 w65 H66
  replace H66 : Own w D w65 [blk g64 [.string ⟨List.toArray ([])⟩, .string ⟨List.toArray ([])⟩] 27, blk g48 (RangeD.cells r42) 27, blk g24 (OpD.cells p2) 24, blk g21 (OpD.cells p1) 24] := H66
  refine WL.do0 (Do.store (vs := (RangeD.cells r58)) (o := 0) H66 rfl rfl Try.sizeOf27 rfl rfl rfl rfl ?_)
  intro w67 H68
  replace H68 : Own w D w67 [blk g64 (RangeD.cells r58) 27, blk g48 (RangeD.cells r42) 27, blk g24 (OpD.cells p2) 24, blk g21 (OpD.cells p1) 24] := H68
  refine As rfl rfl (WL.nil (Fin.then (Wp.seq (Wp.seq (Wp.region (Mv rfl rfl (WL.val (v := .bool (decide (¬ (r43 = 0)))) rfl (Yl.bool (e := !(decide (r43 = 0))) (Yl.kern rfl rfl (fun _ => by kernel_rfl)) decide_not.symm) (Mv rfl rfl ?_))))))))
  by_cases h69 : r43 = 0
  refine WL.valG (v := .int .i64 r59) rfl rfl (decide_eq_false (not_not_intro h69)) rfl (Yl.move rfl) (WL.valG (v := .bool (decide (¬ (r59 = 0)))) rfl rfl (decide_eq_false (not_not_intro h69)) rfl (Yl.bool (e := !(decide (r59 = 0))) (Yl.kern rfl rfl (fun _ => by kernel_rfl)) decide_not.symm) (WL.val (v := .bool (decide (¬ (r59 = 0)))) rfl (Yl.pickF rfl (decide_eq_false (not_not_intro h69)) rfl) (WL.nil (Fin.then ?_))))
  by_cases h70 : r59 = 0
  refine Wp.cond0 rfl (decide_eq_false (not_not_intro h70)) (Wp.skip (Fin.then (Wp.seq (Wp.region (WL.val (v := .agg (RangeD.cells r42).toArray) rfl (Yl.load rfl (Lds.agg (cs := (RangeD.cells r42)) Try.isAgg27 Try.sizeOf27 ((H68.cls (i := 1) rfl).lit (k := 0) (m := 2) rfl))) (WL.val (v := .agg (RangeD.cells r58).toArray) rfl (Yl.load rfl (Lds.agg (cs := (RangeD.cells r58)) Try.isAgg27 Try.sizeOf27 ((H68.cls (i := 0) rfl).lit (k := 0) (m := 2) rfl))) ?_))))))
  obtain ⟨⟨r76, r77⟩, hr78⟩ : ∃ q : RangeD × Bool, span_Meet r42 r58 = q := ⟨_, rfl⟩
  obtain ⟨D71, HP72, ro73, bk74, rr75⟩ := Own.enter0 H68
  refine WL.do rfl (Do.call Try.call8 rfl (span_Meet_ok _ _ r42 r58 r76 r77 HP72 hr78) ?_)
  rintro _ w79 ⟨rfl, HQ80⟩
  have H81 : Own w D w79 [blk g64 (RangeD.cells r58) 27, blk g48 (RangeD.cells r42) 27, blk g24 (OpD.cells p2) 24, blk g21 (OpD.cells p1) 24] := bk74 _ _ HQ80
  refine Mv rfl rfl (Kn (v := .agg (RangeD.cells r76).toArray) rfl rfl rfl (fun _ => by kernel_rfl) (Kn (v := .bool r77) rfl rfl rfl (fun _ => by kernel_rfl) ?_))
  refine WL.do rfl (Do.newP (cs := [.string ⟨List.toArray ([])⟩, .string ⟨List.toArray ([])⟩]) (t := 27) H81 rfl rfl (fun _ => by kernel_rfl) ?_)
  intro g82 w83 H84
  replace H84 : Own w D w83 [blk g82 [.string ⟨List.toArray ([])⟩, .string ⟨List.toArray ([])⟩] 27, blk g64 (RangeD.cells r58) 27, blk g48 (RangeD.cells r42) 27, blk g24 (OpD.cells p2) 24, blk g21 (OpD.cells p1) 24] := H84
  refine WL.do0 (Do.store (vs := (RangeD.cells r76)) (o := 0) H84 rfl rfl Try.sizeOf27 rfl rfl rfl rfl ?_)
  intro w85 H86
  replace H86 : Own w D w85 [blk g82 (RangeD.cells r76) 27, blk g64 (RangeD.cells r58) 27, blk g48 (RangeD.cells r42) 27, blk g24 (OpD.cells p2) 24, blk g21 (OpD.cells p1) 24] := H86
  refine As rfl rfl (WL.nil (Fin.then (Wp.seq (Wp.seq (Wp.region (Mv rfl rfl (Mv rfl rfl ?_)))))))
  rcases Bool.eq_false_or_eq_true (r77) with h87 | h87
  refine WL.valG (v := .agg (OpD.cells p1).toArray) rfl rfl h87 rfl (Yl.load rfl (Lds.agg (cs := (OpD.cells p1)) Try.isAgg24 Try.sizeOf24 ((H86.cls (i := 4) rfl).lit (k := 0) (m := 6) rfl))) ?_
  obtain ⟨r93, hr94⟩ : ∃ q, op_Writes p1 = q := ⟨_, rfl⟩
  obtain ⟨D88, HP89, ro90, bk91, rr92⟩ := Own.enter0 H86
  refine WL.doG rfl rfl h87 rfl (Do.call Try.call9 rfl (op_Writes_ok _ _ p1 r93 HP89 hr94) ?_)
  rintro _ w95 ⟨rfl, HQ96⟩
  have H97 : Own w D w95 [blk g82 (RangeD.cells r76) 27, blk g64 (RangeD.cells r58) 27, blk g48 (RangeD.cells r42) 27, blk g24 (OpD.cells p2) 24, blk g21 (OpD.cells p1) 24] := bk91 _ _ HQ96
  refine WL.valG (v := .bool r93) rfl rfl h87 rfl (Yl.move rfl) ?_
  rcases Bool.eq_false_or_eq_true (r93) with h98 | h98
  refine Sk rfl rfl h98 rfl (Sk rfl rfl h98 rfl (WL.valG (v := .bool true) rfl rfl h87 rfl (Yl.pickT rfl h98 rfl) (WL.val (v := .bool true) rfl (Yl.pickT rfl h87 rfl) (WL.nil (Fin.then (Wp.cond1 rfl rfl (Wp.seq (Wp.region (Mv rfl rfl (As rfl rfl (WL.nil (Fin.then (Wp.ret (Fin.thenR (Fin.res (res1 rfl rfl) ?_)))))))))))))))
  have H99 : Own w D w95 [] := H97.pick [] (by decide) rfl
  have e : w04_OpTurns l0 p1 p2 = r32 := Eq.trans (bnd_of hr33) (Eq.trans (bnd_of hr44) (Eq.trans (bnd_of hr60) (Eq.trans (if_pos h69) (Eq.trans (if_pos h70) (Eq.trans (bnd_of hr78) (Eq.trans (if_pos h87) (Eq.trans (bnd_of hr94) (if_pos h98))))))))
  obtain rfl := e.symm.trans hr
  exact ⟨rfl, H99⟩
  refine WL.valG (v := .agg (OpD.cells p2).toArray) rfl rfl h98 rfl (Yl.load rfl (Lds.agg (cs := (OpD.cells p2)) Try.isAgg24 Try.sizeOf24 ((H97.cls (i := 3) rfl).lit (k := 0) (m := 6) rfl))) ?_
  obtain ⟨r105, hr106⟩ : ∃ q, op_Writes p2 = q := ⟨_, rfl⟩
  obtain ⟨D100, HP101, ro102, bk103, rr104⟩ := Own.enter0 H97
  refine WL.doG rfl rfl h98 rfl (Do.call Try.call9 rfl (op_Writes_ok _ _ p2 r105 HP101 hr106) ?_)
  rintro _ w107 ⟨rfl, HQ108⟩
  have H109 : Own w D w107 [blk g82 (RangeD.cells r76) 27, blk g64 (RangeD.cells r58) 27, blk g48 (RangeD.cells r42) 27, blk g24 (OpD.cells p2) 24, blk g21 (OpD.cells p1) 24] := bk103 _ _ HQ108
  refine WL.valG (v := .bool r105) rfl rfl h87 rfl (Yl.pickF rfl h98 rfl) (WL.val (v := .bool r105) rfl (Yl.pickT rfl h87 rfl) (WL.nil (Fin.then ?_)))
  rcases Bool.eq_false_or_eq_true (r105) with h110 | h110
  refine Wp.cond1 rfl h110 (Wp.seq (Wp.region (Mv rfl rfl (As rfl rfl (WL.nil (Fin.then (Wp.ret (Fin.thenR (Fin.res (res1 rfl rfl) ?_)))))))))
  have H111 : Own w D w107 [] := H109.pick [] (by decide) rfl
  have e : w04_OpTurns l0 p1 p2 = r32 := Eq.trans (bnd_of hr33) (Eq.trans (bnd_of hr44) (Eq.trans (bnd_of hr60) (Eq.trans (if_pos h69) (Eq.trans (if_pos h70) (Eq.trans (bnd_of hr78) (Eq.trans (if_pos h87) (Eq.trans (bnd_of hr94) (Eq.trans (ifF h98) (Eq.trans (bnd_of hr106) (if_pos h110))))))))))
  obtain rfl := e.symm.trans hr
  exact ⟨rfl, H111⟩
  refine Wp.cond0 rfl h110 (Wp.skip (Fin.then (Wp.seq (Wp.region (Mv rfl rfl (WL.val (v := .agg (OpD.cells p1).toArray) rfl (Yl.load rfl (Lds.agg (cs := (OpD.cells p1)) Try.isAgg24 Try.sizeOf24 ((H109.cls (i := 4) rfl).lit (k := 0) (m := 6) rfl))) (WL.val (v := .agg (OpD.cells p2).toArray) rfl (Yl.load rfl (Lds.agg (cs := (OpD.cells p2)) Try.isAgg24 Try.sizeOf24 ((H109.cls (i := 3) rfl).lit (k := 0) (m := 6) rfl))) ?_)))))))
  refine WL.do rfl (Do.newRow (cs := [.int .i64 p1.xKind, .string ⟨List.toArray p1.xKey⟩, .string ⟨List.toArray p1.xValue⟩, .string ⟨List.toArray p1.xLo⟩, .string ⟨List.toArray p1.xHi⟩, .int .i64 p1.xMost, .int .i64 p2.xKind, .string ⟨List.toArray p2.xKey⟩, .string ⟨List.toArray p2.xValue⟩, .string ⟨List.toArray p2.xLo⟩, .string ⟨List.toArray p2.xHi⟩, .int .i64 p2.xMost]) (t := 24) (sz := 6) (m := 2) H109 rfl rfl (fun _ => by kernel_rfl) rfl (by decide) ?_)
  intro A112 w113 H114
  replace H114 : Own w D w113 [row A112 2 2 (List.flatMap OpD.cells ([p1, p2])) 24 6, blk g82 (RangeD.cells r76) 27, blk g64 (RangeD.cells r58) 27, blk g48 (RangeD.cells r42) 27, blk g24 (OpD.cells p2) 24, blk g21 (OpD.cells p1) 24] := H114
  obtain ⟨⟨r120, r121, r122⟩, hr123⟩ : ∃ q : (List PairD) × (List ResultT) × Int, op_Apply l0 ([p1, p2]) = q := ⟨_, rfl⟩
  obtain ⟨D115, HP116, ro117, bk118, rr119⟩ := Own.enter0 H114
  refine WL.do rfl (Do.call Try.call10 rfl (op_Apply_ok _ _ A0 (List.length l0) c0 l0 A112 2 2 ([p1, p2]) r120 r121 r122 HP116 (ro117 _ hx0) rfl (by omega) (rr119 _ 0 _ rfl row_rds) rfl (by simp) (by first | omega | (simp only [List.length_cons, List.length_nil]; done) | (simp only [List.length_cons, List.length_nil, List.length_take, List.length_drop]; omega)) hr123) ?_)
  rintro _ w124 ⟨A127, c128, A129, c130, d131, rfl, HQ125, hd132, hk133⟩
  have H126 : Own w D w124 [row A127 (List.length r120) c128 (List.flatMap PairD.cells r120) 45 2, row A129 (List.length r121) c130 (List.flatMap ResultD.cells d131) 41 3, sepL (List.flatMap ResultD.own d131), row A112 2 2 (List.flatMap OpD.cells ([p1, p2])) 24 6, blk g82 (RangeD.cells r76) 27, blk g64 (RangeD.cells r58) 27, blk g48 (RangeD.cells r42) 27, blk g24 (OpD.cells p2) 24, blk g21 (OpD.cells p1) 24] := bk118 _ _ HQ125
  have hl134 := abs_len hd132
  have hb135 := H126.rowC (i := 0) rfl
  have hb136 := H126.rowC (i := 1) rfl
  replace hk133 : List.length r120 ≤ List.length l0 + 2 := hk133
  refine Mv rfl rfl (Kn (v := .slice A127 (List.length r120) c128) rfl rfl rfl (fun _ => by kernel_rfl) (Kn (v := .slice A129 (List.length r121) c130) rfl rfl rfl (fun _ => by kernel_rfl) (Kn (v := .int .i64 r122) rfl rfl rfl (fun _ => by kernel_rfl) (As rfl rfl (As rfl rfl (As rfl rfl (WL.nil (Fin.then (Wp.seq (Wp.region (Mv rfl rfl (WL.val (v := .agg (OpD.cells p2).toArray) rfl (Yl.load rfl (Lds.agg (cs := (OpD.cells p2)) Try.isAgg24 Try.sizeOf24 ((H126.cls (i := 7) rfl).lit (k := 0) (m := 6) rfl))) (WL.val (v := .agg (OpD.cells p1).toArray) rfl (Yl.load rfl (Lds.agg (cs := (OpD.cells p1)) Try.isAgg24 Try.sizeOf24 ((H126.cls (i := 8) rfl).lit (k := 0) (m := 6) rfl))) ?_)))))))))))))
  refine WL.do rfl (Do.newRow (cs := [.int .i64 p2.xKind, .string ⟨List.toArray p2.xKey⟩, .string ⟨List.toArray p2.xValue⟩, .string ⟨List.toArray p2.xLo⟩, .string ⟨List.toArray p2.xHi⟩, .int .i64 p2.xMost, .int .i64 p1.xKind, .string ⟨List.toArray p1.xKey⟩, .string ⟨List.toArray p1.xValue⟩, .string ⟨List.toArray p1.xLo⟩, .string ⟨List.toArray p1.xHi⟩, .int .i64 p1.xMost]) (t := 24) (sz := 6) (m := 2) H126 rfl rfl (fun _ => by kernel_rfl) rfl (by decide) ?_)
  intro A137 w138 H139
  replace H139 : Own w D w138 [row A137 2 2 (List.flatMap OpD.cells ([p2, p1])) 24 6, row A127 (List.length r120) c128 (List.flatMap PairD.cells r120) 45 2, row A129 (List.length r121) c130 (List.flatMap ResultD.cells d131) 41 3, sepL (List.flatMap ResultD.own d131), row A112 2 2 (List.flatMap OpD.cells ([p1, p2])) 24 6, blk g82 (RangeD.cells r76) 27, blk g64 (RangeD.cells r58) 27, blk g48 (RangeD.cells r42) 27, blk g24 (OpD.cells p2) 24, blk g21 (OpD.cells p1) 24] := H139
  obtain ⟨⟨r145, r146, r147⟩, hr148⟩ : ∃ q : (List PairD) × (List ResultT) × Int, op_Apply l0 ([p2, p1]) = q := ⟨_, rfl⟩
  obtain ⟨D140, HP141, ro142, bk143, rr144⟩ := Own.enter0 H139
  refine WL.do rfl (Do.call Try.call10 rfl (op_Apply_ok _ _ A0 (List.length l0) c0 l0 A137 2 2 ([p2, p1]) r145 r146 r147 HP141 (ro142 _ hx0) rfl (by omega) (rr144 _ 0 _ rfl row_rds) rfl (by simp) (by first | omega | (simp only [List.length_cons, List.length_nil]; done) | (simp only [List.length_cons, List.length_nil, List.length_take, List.length_drop]; omega)) hr148) ?_)
  rintro _ w149 ⟨A152, c153, A154, c155, d156, rfl, HQ150, hd157, hk158⟩
  have H151 : Own w D w149 [row A152 (List.length r145) c153 (List.flatMap PairD.cells r145) 45 2, row A154 (List.length r146) c155 (List.flatMap ResultD.cells d156) 41 3, sepL (List.flatMap ResultD.own d156), row A137 2 2 (List.flatMap OpD.cells ([p2, p1])) 24 6, row A127 (List.length r120) c128 (List.flatMap PairD.cells r120) 45 2, row A129 (List.length r121) c130 (List.flatMap ResultD.cells d131) 41 3, sepL (List.flatMap ResultD.own d131), row A112 2 2 (List.flatMap OpD.cells ([p1, p2])) 24 6, blk g82 (RangeD.cells r76) 27, blk g64 (RangeD.cells r58) 27, blk g48 (RangeD.cells r42) 27, blk g24 (OpD.cells p2) 24, blk g21 (OpD.cells p1) 24] := bk143 _ _ HQ150
  have hl159 := abs_len hd157
  have hb160 := H151.rowC (i := 0) rfl
  have hb161 := H151.rowC (i := 1) rfl
  replace hk158 : List.length r145 ≤ List.length l0 + 2 := hk158
  refine Mv rfl rfl (Kn (v := .slice A152 (List.length r145) c153) rfl rfl rfl (fun _ => by kernel_rfl) (Kn (v := .slice A154 (List.length r146) c155) rfl rfl rfl (fun _ => by kernel_rfl) (Kn (v := .int .i64 r147) rfl rfl rfl (fun _ => by kernel_rfl) (As rfl rfl (As rfl rfl (As rfl rfl (WL.nil (Fin.then (Wp.seq (Wp.seq (Wp.region (Mv rfl rfl (WL.val (v := .bool (decide (¬ (r122 = 0)))) rfl (Yl.bool (e := !(decide (r122 = 0))) (Yl.kern rfl rfl (fun _ => by kernel_rfl)) decide_not.symm) (Mv rfl rfl ?_))))))))))))))
  by_cases h162 : r122 = 0
  refine WL.valG (v := .int .i64 r147) rfl rfl (decide_eq_false (not_not_intro h162)) rfl (Yl.move rfl) (WL.valG (v := .bool (decide (¬ (r147 = 0)))) rfl rfl (decide_eq_false (not_not_intro h162)) rfl (Yl.bool (e := !(decide (r147 = 0))) (Yl.kern rfl rfl (fun _ => by kernel_rfl)) decide_not.symm) (WL.val (v := .bool (decide (¬ (r147 = 0)))) rfl (Yl.pickF rfl (decide_eq_false (not_not_intro h162)) rfl) (WL.nil (Fin.then ?_))))
  by_cases h163 : r147 = 0
  refine Wp.cond0 rfl (decide_eq_false (not_not_intro h163)) (Wp.skip (Fin.then (Wp.seq ?_)))
  have H165 := H151.drew
  refine Wp.drawnX [] (fun W => ∃ L', Own w D W ([row A152 (List.length r145) c153 (List.flatMap PairD.cells r145) 45 2, row A154 (List.length r146) c155 (List.flatMap ResultD.cells d156) 41 3, sepL (List.flatMap ResultD.own d156), row A137 2 2 (List.flatMap OpD.cells ([p2, p1])) 24 6, row A127 (List.length r120) c128 (List.flatMap PairD.cells r120) 45 2, row A129 (List.length r121) c130 (List.flatMap ResultD.cells d131) 41 3, sepL (List.flatMap ResultD.own d131), row A112 2 2 (List.flatMap OpD.cells ([p1, p2])) 24 6, blk g82 (RangeD.cells r76) 27, blk g64 (RangeD.cells r58) 27, blk g48 (RangeD.cells r42) 27, blk g24 (OpD.cells p2) 24, blk g21 (OpD.cells p1) 24] ++ L')) (by kernel_rfl) (by kernel_rfl) (NoP.then NoP.base) ⟨_, H165⟩ ?_
  revert H165
  generalize World.drew w149 = w164
  intro H165
  replace H165 : Own w D w164 [row A152 (List.length r145) c153 (List.flatMap PairD.cells r145) 45 2, row A154 (List.length r146) c155 (List.flatMap ResultD.cells d156) 41 3, sepL (List.flatMap ResultD.own d156), row A137 2 2 (List.flatMap OpD.cells ([p2, p1])) 24 6, row A127 (List.length r120) c128 (List.flatMap PairD.cells r120) 45 2, row A129 (List.length r121) c130 (List.flatMap ResultD.cells d131) 41 3, sepL (List.flatMap ResultD.own d131), row A112 2 2 (List.flatMap OpD.cells ([p1, p2])) 24 6, blk g82 (RangeD.cells r76) 27, blk g64 (RangeD.cells r58) 27, blk g48 (RangeD.cells r42) 27, blk g24 (OpD.cells p2) 24, blk g21 (OpD.cells p1) 24] := H165
  refine GX.take (v := .bool r32) (rs := []) 0 rfl (by kernel_rfl) (fun _ _ => Yl.move rfl) (GX.take (v := .bool r32) (rs := []) 1 rfl (by kernel_rfl) (fun _ _ => Yl.move rfl) ?_)
  rcases Bool.eq_false_or_eq_true (r32) with h166 | h166
  refine GX.takeG (v := .slice A127 (List.length r120) c128) (rs := []) 2 rfl rfl rfl h166 (by kernel_rfl) (fun _ _ => Yl.move rfl) (GX.takeG (v := .slice A152 (List.length r145) c153) (rs := []) 3 rfl rfl rfl h166 (by kernel_rfl) (fun _ _ => Yl.move rfl) ?_)
  obtain ⟨r172, hr173⟩ : ∃ q, r04_SameMap r120 r145 = q := ⟨_, rfl⟩
  obtain ⟨D167, HP168, ro169, bk170, rr171⟩ := Own.enter0 H165
  refine GX.doG 4 rfl rfl rfl h166 (by kernel_rfl) (Do.call Try.call11 rfl (r04_SameMap_ok _ _ A127 (List.length r120) c128 r120 A152 (List.length r145) c153 r145 r172 HP168 (rr171 _ 4 _ rfl row_rds) rfl (by omega) (rr171 _ 0 _ rfl row_rds) rfl (by omega) hr173) ?_)
  rintro _ w174 ⟨rfl, HQ175⟩
  have H176 : Own w D w174 [row A152 (List.length r145) c153 (List.flatMap PairD.cells r145) 45 2, row A154 (List.length r146) c155 (List.flatMap ResultD.cells d156) 41 3, sepL (List.flatMap ResultD.own d156), row A137 2 2 (List.flatMap OpD.cells ([p2, p1])) 24 6, row A127 (List.length r120) c128 (List.flatMap PairD.cells r120) 45 2, row A129 (List.length r121) c130 (List.flatMap ResultD.cells d131) 41 3, sepL (List.flatMap ResultD.own d131), row A112 2 2 (List.flatMap OpD.cells ([p1, p2])) 24 6, blk g82 (RangeD.cells r76) 27, blk g64 (RangeD.cells r58) 27, blk g48 (RangeD.cells r42) 27, blk g24 (OpD.cells p2) 24, blk g21 (OpD.cells p1) 24] := bk170 _ _ HQ175
  refine ⟨.inr ⟨_, H176⟩, ?_⟩
  refine GX.take (v := .bool r172) (rs := []) 5 rfl (by kernel_rfl) (fun _ _ => Yl.pickT rfl h166 rfl) (GX.take (v := .bool r172) (rs := []) 6 rfl (by kernel_rfl) (fun _ _ => Yl.move rfl) ?_)
  rcases Bool.eq_false_or_eq_true (r172) with h177 | h177
  refine GX.takeG (v := .slice A129 (List.length r121) c130) (rs := []) 7 rfl rfl rfl h177 (by kernel_rfl) (fun _ _ => Yl.move rfl) (GX.takeG (v := .int .i64 ((List.length r121 : Nat) : Int)) (rs := []) 8 rfl rfl rfl h177 (by kernel_rfl) (fun _ _ => Yl.kern rfl rfl (fun _ => by kernel_rfl)) (GX.takeG (v := .bool (decide (((List.length r121 : Nat) : Int) = 2))) (rs := []) 9 rfl rfl rfl h177 (by kernel_rfl) (fun _ _ => Yl.kern rfl rfl (fun _ => by kernel_rfl)) (GX.take (v := .bool (decide (((List.length r121 : Nat) : Int) = 2))) (rs := []) 10 rfl (by kernel_rfl) (fun _ _ => Yl.pickT rfl h177 rfl) (GX.take (v := .bool (decide (((List.length r121 : Nat) : Int) = 2))) (rs := []) 11 rfl (by kernel_rfl) (fun _ _ => Yl.move rfl) ?_))))
  by_cases h178 : ((List.length r121 : Nat) : Int) = 2
  refine GX.takeG (v := .slice A154 (List.length r146) c155) (rs := []) 12 rfl rfl rfl (decide_eq_true h178) (by kernel_rfl) (fun _ _ => Yl.move rfl) (GX.takeG (v := .int .i64 ((List.length r146 : Nat) : Int)) (rs := []) 13 rfl rfl rfl (decide_eq_true h178) (by kernel_rfl) (fun _ _ => Yl.kern rfl rfl (fun _ => by kernel_rfl)) (GX.takeG (v := .bool (decide (((List.length r146 : Nat) : Int) = 2))) (rs := []) 14 rfl rfl rfl (decide_eq_true h178) (by kernel_rfl) (fun _ _ => Yl.kern rfl rfl (fun _ => by kernel_rfl)) (GX.take (v := .bool (decide (((List.length r146 : Nat) : Int) = 2))) (rs := []) 15 rfl (by kernel_rfl) (fun _ _ => Yl.pickT rfl (decide_eq_true h178) rfl) (GX.take (v := .bool (decide (((List.length r146 : Nat) : Int) = 2))) (rs := []) 16 rfl (by kernel_rfl) (fun _ _ => Yl.move rfl) ?_))))
  by_cases h179 : ((List.length r146 : Nat) : Int) = 2
  refine GX.takeG (v := .slice A129 (List.length r121) c130) (rs := []) 17 rfl rfl rfl (decide_eq_true h179) (by kernel_rfl) (fun _ _ => Yl.move rfl) (GX.takeG (v := .slice A154 (List.length r146) c155) (rs := []) 18 rfl rfl rfl (decide_eq_true h179) (by kernel_rfl) (fun _ _ => Yl.move rfl) ?_)
  obtain ⟨x180, hx181⟩ := at_of (ls := d156) (i := 1) (by first | omega | (simp; done) | (simp; omega))
  have hX182 := abs_at hd157 hx181
  refine GX.takeG (v := .pointer (some ⟨ab A154, ao A154 + 1 * 3, none⟩)) (rs := []) 19 rfl rfl rfl (decide_eq_true h179) (by kernel_rfl) (fun _ ⟨_, H9⟩ => Yl.indexAddr (El34) rfl rfl ((H9.rds (i := 1) rfl).addr (i := 1) (by omega)) (by omega)) (GX.takeG (v := .agg (ResultD.cells x180).toArray) (rs := []) 20 rfl rfl rfl (decide_eq_true h179) (by kernel_rfl) (fun _ ⟨_, H9⟩ => Yl.load rfl (Lds.agg (cs := (ResultD.cells x180)) Try.isAgg41 Try.sizeOf41 ((H9.rds (i := 1) rfl).elem ResultD.len hx181 (by decide)))) (GX.takeG (v := .slice A154 (List.length r146) c155) (rs := []) 21 rfl rfl rfl (decide_eq_true h179) (by kernel_rfl) (fun _ _ => Yl.move rfl) ?_))
  obtain ⟨x183, hx184⟩ := at_of (ls := d156) (i := 0) (by first | omega | (simp; done) | (simp; omega))
  have hX185 := abs_at hd157 hx184
  refine GX.takeG (v := .pointer (some ⟨ab A154, ao A154 + 0 * 3, none⟩)) (rs := []) 22 rfl rfl rfl (decide_eq_true h179) (by kernel_rfl) (fun _ ⟨_, H9⟩ => Yl.indexAddr (El34) rfl rfl ((H9.rds (i := 1) rfl).addr (i := 0) (by omega)) (by omega)) (GX.takeG (v := .agg (ResultD.cells x183).toArray) (rs := []) 23 rfl rfl rfl (decide_eq_true h179) (by kernel_rfl) (fun _ ⟨_, H9⟩ => Yl.load rfl (Lds.agg (cs := (ResultD.cells x183)) Try.isAgg41 Try.sizeOf41 ((H9.rds (i := 1) rfl).elem ResultD.len hx184 (by decide)))) ?_)
  refine GX.doG 24 rfl rfl rfl (decide_eq_true h179) (by kernel_rfl) (Do.newRow (cs := [.bool x180.xFound, .string ⟨List.toArray x180.xValue⟩, .slice x180.xPairs.A (List.length x180.xPairs.ls) x180.xPairs.c, .bool x183.xFound, .string ⟨List.toArray x183.xValue⟩, .slice x183.xPairs.A (List.length x183.xPairs.ls) x183.xPairs.c]) (t := 41) (sz := 3) (m := 2) H176 rfl rfl (fun _ => by kernel_rfl) rfl (by decide) ?_)
  intro A186 w187 H188
  replace H188 : Own w D w187 [row A186 2 2 (List.flatMap ResultD.cells ([(ResultD.mk x180.xFound x180.xValue (Sv.mk x180.xPairs.A x180.xPairs.c x180.xPairs.ls)), (ResultD.mk x183.xFound x183.xValue (Sv.mk x183.xPairs.A x183.xPairs.c x183.xPairs.ls))])) 41 3, row A152 (List.length r145) c153 (List.flatMap PairD.cells r145) 45 2, row A154 (List.length r146) c155 (List.flatMap ResultD.cells d156) 41 3, sepL (List.flatMap ResultD.own d156), row A137 2 2 (List.flatMap OpD.cells ([p2, p1])) 24 6, row A127 (List.length r120) c128 (List.flatMap PairD.cells r120) 45 2, row A129 (List.length r121) c130 (List.flatMap ResultD.cells d131) 41 3, sepL (List.flatMap ResultD.own d131), row A112 2 2 (List.flatMap OpD.cells ([p1, p2])) 24 6, blk g82 (RangeD.cells r76) 27, blk g64 (RangeD.cells r58) 27, blk g48 (RangeD.cells r42) 27, blk g24 (OpD.cells p2) 24, blk g21 (OpD.cells p1) 24] := H188
  have H189 : Own w D w187 [row A152 (List.length r145) c153 (List.flatMap PairD.cells r145) 45 2, row A154 (List.length r146) c155 (List.flatMap ResultD.cells d156) 41 3, sepL (List.flatMap ResultD.own d156), row A137 2 2 (List.flatMap OpD.cells ([p2, p1])) 24 6, row A127 (List.length r120) c128 (List.flatMap PairD.cells r120) 45 2, row A129 (List.length r121) c130 (List.flatMap ResultD.cells d131) 41 3, sepL (List.flatMap ResultD.own d131), row A112 2 2 (List.flatMap OpD.cells ([p1, p2])) 24 6, blk g82 (RangeD.cells r76) 27, blk g64 (RangeD.cells r58) 27, blk g48 (RangeD.cells r42) 27, blk g24 (OpD.cells p2) 24, blk g21 (OpD.cells p1) 24, row A186 2 2 (List.flatMap ResultD.cells ([(ResultD.mk x180.xFound x180.xValue (Sv.mk x180.xPairs.A x180.xPairs.c x180.xPairs.ls)), (ResultD.mk x183.xFound x183.xValue (Sv.mk x183.xPairs.A x183.xPairs.c x183.xPairs.ls))])) 41 3] := H188.pick [1, 2, 3, 4, 5, 6, 7, 8, 9, 10, 11, 12, 13, 0] (by decide) rfl
  refine ⟨.inr ⟨_, H189⟩, ?_⟩
  obtain ⟨r195, hr196⟩ : ∃ q, r04_SameResults r121 ([(ResultT.mk x180.xFound x180.xValue (Ll.mk x180.xPairs.ls)), (ResultT.mk x183.xFound x183.xValue (Ll.mk x183.xPairs.ls))]) = q := ⟨_, rfl⟩
  obtain ⟨D190, HP191, ro192, bk193, rr194⟩ := Own.enter0 H189
  refine GX.doG 25 rfl rfl rfl (decide_eq_true h179) (by kernel_rfl) (Do.call Try.call12 rfl (r04_SameResults_ok _ _ A129 (List.length r121) c130 d131 r121 A186 2 2 ([(ResultD.mk x180.xFound x180.xValue (Sv.mk x180.xPairs.A x180.xPairs.c x180.xPairs.ls)), (ResultD.mk x183.xFound x183.xValue (Sv.mk x183.xPairs.A x183.xPairs.c x183.xPairs.ls))]) ([(ResultT.mk x180.xFound x180.xValue (Ll.mk x180.xPairs.ls)), (ResultT.mk x183.xFound x183.xValue (Ll.mk x183.xPairs.ls))]) r195 HP191 hd132 (rr194 _ 5 _ rfl row_rds) (fun x9 h9 => ⟨rr194 _ 6 _ rfl (sepL_mem (List.mem_flatMap.2 ⟨x9, h9, .head _⟩) row_rds), own_rd (φ := fun _ => _) H189 (i := 6) rfl (sepL_mem (List.mem_flatMap.2 ⟨x9, h9, .head _⟩) row_le)⟩) rfl (by omega) rfl (rr194 _ 13 _ rfl row_rds) (fun x9 h9 => (by rcases List.mem_cons.1 h9 with rfl | h9; exact ⟨(rr194 _ 2 _ rfl (sepL_mem (List.mem_flatMap.2 ⟨x180, List.mem_of_getElem? hx181, .head _⟩) row_rds)), (own_rd (φ := fun _ => _) H189 (i := 2) rfl (sepL_mem (List.mem_flatMap.2 ⟨x180, List.mem_of_getElem? hx181, .head _⟩) row_le))⟩; exact (by rcases List.mem_cons.1 h9 with rfl | h9; exact ⟨(rr194 _ 2 _ rfl (sepL_mem (List.mem_flatMap.2 ⟨x183, List.mem_of_getElem? hx184, .head _⟩) row_rds)), (own_rd (φ := fun _ => _) H189 (i := 2) rfl (sepL_mem (List.mem_flatMap.2 ⟨x183, List.mem_of_getElem? hx184, .head _⟩) row_le))⟩; exact (absurd h9 List.not_mem_nil)))) rfl (by simp) hr196) ?_)
  rintro _ w197 ⟨rfl, HQ198⟩
  have H199 : Own w D w197 [row A152 (List.length r145) c153 (List.flatMap PairD.cells r145) 45 2, row A154 (List.length r146) c155 (List.flatMap ResultD.cells d156) 41 3, sepL (List.flatMap ResultD.own d156), row A137 2 2 (List.flatMap OpD.cells ([p2, p1])) 24 6, row A127 (List.length r120) c128 (List.flatMap PairD.cells r120) 45 2, row A129 (List.length r121) c130 (List.flatMap ResultD.cells d131) 41 3, sepL (List.flatMap ResultD.own d131), row A112 2 2 (List.flatMap OpD.cells ([p1, p2])) 24 6, blk g82 (RangeD.cells r76) 27, blk g64 (RangeD.cells r58) 27, blk g48 (RangeD.cells r42) 27, blk g24 (OpD.cells p2) 24, blk g21 (OpD.cells p1) 24, row A186 2 2 (List.flatMap ResultD.cells ([(ResultD.mk x180.xFound x180.xValue (Sv.mk x180.xPairs.A x180.xPairs.c x180.xPairs.ls)), (ResultD.mk x183.xFound x183.xValue (Sv.mk x183.xPairs.A x183.xPairs.c x183.xPairs.ls))])) 41 3] := bk193 _ _ HQ198
  refine ⟨.inr ⟨_, H199⟩, ?_⟩
  refine GX.take (v := .bool r195) (rs := []) 26 rfl (by kernel_rfl) (fun _ _ => Yl.pickT rfl (decide_eq_true h179) rfl) (GX.take (v := .bool r195) (rs := []) 27 rfl (by kernel_rfl) (fun _ _ => Yl.assign rfl) (GX.done (by kernel_rfl) (Fin.then (Wp.ret (Fin.res (res1 rfl rfl) ?_)))))
  have H200 : Own w D w197 [] := H199.pick [] (by decide) rfl
  have e : w04_OpTurns l0 p1 p2 = r195 := Eq.trans (bnd_of hr33) (Eq.trans (bnd_of hr44) (Eq.trans (bnd_of hr60) (Eq.trans (if_pos h69) (Eq.trans (if_pos h70) (Eq.trans (bnd_of hr78) (Eq.trans (if_pos h87) (Eq.trans (bnd_of hr94) (Eq.trans (ifF h98) (Eq.trans (bnd_of hr106) (Eq.trans (ifF h110) (Eq.trans (bnd_of hr123) (Eq.trans (bnd_of hr148) (Eq.trans (if_pos h162) (Eq.trans (if_pos h163) (Eq.trans (if_pos h166) (Eq.trans (bnd_of hr173) (Eq.trans (if_pos h177) (Eq.trans (if_pos h178) (Eq.trans (if_pos h179) (Eq.trans (bnd_of (getD_of hX182)) (Eq.trans (bnd_of (getD_of hX185)) (bnd_of hr196))))))))))))))))))))))
  obtain rfl := e.symm.trans hr
  exact ⟨rfl, H200⟩
  refine GX.skipG (rs := []) 17 rfl rfl rfl (decide_eq_false h179) (by kernel_rfl) (GX.skipG (rs := []) 18 rfl rfl rfl (decide_eq_false h179) (by kernel_rfl) (GX.skipG (rs := []) 19 rfl rfl rfl (decide_eq_false h179) (by kernel_rfl) (GX.skipG (rs := []) 20 rfl rfl rfl (decide_eq_false h179) (by kernel_rfl) (GX.skipG (rs := []) 21 rfl rfl rfl (decide_eq_false h179) (by kernel_rfl) (GX.skipG (rs := []) 22 rfl rfl rfl (decide_eq_false h179) (by kernel_rfl) (GX.skipG (rs := []) 23 rfl rfl rfl (decide_eq_false h179) (by kernel_rfl) (GX.skipG (rs := []) 24 rfl rfl rfl (decide_eq_false h179) (by kernel_rfl) (GX.skipG (rs := []) 25 rfl rfl rfl (decide_eq_false h179) (by kernel_rfl) (GX.take (v := .bool false) (rs := []) 26 rfl (by kernel_rfl) (fun _ _ => Yl.pickF rfl (decide_eq_false h179) rfl) (GX.take (v := .bool false) (rs := []) 27 rfl (by kernel_rfl) (fun _ _ => Yl.assign rfl) (GX.done (by kernel_rfl) (Fin.then (Wp.ret (Fin.res (res1 rfl rfl) ?_))))))))))))))
  have H201 : Own w D w174 [] := H176.pick [] (by decide) rfl
  have e : w04_OpTurns l0 p1 p2 = false := Eq.trans (bnd_of hr33) (Eq.trans (bnd_of hr44) (Eq.trans (bnd_of hr60) (Eq.trans (if_pos h69) (Eq.trans (if_pos h70) (Eq.trans (bnd_of hr78) (Eq.trans (if_pos h87) (Eq.trans (bnd_of hr94) (Eq.trans (ifF h98) (Eq.trans (bnd_of hr106) (Eq.trans (ifF h110) (Eq.trans (bnd_of hr123) (Eq.trans (bnd_of hr148) (Eq.trans (if_pos h162) (Eq.trans (if_pos h163) (Eq.trans (if_pos h166) (Eq.trans (bnd_of hr173) (Eq.trans (if_pos h177) (Eq.trans (if_pos h178) (if_neg h179)))))))))))))))))))
  obtain rfl := e.symm.trans hr
  exact ⟨rfl, H201⟩
  refine GX.skipG (rs := []) 12 rfl rfl rfl (decide_eq_false h178) (by kernel_rfl) (GX.skipG (rs := []) 13 rfl rfl rfl (decide_eq_false h178) (by kernel_rfl) (GX.skipG (rs := []) 14 rfl rfl rfl (decide_eq_false h178) (by kernel_rfl) (GX.take (v := .bool false) (rs := []) 15 rfl (by kernel_rfl) (fun _ _ => Yl.pickF rfl (decide_eq_false h178) rfl) (GX.take (v := .bool false) (rs := []) 16 rfl (by kernel_rfl) (fun _ _ => Yl.move rfl) (GX.skipG (rs := []) 17 rfl rfl rfl rfl (by kernel_rfl) (GX.skipG (rs := []) 18 rfl rfl rfl rfl (by kernel_rfl) (GX.skipG (rs := []) 19 rfl rfl rfl rfl (by kernel_rfl) (GX.skipG (rs := []) 20 rfl rfl rfl rfl (by kernel_rfl) (GX.skipG (rs := []) 21 rfl rfl rfl rfl (by kernel_rfl) (GX.skipG (rs := []) 22 rfl rfl rfl rfl (by kernel_rfl) (GX.skipG (rs := []) 23 rfl rfl rfl rfl (by kernel_rfl) (GX.skipG (rs := []) 24 rfl rfl rfl rfl (by kernel_rfl) (GX.skipG (rs := []) 25 rfl rfl rfl rfl (by kernel_rfl) (GX.take (v := .bool false) (rs := []) 26 rfl (by kernel_rfl) (fun _ _ => Yl.pickF rfl rfl rfl) (GX.take (v := .bool false) (rs := []) 27 rfl (by kernel_rfl) (fun _ _ => Yl.assign rfl) (GX.done (by kernel_rfl) (Fin.then (Wp.ret (Fin.res (res1 rfl rfl) ?_)))))))))))))))))))
  have H202 : Own w D w174 [] := H176.pick [] (by decide) rfl
  have e : w04_OpTurns l0 p1 p2 = false := Eq.trans (bnd_of hr33) (Eq.trans (bnd_of hr44) (Eq.trans (bnd_of hr60) (Eq.trans (if_pos h69) (Eq.trans (if_pos h70) (Eq.trans (bnd_of hr78) (Eq.trans (if_pos h87) (Eq.trans (bnd_of hr94) (Eq.trans (ifF h98) (Eq.trans (bnd_of hr106) (Eq.trans (ifF h110) (Eq.trans (bnd_of hr123) (Eq.trans (bnd_of hr148) (Eq.trans (if_pos h162) (Eq.trans (if_pos h163) (Eq.trans (if_pos h166) (Eq.trans (bnd_of hr173) (Eq.trans (if_pos h177) (if_neg h178))))))))))))))))))
  obtain rfl := e.symm.trans hr
  exact ⟨rfl, H202⟩
  refine GX.skipG (rs := []) 7 rfl rfl rfl h177 (by kernel_rfl) (GX.skipG (rs := []) 8 rfl rfl rfl h177 (by kernel_rfl) (GX.skipG (rs := []) 9 rfl rfl rfl h177 (by kernel_rfl) (GX.take (v := .bool false) (rs := []) 10 rfl (by kernel_rfl) (fun _ _ => Yl.pickF rfl h177 rfl) (GX.take (v := .bool false) (rs := []) 11 rfl (by kernel_rfl) (fun _ _ => Yl.move rfl) (GX.skipG (rs := []) 12 rfl rfl rfl rfl (by kernel_rfl) (GX.skipG (rs := []) 13 rfl rfl rfl rfl (by kernel_rfl) (GX.skipG (rs := []) 14 rfl rfl rfl rfl (by kernel_rfl) (GX.take (v := .bool false) (rs := []) 15 rfl (by kernel_rfl) (fun _ _ => Yl.pickF rfl rfl rfl) (GX.take (v := .bool false) (rs := []) 16 rfl (by kernel_rfl) (fun _ _ => Yl.move rfl) (GX.skipG (rs := []) 17 rfl rfl rfl rfl (by kernel_rfl) (GX.skipG (rs := []) 18 rfl rfl rfl rfl (by kernel_rfl) (GX.skipG (rs := []) 19 rfl rfl rfl rfl (by kernel_rfl) (GX.skipG (rs := []) 20 rfl rfl rfl rfl (by kernel_rfl) (GX.skipG (rs := []) 21 rfl rfl rfl rfl (by kernel_rfl) (GX.skipG (rs := []) 22 rfl rfl rfl rfl (by kernel_rfl) (GX.skipG (rs := []) 23 rfl rfl rfl rfl (by kernel_rfl) (GX.skipG (rs := []) 24 rfl rfl rfl rfl (by kernel_rfl) (GX.skipG (rs := []) 25 rfl rfl rfl rfl (by kernel_rfl) (GX.take (v := .bool false) (rs := []) 26 rfl (by kernel_rfl) (fun _ _ => Yl.pickF rfl rfl rfl) (GX.take (v := .bool false) (rs := []) 27 rfl (by kernel_rfl) (fun _ _ => Yl.assign rfl) (GX.done (by kernel_rfl) (Fin.then (Wp.ret (Fin.res (res1 rfl rfl) ?_))))))))))))))))))))))))
  have H203 : Own w D w174 [] := H176.pick [] (by decide) rfl
  have e : w04_OpTurns l0 p1 p2 = false := Eq.trans (bnd_of hr33) (Eq.trans (bnd_of hr44) (Eq.trans (bnd_of hr60) (Eq.trans (if_pos h69) (Eq.trans (if_pos h70) (Eq.trans (bnd_of hr78) (Eq.trans (if_pos h87) (Eq.trans (bnd_of hr94) (Eq.trans (ifF h98) (Eq.trans (bnd_of hr106) (Eq.trans (ifF h110) (Eq.trans (bnd_of hr123) (Eq.trans (bnd_of hr148) (Eq.trans (if_pos h162) (Eq.trans (if_pos h163) (Eq.trans (if_pos h166) (Eq.trans (bnd_of hr173) (ifF h177)))))))))))))))))
  obtain rfl := e.symm.trans hr
  exact ⟨rfl, H203⟩
  refine GX.skipG (rs := []) 2 rfl rfl rfl h166 (by kernel_rfl) (GX.skipG (rs := []) 3 rfl rfl rfl h166 (by kernel_rfl) (GX.skipG (rs := []) 4 rfl rfl rfl h166 (by kernel_rfl) (GX.take (v := .bool false) (rs := []) 5 rfl (by kernel_rfl) (fun _ _ => Yl.pickF rfl h166 rfl) (GX.take (v := .bool false) (rs := []) 6 rfl (by kernel_rfl) (fun _ _ => Yl.move rfl) (GX.skipG (rs := []) 7 rfl rfl rfl rfl (by kernel_rfl) (GX.skipG (rs := []) 8 rfl rfl rfl rfl (by kernel_rfl) (GX.skipG (rs := []) 9 rfl rfl rfl rfl (by kernel_rfl) (GX.take (v := .bool false) (rs := []) 10 rfl (by kernel_rfl) (fun _ _ => Yl.pickF rfl rfl rfl) (GX.take (v := .bool false) (rs := []) 11 rfl (by kernel_rfl) (fun _ _ => Yl.move rfl) (GX.skipG (rs := []) 12 rfl rfl rfl rfl (by kernel_rfl) (GX.skipG (rs := []) 13 rfl rfl rfl rfl (by kernel_rfl) (GX.skipG (rs := []) 14 rfl rfl rfl rfl (by kernel_rfl) (GX.take (v := .bool false) (rs := []) 15 rfl (by kernel_rfl) (fun _ _ => Yl.pickF rfl rfl rfl) (GX.take (v := .bool false) (rs := []) 16 rfl (by kernel_rfl) (fun _ _ => Yl.move rfl) (GX.skipG (rs := []) 17 rfl rfl rfl rfl (by kernel_rfl) (GX.skipG (rs := []) 18 rfl rfl rfl rfl (by kernel_rfl) (GX.skipG (rs := []) 19 rfl rfl rfl rfl (by kernel_rfl) (GX.skipG (rs := []) 20 rfl rfl rfl rfl (by kernel_rfl) (GX.skipG (rs := []) 21 rfl rfl rfl rfl (by kernel_rfl) (GX.skipG (rs := []) 22 rfl rfl rfl rfl (by kernel_rfl) (GX.skipG (rs := []) 23 rfl rfl rfl rfl (by kernel_rfl) (GX.skipG (rs := []) 24 rfl rfl rfl rfl (by kernel_rfl) (GX.skipG (rs := []) 25 rfl rfl rfl rfl (by kernel_rfl) (GX.take (v := .bool false) (rs := []) 26 rfl (by kernel_rfl) (fun _ _ => Yl.pickF rfl rfl rfl) (GX.take (v := .bool false) (rs := []) 27 rfl (by kernel_rfl) (fun _ _ => Yl.assign rfl) (GX.done (by kernel_rfl) (Fin.then (Wp.ret (Fin.res (res1 rfl rfl) ?_)))))))))))))))))))))))))))))
  have H204 : Own w D w164 [] := H165.pick [] (by decide) rfl
  have e : w04_OpTurns l0 p1 p2 = false := Eq.trans (bnd_of hr33) (Eq.trans (bnd_of hr44) (Eq.trans (bnd_of hr60) (Eq.trans (if_pos h69) (Eq.trans (if_pos h70) (Eq.trans (bnd_of hr78) (Eq.trans (if_pos h87) (Eq.trans (bnd_of hr94) (Eq.trans (ifF h98) (Eq.trans (bnd_of hr106) (Eq.trans (ifF h110) (Eq.trans (bnd_of hr123) (Eq.trans (bnd_of hr148) (Eq.trans (if_pos h162) (Eq.trans (if_pos h163) (ifF h166)))))))))))))))
  obtain rfl := e.symm.trans hr
  exact ⟨rfl, H204⟩
  refine Wp.cond1 rfl (decide_eq_true h163) (Wp.seq (Wp.region (Mv rfl rfl (Mv rfl rfl ?_))))
  rcases Bool.eq_false_or_eq_true (r32) with h205 | h205
  refine WL.valG (v := .int .i64 r122) rfl rfl h205 rfl (Yl.move rfl) (WL.valG (v := .int .i64 r147) rfl rfl h205 rfl (Yl.move rfl) (WL.valG (v := .bool (decide (r122 = r147))) rfl rfl h205 rfl (Yl.kern rfl rfl (fun _ => by kernel_rfl)) (WL.val (v := .bool (decide (r122 = r147))) rfl (Yl.pickT rfl h205 rfl) (As rfl rfl (WL.nil (Fin.then (Wp.ret (Fin.thenR (Fin.res (res1 rfl rfl) ?_)))))))))
  have H206 : Own w D w149 [] := H151.pick [] (by decide) rfl
  have e : w04_OpTurns l0 p1 p2 = decide (r122 = r147) := Eq.trans (bnd_of hr33) (Eq.trans (bnd_of hr44) (Eq.trans (bnd_of hr60) (Eq.trans (if_pos h69) (Eq.trans (if_pos h70) (Eq.trans (bnd_of hr78) (Eq.trans (if_pos h87) (Eq.trans (bnd_of hr94) (Eq.trans (ifF h98) (Eq.trans (bnd_of hr106) (Eq.trans (ifF h110) (Eq.trans (bnd_of hr123) (Eq.trans (bnd_of hr148) (Eq.trans (if_pos h162) (Eq.trans (if_neg h163) (if_pos h205)))))))))))))))
  obtain rfl := e.symm.trans hr
  exact ⟨rfl, H206⟩
  refine Sk rfl rfl h205 rfl (Sk rfl rfl h205 rfl (Sk rfl rfl h205 rfl (WL.val (v := .bool false) rfl (Yl.pickF rfl h205 rfl) (As rfl rfl (WL.nil (Fin.then (Wp.ret (Fin.thenR (Fin.res (res1 rfl rfl) ?_)))))))))
  have H207 : Own w D w149 [] := H151.pick [] (by decide) rfl
  have e : w04_OpTurns l0 p1 p2 = false := Eq.trans (bnd_of hr33) (Eq.trans (bnd_of hr44) (Eq.trans (bnd_of hr60) (Eq.trans (if_pos h69) (Eq.trans (if_pos h70) (Eq.trans (bnd_of hr78) (Eq.trans (if_pos h87) (Eq.trans (bnd_of hr94) (Eq.trans (ifF h98) (Eq.trans (bnd_of hr106) (Eq.trans (ifF h110) (Eq.trans (bnd_of hr123) (Eq.trans (bnd_of hr148) (Eq.trans (if_pos h162) (Eq.trans (if_neg h163) (ifF h205)))))))))))))))
  obtain rfl := e.symm.trans hr
  exact ⟨rfl, H207⟩
  refine Sk rfl rfl (decide_eq_true h162) rfl (Sk rfl rfl (decide_eq_true h162) rfl (WL.val (v := .bool true) rfl (Yl.pickT rfl (decide_eq_true h162) rfl) (WL.nil (Fin.then (Wp.cond1 rfl rfl (Wp.seq (Wp.region (Mv rfl rfl (Mv rfl rfl ?_)))))))))
  rcases Bool.eq_false_or_eq_true (r32) with h208 | h208
  refine WL.valG (v := .int .i64 r122) rfl rfl h208 rfl (Yl.move rfl) (WL.valG (v := .int .i64 r147) rfl rfl h208 rfl (Yl.move rfl) (WL.valG (v := .bool (decide (r122 = r147))) rfl rfl h208 rfl (Yl.kern rfl rfl (fun _ => by kernel_rfl)) (WL.val (v := .bool (decide (r122 = r147))) rfl (Yl.pickT rfl h208 rfl) (As rfl rfl (WL.nil (Fin.then (Wp.ret (Fin.thenR (Fin.res (res1 rfl rfl) ?_)))))))))
  have H209 : Own w D w149 [] := H151.pick [] (by decide) rfl
  have e : w04_OpTurns l0 p1 p2 = decide (r122 = r147) := Eq.trans (bnd_of hr33) (Eq.trans (bnd_of hr44) (Eq.trans (bnd_of hr60) (Eq.trans (if_pos h69) (Eq.trans (if_pos h70) (Eq.trans (bnd_of hr78) (Eq.trans (if_pos h87) (Eq.trans (bnd_of hr94) (Eq.trans (ifF h98) (Eq.trans (bnd_of hr106) (Eq.trans (ifF h110) (Eq.trans (bnd_of hr123) (Eq.trans (bnd_of hr148) (Eq.trans (if_neg h162) (if_pos h208))))))))))))))
  obtain rfl := e.symm.trans hr
  exact ⟨rfl, H209⟩
  refine Sk rfl rfl h208 rfl (Sk rfl rfl h208 rfl (Sk rfl rfl h208 rfl (WL.val (v := .bool false) rfl (Yl.pickF rfl h208 rfl) (As rfl rfl (WL.nil (Fin.then (Wp.ret (Fin.thenR (Fin.res (res1 rfl rfl) ?_)))))))))
  have H210 : Own w D w149 [] := H151.pick [] (by decide) rfl
  have e : w04_OpTurns l0 p1 p2 = false := Eq.trans (bnd_of hr33) (Eq.trans (bnd_of hr44) (Eq.trans (bnd_of hr60) (Eq.trans (if_pos h69) (Eq.trans (if_pos h70) (Eq.trans (bnd_of hr78) (Eq.trans (if_pos h87) (Eq.trans (bnd_of hr94) (Eq.trans (ifF h98) (Eq.trans (bnd_of hr106) (Eq.trans (ifF h110) (Eq.trans (bnd_of hr123) (Eq.trans (bnd_of hr148) (Eq.trans (if_neg h162) (ifF h208))))))))))))))
  obtain rfl := e.symm.trans hr
  exact ⟨rfl, H210⟩
  refine Sk rfl rfl h87 rfl (Sk rfl rfl h87 rfl (Sk rfl rfl h87 rfl (WL.skipU rfl rfl rfl (WL.skipU rfl rfl rfl (Sk rfl rfl h87 rfl (WL.val (v := .bool false) rfl (Yl.pickF rfl h87 rfl) (WL.nil (Fin.then (Wp.cond0 rfl rfl (Wp.skip (Fin.then (Wp.seq (Wp.region (Mv rfl rfl (WL.val (v := .agg (OpD.cells p1).toArray) rfl (Yl.load rfl (Lds.agg (cs := (OpD.cells p1)) Try.isAgg24 Try.sizeOf24 ((H86.cls (i := 4) rfl).lit (k := 0) (m := 6) rfl))) (WL.val (v := .agg (OpD.cells p2).toArray) rfl (Yl.load rfl (Lds.agg (cs := (OpD.cells p2)) Try.isAgg24 Try.sizeOf24 ((H86.cls (i := 3) rfl).lit (k := 0) (m := 6) rfl))) ?_))))))))))))))))
  refine WL.do rfl (Do.newRow (cs := [.int .i64 p1.xKind, .string ⟨List.toArray p1.xKey⟩, .string ⟨List.toArray p1.xValue⟩, .string ⟨List.toArray p1.xLo⟩, .string ⟨List.toArray p1.xHi⟩, .int .i64 p1.xMost, .int .i64 p2.xKind, .string ⟨List.toArray p2.xKey⟩, .string ⟨List.toArray p2.xValue⟩, .string ⟨List.toArray p2.xLo⟩, .string ⟨List.toArray p2.xHi⟩, .int .i64 p2.xMost]) (t := 24) (sz := 6) (m := 2) H86 rfl rfl (fun _ => by kernel_rfl) rfl (by decide) ?_)
  intro A211 w212 H213
  replace H213 : Own w D w212 [row A211 2 2 (List.flatMap OpD.cells ([p1, p2])) 24 6, blk g82 (RangeD.cells r76) 27, blk g64 (RangeD.cells r58) 27, blk g48 (RangeD.cells r42) 27, blk g24 (OpD.cells p2) 24, blk g21 (OpD.cells p1) 24] := H213
  obtain ⟨⟨r219, r220, r221⟩, hr222⟩ : ∃ q : (List PairD) × (List ResultT) × Int, op_Apply l0 ([p1, p2]) = q := ⟨_, rfl⟩
  obtain ⟨D214, HP215, ro216, bk217, rr218⟩ := Own.enter0 H213
  refine WL.do rfl (Do.call Try.call10 rfl (op_Apply_ok _ _ A0 (List.length l0) c0 l0 A211 2 2 ([p1, p2]) r219 r220 r221 HP215 (ro216 _ hx0) rfl (by omega) (rr218 _ 0 _ rfl row_rds) rfl (by simp) (by first | omega | (simp only [List.length_cons, List.length_nil]; done) | (simp only [List.length_cons, List.length_nil, List.length_take, List.length_drop]; omega)) hr222) ?_)
  rintro _ w223 ⟨A226, c227, A228, c229, d230, rfl, HQ224, hd231, hk232⟩
  have H225 : Own w D w223 [row A226 (List.length r219) c227 (List.flatMap PairD.cells r219) 45 2, row A228 (List.length r220) c229 (List.flatMap ResultD.cells d230) 41 3, sepL (List.flatMap ResultD.own d230), row A211 2 2 (List.flatMap OpD.cells ([p1, p2])) 24 6, blk g82 (RangeD.cells r76) 27, blk g64 (RangeD.cells r58) 27, blk g48 (RangeD.cells r42) 27, blk g24 (OpD.cells p2) 24, blk g21 (OpD.cells p1) 24] := bk217 _ _ HQ224
  have hl233 := abs_len hd231
  have hb234 := H225.rowC (i := 0) rfl
  have hb235 := H225.rowC (i := 1) rfl
  replace hk232 : List.length r219 ≤ List.length l0 + 2 := hk232
  refine Mv rfl rfl (Kn (v := .slice A226 (List.length r219) c227) rfl rfl rfl (fun _ => by kernel_rfl) (Kn (v := .slice A228 (List.length r220) c229) rfl rfl rfl (fun _ => by kernel_rfl) (Kn (v := .int .i64 r221) rfl rfl rfl (fun _ => by kernel_rfl) (As rfl rfl (As rfl rfl (As rfl rfl (WL.nil (Fin.then (Wp.seq (Wp.region (Mv rfl rfl (WL.val (v := .agg (OpD.cells p2).toArray) rfl (Yl.load rfl (Lds.agg (cs := (OpD.cells p2)) Try.isAgg24 Try.sizeOf24 ((H225.cls (i := 7) rfl).lit (k := 0) (m := 6) rfl))) (WL.val (v := .agg (OpD.cells p1).toArray) rfl (Yl.load rfl (Lds.agg (cs := (OpD.cells p1)) Try.isAgg24 Try.sizeOf24 ((H225.cls (i := 8) rfl).lit (k := 0) (m := 6) rfl))) ?_)))))))))))))
  refine WL.do rfl (Do.newRow (cs := [.int .i64 p2.xKind, .string ⟨List.toArray p2.xKey⟩, .string ⟨List.toArray p2.xValue⟩, .string ⟨List.toArray p2.xLo⟩, .string ⟨List.toArray p2.xHi⟩, .int .i64 p2.xMost, .int .i64 p1.xKind, .string ⟨List.toArray p1.xKey⟩, .string ⟨List.toArray p1.xValue⟩, .string ⟨List.toArray p1.xLo⟩, .string ⟨List.toArray p1.xHi⟩, .int .i64 p1.xMost]) (t := 24) (sz := 6) (m := 2) H225 rfl rfl (fun _ => by kernel_rfl) rfl (by decide) ?_)
  intro A236 w237 H238
  replace H238 : Own w D w237 [row A236 2 2 (List.flatMap OpD.cells ([p2, p1])) 24 6, row A226 (List.length r219) c227 (List.flatMap PairD.cells r219) 45 2, row A228 (List.length r220) c229 (List.flatMap ResultD.cells d230) 41 3, sepL (List.flatMap ResultD.own d230), row A211 2 2 (List.flatMap OpD.cells ([p1, p2])) 24 6, blk g82 (RangeD.cells r76) 27, blk g64 (RangeD.cells r58) 27, blk g48 (RangeD.cells r42) 27, blk g24 (OpD.cells p2) 24, blk g21 (OpD.cells p1) 24] := H238
  obtain ⟨⟨r244, r245, r246⟩, hr247⟩ : ∃ q : (List PairD) × (List ResultT) × Int, op_Apply l0 ([p2, p1]) = q := ⟨_, rfl⟩
  obtain ⟨D239, HP240, ro241, bk242, rr243⟩ := Own.enter0 H238
  refine WL.do rfl (Do.call Try.call10 rfl (op_Apply_ok _ _ A0 (List.length l0) c0 l0 A236 2 2 ([p2, p1]) r244 r245 r246 HP240 (ro241 _ hx0) rfl (by omega) (rr243 _ 0 _ rfl row_rds) rfl (by simp) (by first | omega | (simp only [List.length_cons, List.length_nil]; done) | (simp only [List.length_cons, List.length_nil, List.length_take, List.length_drop]; omega)) hr247) ?_)
  rintro _ w248 ⟨A251, c252, A253, c254, d255, rfl, HQ249, hd256, hk257⟩
  have H250 : Own w D w248 [row A251 (List.length r244) c252 (List.flatMap PairD.cells r244) 45 2, row A253 (List.length r245) c254 (List.flatMap ResultD.cells d255) 41 3, sepL (List.flatMap ResultD.own d255), row A236 2 2 (List.flatMap OpD.cells ([p2, p1])) 24 6, row A226 (List.length r219) c227 (List.flatMap PairD.cells r219) 45 2, row A228 (List.length r220) c229 (List.flatMap ResultD.cells d230) 41 3, sepL (List.flatMap ResultD.own d230), row A211 2 2 (List.flatMap OpD.cells ([p1, p2])) 24 6, blk g82 (RangeD.cells r76) 27, blk g64 (RangeD.cells r58) 27, blk g48 (RangeD.cells r42) 27, blk g24 (OpD.cells p2) 24, blk g21 (OpD.cells p1) 24] := bk242 _ _ HQ249
  have hl258 := abs_len hd256
  have hb259 := H250.rowC (i := 0) rfl
  have hb260 := H250.rowC (i := 1) rfl
  replace hk257 : List.length r244 ≤ List.length l0 + 2 := hk257
  refine Mv rfl rfl (Kn (v := .slice A251 (List.length r244) c252) rfl rfl rfl (fun _ => by kernel_rfl) (Kn (v := .slice A253 (List.length r245) c254) rfl rfl rfl (fun _ => by kernel_rfl) (Kn (v := .int .i64 r246) rfl rfl rfl (fun _ => by kernel_rfl) (As rfl rfl (As rfl rfl (As rfl rfl (WL.nil (Fin.then (Wp.seq (Wp.seq (Wp.region (Mv rfl rfl (WL.val (v := .bool (decide (¬ (r221 = 0)))) rfl (Yl.bool (e := !(decide (r221 = 0))) (Yl.kern rfl rfl (fun _ => by kernel_rfl)) decide_not.symm) (Mv rfl rfl ?_))))))))))))))
  by_cases h261 : r221 = 0
  refine WL.valG (v := .int .i64 r246) rfl rfl (decide_eq_false (not_not_intro h261)) rfl (Yl.move rfl) (WL.valG (v := .bool (decide (¬ (r246 = 0)))) rfl rfl (decide_eq_false (not_not_intro h261)) rfl (Yl.bool (e := !(decide (r246 = 0))) (Yl.kern rfl rfl (fun _ => by kernel_rfl)) decide_not.symm) (WL.val (v := .bool (decide (¬ (r246 = 0)))) rfl (Yl.pickF rfl (decide_eq_false (not_not_intro h261)) rfl) (WL.nil (Fin.then ?_))))
  by_cases h262 : r246 = 0
  refine Wp.cond0 rfl (decide_eq_false (not_not_intro h262)) (Wp.skip (Fin.then (Wp.seq ?_)))
  have H264 := H250.drew
  refine Wp.drawnX [] (fun W => ∃ L', Own w D W ([row A251 (List.length r244) c252 (List.flatMap PairD.cells r244) 45 2, row A253 (List.length r245) c254 (List.flatMap ResultD.cells d255) 41 3, sepL (List.flatMap ResultD.own d255), row A236 2 2 (List.flatMap OpD.cells ([p2, p1])) 24 6, row A226 (List.length r219) c227 (List.flatMap PairD.cells r219) 45 2, row A228 (List.length r220) c229 (List.flatMap ResultD.cells d230) 41 3, sepL (List.flatMap ResultD.own d230), row A211 2 2 (List.flatMap OpD.cells ([p1, p2])) 24 6, blk g82 (RangeD.cells r76) 27, blk g64 (RangeD.cells r58) 27, blk g48 (RangeD.cells r42) 27, blk g24 (OpD.cells p2) 24, blk g21 (OpD.cells p1) 24] ++ L')) (by kernel_rfl) (by kernel_rfl) (NoP.then NoP.base) ⟨_, H264⟩ ?_
  revert H264
  generalize World.drew w248 = w263
  intro H264
  replace H264 : Own w D w263 [row A251 (List.length r244) c252 (List.flatMap PairD.cells r244) 45 2, row A253 (List.length r245) c254 (List.flatMap ResultD.cells d255) 41 3, sepL (List.flatMap ResultD.own d255), row A236 2 2 (List.flatMap OpD.cells ([p2, p1])) 24 6, row A226 (List.length r219) c227 (List.flatMap PairD.cells r219) 45 2, row A228 (List.length r220) c229 (List.flatMap ResultD.cells d230) 41 3, sepL (List.flatMap ResultD.own d230), row A211 2 2 (List.flatMap OpD.cells ([p1, p2])) 24 6, blk g82 (RangeD.cells r76) 27, blk g64 (RangeD.cells r58) 27, blk g48 (RangeD.cells r42) 27, blk g24 (OpD.cells p2) 24, blk g21 (OpD.cells p1) 24] := H264
  refine GX.take (v := .bool r32) (rs := []) 0 rfl (by kernel_rfl) (fun _ _ => Yl.move rfl) (GX.take (v := .bool r32) (rs := []) 1 rfl (by kernel_rfl) (fun _ _ => Yl.move rfl) ?_)
  rcases Bool.eq_false_or_eq_true (r32) with h265 | h265
  refine GX.takeG (v := .slice A226 (List.length r219) c227) (rs := []) 2 rfl rfl rfl h265 (by kernel_rfl) (fun _ _ => Yl.move rfl) (GX.takeG (v := .slice A251 (List.length r244) c252) (rs := []) 3 rfl rfl rfl h265 (by kernel_rfl) (fun _ _ => Yl.move rfl) ?_)
  obtain ⟨r271, hr272⟩ : ∃ q, r04_SameMap r219 r244 = q := ⟨_, rfl⟩
  obtain ⟨D266, HP267, ro268, bk269, rr270⟩ := Own.enter0 H264
  refine GX.doG 4 rfl rfl rfl h265 (by kernel_rfl) (Do.call Try.call11 rfl (r04_SameMap_ok _ _ A226 (List.length r219) c227 r219 A251 (List.length r244) c252 r244 r271 HP267 (rr270 _ 4 _ rfl row_rds) rfl (by omega) (rr270 _ 0 _ rfl row_rds) rfl (by omega) hr272) ?_)
  rintro _ w273 ⟨rfl, HQ274⟩
  have H275 : Own w D w273 [row A251 (List.length r244) c252 (List.flatMap PairD.cells r244) 45 2, row A253 (List.length r245) c254 (List.flatMap ResultD.cells d255) 41 3, sepL (List.flatMap ResultD.own d255), row A236 2 2 (List.flatMap OpD.cells ([p2, p1])) 24 6, row A226 (List.length r219) c227 (List.flatMap PairD.cells r219) 45 2, row A228 (List.length r220) c229 (List.flatMap ResultD.cells d230) 41 3, sepL (List.flatMap ResultD.own d230), row A211 2 2 (List.flatMap OpD.cells ([p1, p2])) 24 6, blk g82 (RangeD.cells r76) 27, blk g64 (RangeD.cells r58) 27, blk g48 (RangeD.cells r42) 27, blk g24 (OpD.cells p2) 24, blk g21 (OpD.cells p1) 24] := bk269 _ _ HQ274
  refine ⟨.inr ⟨_, H275⟩, ?_⟩
  refine GX.take (v := .bool r271) (rs := []) 5 rfl (by kernel_rfl) (fun _ _ => Yl.pickT rfl h265 rfl) (GX.take (v := .bool r271) (rs := []) 6 rfl (by kernel_rfl) (fun _ _ => Yl.move rfl) ?_)
  rcases Bool.eq_false_or_eq_true (r271) with h276 | h276
  refine GX.takeG (v := .slice A228 (List.length r220) c229) (rs := []) 7 rfl rfl rfl h276 (by kernel_rfl) (fun _ _ => Yl.move rfl) (GX.takeG (v := .int .i64 ((List.length r220 : Nat) : Int)) (rs := []) 8 rfl rfl rfl h276 (by kernel_rfl) (fun _ _ => Yl.kern rfl rfl (fun _ => by kernel_rfl)) (GX.takeG (v := .bool (decide (((List.length r220 : Nat) : Int) = 2))) (rs := []) 9 rfl rfl rfl h276 (by kernel_rfl) (fun _ _ => Yl.kern rfl rfl (fun _ => by kernel_rfl)) (GX.take (v := .bool (decide (((List.length r220 : Nat) : Int) = 2))) (rs := []) 10 rfl (by kernel_rfl) (fun _ _ => Yl.pickT rfl h276 rfl) (GX.take (v := .bool (decide (((List.length r220 : Nat) : Int) = 2))) (rs := []) 11 rfl (by kernel_rfl) (fun _ _ => Yl.move rfl) ?_))))
  by_cases h277 : ((List.length r220 : Nat) : Int) = 2
  refine GX.takeG (v := .slice A253 (List.length r245) c254) (rs := []) 12 rfl rfl rfl (decide_eq_true h277) (by kernel_rfl) (fun _ _ => Yl.move rfl) (GX.takeG (v := .int .i64 ((List.length r245 : Nat) : Int)) (rs := []) 13 rfl rfl rfl (decide_eq_true h277) (by kernel_rfl) (fun _ _ => Yl.kern rfl rfl (fun _ => by kernel_rfl)) (GX.takeG (v := .bool (decide (((List.length r245 : Nat) : Int) = 2))) (rs := []) 14 rfl rfl rfl (decide_eq_true h277) (by kernel_rfl) (fun _ _ => Yl.kern rfl rfl (fun _ => by kernel_rfl)) (GX.take (v := .bool (decide (((List.length r245 : Nat) : Int) = 2))) (rs := []) 15 rfl (by kernel_rfl) (fun _ _ => Yl.pickT rfl (decide_eq_true h277) rfl) (GX.take (v := .bool (decide (((List.length r245 : Nat) : Int) = 2))) (rs := []) 16 rfl (by kernel_rfl) (fun _ _ => Yl.move rfl) ?_))))
  by_cases h278 : ((List.length r245 : Nat) : Int) = 2
  refine GX.takeG (v := .slice A228 (List.length r220) c229) (rs := []) 17 rfl rfl rfl (decide_eq_true h278) (by kernel_rfl) (fun _ _ => Yl.move rfl) (GX.takeG (v := .slice A253 (List.length r245) c254) (rs := []) 18 rfl rfl rfl (decide_eq_true h278) (by kernel_rfl) (fun _ _ => Yl.move rfl) ?_)
  obtain ⟨x279, hx280⟩ := at_of (ls := d255) (i := 1) (by first | omega | (simp; done) | (simp; omega))
  have hX281 := abs_at hd256 hx280
  refine GX.takeG (v := .pointer (some ⟨ab A253, ao A253 + 1 * 3, none⟩)) (rs := []) 19 rfl rfl rfl (decide_eq_true h278) (by kernel_rfl) (fun _ ⟨_, H9⟩ => Yl.indexAddr (El34) rfl rfl ((H9.rds (i := 1) rfl).addr (i := 1) (by omega)) (by omega)) (GX.takeG (v := .agg (ResultD.cells x279).toArray) (rs := []) 20 rfl rfl rfl (decide_eq_true h278) (by kernel_rfl) (fun _ ⟨_, H9⟩ => Yl.load rfl (Lds.agg (cs := (ResultD.cells x279)) Try.isAgg41 Try.sizeOf41 ((H9.rds (i := 1) rfl).elem ResultD.len hx280 (by decide)))) (GX.takeG (v := .slice A253 (List.length r245) c254) (rs := []) 21 rfl rfl rfl (decide_eq_true h278) (by kernel_rfl) (fun _ _ => Yl.move rfl) ?_))
  obtain ⟨x282, hx283⟩ := at_of (ls := d255) (i := 0) (by first | omega | (simp; done) | (simp; omega))
  have hX284 := abs_at hd256 hx283
  refine GX.takeG (v := .pointer (some ⟨ab A253, ao A253 + 0 * 3, none⟩)) (rs := []) 22 rfl rfl rfl (decide_eq_true h278) (by kernel_rfl) (fun _ ⟨_, H9⟩ => Yl.indexAddr (El34) rfl rfl ((H9.rds (i := 1) rfl).addr (i := 0) (by omega)) (by omega)) (GX.takeG (v := .agg (ResultD.cells x282).toArray) (rs := []) 23 rfl rfl rfl (decide_eq_true h278) (by kernel_rfl) (fun _ ⟨_, H9⟩ => Yl.load rfl (Lds.agg (cs := (ResultD.cells x282)) Try.isAgg41 Try.sizeOf41 ((H9.rds (i := 1) rfl).elem ResultD.len hx283 (by decide)))) ?_)
  refine GX.doG 24 rfl rfl rfl (decide_eq_true h278) (by kernel_rfl) (Do.newRow (cs := [.bool x279.xFound, .string ⟨List.toArray x279.xValue⟩, .slice x279.xPairs.A (List.length x279.xPairs.ls) x279.xPairs.c, .bool x282.xFound, .string ⟨List.toArray x282.xValue⟩, .slice x282.xPairs.A (List.length x282.xPairs.ls) x282.xPairs.c]) (t := 41) (sz := 3) (m := 2) H275 rfl rfl (fun _ => by kernel_rfl) rfl (by decide) ?_)
  intro A285 w286 H287
  replace H287 : Own w D w286 [row A285 2 2 (List.flatMap ResultD.cells ([(ResultD.mk x279.xFound x279.xValue (Sv.mk x279.xPairs.A x279.xPairs.c x279.xPairs.ls)), (ResultD.mk x282.xFound x282.xValue (Sv.mk x282.xPairs.A x282.xPairs.c x282.xPairs.ls))])) 41 3, row A251 (List.length r244) c252 (List.flatMap PairD.cells r244) 45 2, row A253 (List.length r245) c254 (List.flatMap ResultD.cells d255) 41 3, sepL (List.flatMap ResultD.own d255), row A236 2 2 (List.flatMap OpD.cells ([p2, p1])) 24 6, row A226 (List.length r219) c227 (List.flatMap PairD.cells r219) 45 2, row A228 (List.length r220) c229 (List.flatMap ResultD.cells d230) 41 3, sepL (List.flatMap ResultD.own d230), row A211 2 2 (List.flatMap OpD.cells ([p1, p2])) 24 6, blk g82 (RangeD.cells r76) 27, blk g64 (RangeD.cells r58) 27, blk g48 (RangeD.cells r42) 27, blk g24 (OpD.cells p2) 24, blk g21 (OpD.cells p1) 24] := H287
  have H288 : Own w D w286 [row A251 (List.length r244) c252 (List.flatMap PairD.cells r244) 45 2, row A253 (List.length r245) c254 (List.flatMap ResultD.cells d255) 41 3, sepL (List.flatMap ResultD.own d255), row A236 2 2 (List.flatMap OpD.cells ([p2, p1])) 24 6, row A226 (List.length r219) c227 (List.flatMap PairD.cells r219) 45 2, row A228 (List.length r220) c229 (List.flatMap ResultD.cells d230) 41 3, sepL (List.flatMap ResultD.own d230), row A211 2 2 (List.flatMap OpD.cells ([p1, p2])) 24 6, blk g82 (RangeD.cells r76) 27, blk g64 (RangeD.cells r58) 27, blk g48 (RangeD.cells r42) 27, blk g24 (OpD.cells p2) 24, blk g21 (OpD.cells p1) 24, row A285 2 2 (List.flatMap ResultD.cells ([(ResultD.mk x279.xFound x279.xValue (Sv.mk x279.xPairs.A x279.xPairs.c x279.xPairs.ls)), (ResultD.mk x282.xFound x282.xValue (Sv.mk x282.xPairs.A x282.xPairs.c x282.xPairs.ls))])) 41 3] := H287.pick [1, 2, 3, 4, 5, 6, 7, 8, 9, 10, 11, 12, 13, 0] (by decide) rfl
  refine ⟨.inr ⟨_, H288⟩, ?_⟩
  obtain ⟨r294, hr295⟩ : ∃ q, r04_SameResults r220 ([(ResultT.mk x279.xFound x279.xValue (Ll.mk x279.xPairs.ls)), (ResultT.mk x282.xFound x282.xValue (Ll.mk x282.xPairs.ls))]) = q := ⟨_, rfl⟩
  obtain ⟨D289, HP290, ro291, bk292, rr293⟩ := Own.enter0 H288
  refine GX.doG 25 rfl rfl rfl (decide_eq_true h278) (by kernel_rfl) (Do.call Try.call12 rfl (r04_SameResults_ok _ _ A228 (List.length r220) c229 d230 r220 A285 2 2 ([(ResultD.mk x279.xFound x279.xValue (Sv.mk x279.xPairs.A x279.xPairs.c x279.xPairs.ls)), (ResultD.mk x282.xFound x282.xValue (Sv.mk x282.xPairs.A x282.xPairs.c x282.xPairs.ls))]) ([(ResultT.mk x279.xFound x279.xValue (Ll.mk x279.xPairs.ls)), (ResultT.mk x282.xFound x282.xValue (Ll.mk x282.xPairs.ls))]) r294 HP290 hd231 (rr293 _ 5 _ rfl row_rds) (fun x9 h9 => ⟨rr293 _ 6 _ rfl (sepL_mem (List.mem_flatMap.2 ⟨x9, h9, .head _⟩) row_rds), own_rd (φ := fun _ => _) H288 (i := 6) rfl (sepL_mem (List.mem_flatMap.2 ⟨x9, h9, .head _⟩) row_le)⟩) rfl (by omega) rfl (rr293 _ 13 _ rfl row_rds) (fun x9 h9 => (by rcases List.mem_cons.1 h9 with rfl | h9; exact ⟨(rr293 _ 2 _ rfl (sepL_mem (List.mem_flatMap.2 ⟨x279, List.mem_of_getElem? hx280, .head _⟩) row_rds)), (own_rd (φ := fun _ => _) H288 (i := 2) rfl (sepL_mem (List.mem_flatMap.2 ⟨x279, List.mem_of_getElem? hx280, .head _⟩) row_le))⟩; exact (by rcases List.mem_cons.1 h9 with rfl | h9; exact ⟨(rr293 _ 2 _ rfl (sepL_mem (List.mem_flatMap.2 ⟨x282, List.mem_of_getElem? hx283, .head _⟩) row_rds)), (own_rd (φ := fun _ => _) H288 (i := 2) rfl (sepL_mem (List.mem_flatMap.2 ⟨x282, List.mem_of_getElem? hx283, .head _⟩) row_le))⟩; exact (absurd h9 List.not_mem_nil)))) rfl (by simp) hr295) ?_)
  rintro _ w296 ⟨rfl, HQ297⟩
  have H298 : Own w D w296 [row A251 (List.length r244) c252 (List.flatMap PairD.cells r244) 45 2, row A253 (List.length r245) c254 (List.flatMap ResultD.cells d255) 41 3, sepL (List.flatMap ResultD.own d255), row A236 2 2 (List.flatMap OpD.cells ([p2, p1])) 24 6, row A226 (List.length r219) c227 (List.flatMap PairD.cells r219) 45 2, row A228 (List.length r220) c229 (List.flatMap ResultD.cells d230) 41 3, sepL (List.flatMap ResultD.own d230), row A211 2 2 (List.flatMap OpD.cells ([p1, p2])) 24 6, blk g82 (RangeD.cells r76) 27, blk g64 (RangeD.cells r58) 27, blk g48 (RangeD.cells r42) 27, blk g24 (OpD.cells p2) 24, blk g21 (OpD.cells p1) 24, row A285 2 2 (List.flatMap ResultD.cells ([(ResultD.mk x279.xFound x279.xValue (Sv.mk x279.xPairs.A x279.xPairs.c x279.xPairs.ls)), (ResultD.mk x282.xFound x282.xValue (Sv.mk x282.xPairs.A x282.xPairs.c x282.xPairs.ls))])) 41 3] := bk292 _ _ HQ297
  refine ⟨.inr ⟨_, H298⟩, ?_⟩
  refine GX.take (v := .bool r294) (rs := []) 26 rfl (by kernel_rfl) (fun _ _ => Yl.pickT rfl (decide_eq_true h278) rfl) (GX.take (v := .bool r294) (rs := []) 27 rfl (by kernel_rfl) (fun _ _ => Yl.assign rfl) (GX.done (by kernel_rfl) (Fin.then (Wp.ret (Fin.res (res1 rfl rfl) ?_)))))
  have H299 : Own w D w296 [] := H298.pick [] (by decide) rfl
  have e : w04_OpTurns l0 p1 p2 = r294 := Eq.trans (bnd_of hr33) (Eq.trans (bnd_of hr44) (Eq.trans (bnd_of hr60) (Eq.trans (if_pos h69) (Eq.trans (if_pos h70) (Eq.trans (bnd_of hr78) (Eq.trans (ifF h87) (Eq.trans (bnd_of hr222) (Eq.trans (bnd_of hr247) (Eq.trans (if_pos h261) (Eq.trans (if_pos h262) (Eq.trans (if_pos h265) (Eq.trans (bnd_of hr272) (Eq.trans (if_pos h276) (Eq.trans (if_pos h277) (Eq.trans (if_pos h278) (Eq.trans (bnd_of (getD_of hX281)) (Eq.trans (bnd_of (getD_of hX284)) (bnd_of hr295))))))))))))))))))
  obtain rfl := e.symm.trans hr
  exact ⟨rfl, H299⟩
  refine GX.skipG (rs := []) 17 rfl rfl rfl (decide_eq_false h278) (by kernel_rfl) (GX.skipG (rs := []) 18 rfl rfl rfl (decide_eq_false h278) (by kernel_rfl) (GX.skipG (rs := []) 19 rfl rfl rfl (decide_eq_false h278) (by kernel_rfl) (GX.skipG (rs := []) 20 rfl rfl rfl (decide_eq_false h278) (by kernel_rfl) (GX.skipG (rs := []) 21 rfl rfl rfl (decide_eq_false h278) (by kernel_rfl) (GX.skipG (rs := []) 22 rfl rfl rfl (decide_eq_false h278) (by kernel_rfl) (GX.skipG (rs := []) 23 rfl rfl rfl (decide_eq_false h278) (by kernel_rfl) (GX.skipG (rs := []) 24 rfl rfl rfl (decide_eq_false h278) (by kernel_rfl) (GX.skipG (rs := []) 25 rfl rfl rfl (decide_eq_false h278) (by kernel_rfl) (GX.take (v := .bool false) (rs := []) 26 rfl (by kernel_rfl) (fun _ _ => Yl.pickF rfl (decide_eq_false h278) rfl) (GX.take (v := .bool false) (rs := []) 27 rfl (by kernel_rfl) (fun _ _ => Yl.assign rfl) (GX.done (by kernel_rfl) (Fin.then (Wp.ret (Fin.res (res1 rfl rfl) ?_))))))))))))))
  have H300 : Own w D w273 [] := H275.pick [] (by decide) rfl
  have e : w04_OpTurns l0 p1 p2 = false := Eq.trans (bnd_of hr33) (Eq.trans (bnd_of hr44) (Eq.trans (bnd_of hr60) (Eq.trans (if_pos h69) (Eq.trans (if_pos h70) (Eq.trans (bnd_of hr78) (Eq.trans (ifF h87) (Eq.trans (bnd_of hr222) (Eq.trans (bnd_of hr247) (Eq.trans (if_pos h261) (Eq.trans (if_pos h262) (Eq.trans (if_pos h265) (Eq.trans (bnd_of hr272) (Eq.trans (if_pos h276) (Eq.trans (if_pos h277) (if_neg h278)))))))))))))))
  obtain rfl := e.symm.trans hr
  exact ⟨rfl, H300⟩
  refine GX.skipG (rs := []) 12 rfl rfl rfl (decide_eq_false h277) (by kernel_rfl) (GX.skipG (rs := []) 13 rfl rfl rfl (decide_eq_false h277) (by kernel_rfl) (GX.skipG (rs := []) 14 rfl rfl rfl (decide_eq_false h277) (by kernel_rfl) (GX.take (v := .bool false) (rs := []) 15 rfl (by kernel_rfl) (fun _ _ => Yl.pickF rfl (decide_eq_false h277) rfl) (GX.take (v := .bool false) (rs := []) 16 rfl (by kernel_rfl) (fun _ _ => Yl.move rfl) (GX.skipG (rs := []) 17 rfl rfl rfl rfl (by kernel_rfl) (GX.skipG (rs := []) 18 rfl rfl rfl rfl (by kernel_rfl) (GX.skipG (rs := []) 19 rfl rfl rfl rfl (by kernel_rfl) (GX.skipG (rs := []) 20 rfl rfl rfl rfl (by kernel_rfl) (GX.skipG (rs := []) 21 rfl rfl rfl rfl (by kernel_rfl) (GX.skipG (rs := []) 22 rfl rfl rfl rfl (by kernel_rfl) (GX.skipG (rs := []) 23 rfl rfl rfl rfl (by kernel_rfl) (GX.skipG (rs := []) 24 rfl rfl rfl rfl (by kernel_rfl) (GX.skipG (rs := []) 25 rfl rfl rfl rfl (by kernel_rfl) (GX.take (v := .bool false) (rs := []) 26 rfl (by kernel_rfl) (fun _ _ => Yl.pickF rfl rfl rfl) (GX.take (v := .bool false) (rs := []) 27 rfl (by kernel_rfl) (fun _ _ => Yl.assign rfl) (GX.done (by kernel_rfl) (Fin.then (Wp.ret (Fin.res (res1 rfl rfl) ?_)))))))))))))))))))
  have H301 : Own w D w273 [] := H275.pick [] (by decide) rfl
  have e : w04_OpTurns l0 p1 p2 = false := Eq.trans (bnd_of hr33) (Eq.trans (bnd_of hr44) (Eq.trans (bnd_of hr60) (Eq.trans (if_pos h69) (Eq.trans (if_pos h70) (Eq.trans (bnd_of hr78) (Eq.trans (ifF h87) (Eq.trans (bnd_of hr222) (Eq.trans (bnd_of hr247) (Eq.trans (if_pos h261) (Eq.trans (if_pos h262) (Eq.trans (if_pos h265) (Eq.trans (bnd_of hr272) (Eq.trans (if_pos h276) (if_neg h277))))))))))))))
  obtain rfl := e.symm.trans hr
  exact ⟨rfl, H301⟩
  refine GX.skipG (rs := []) 7 rfl rfl rfl h276 (by kernel_rfl) (GX.skipG (rs := []) 8 rfl rfl rfl h276 (by kernel_rfl) (GX.skipG (rs := []) 9 rfl rfl rfl h276 (by kernel_rfl) (GX.take (v := .bool false) (rs := []) 10 rfl (by kernel_rfl) (fun _ _ => Yl.pickF rfl h276 rfl) (GX.take (v := .bool false) (rs := []) 11 rfl (by kernel_rfl) (fun _ _ => Yl.move rfl) (GX.skipG (rs := []) 12 rfl rfl rfl rfl (by kernel_rfl) (GX.skipG (rs := []) 13 rfl rfl rfl rfl (by kernel_rfl) (GX.skipG (rs := []) 14 rfl rfl rfl rfl (by kernel_rfl) (GX.take (v := .bool false) (rs := []) 15 rfl (by kernel_rfl) (fun _ _ => Yl.pickF rfl rfl rfl) (GX.take (v := .bool false) (rs := []) 16 rfl (by kernel_rfl) (fun _ _ => Yl.move rfl) (GX.skipG (rs := []) 17 rfl rfl rfl rfl (by kernel_rfl) (GX.skipG (rs := []) 18 rfl rfl rfl rfl (by kernel_rfl) (GX.skipG (rs := []) 19 rfl rfl rfl rfl (by kernel_rfl) (GX.skipG (rs := []) 20 rfl rfl rfl rfl (by kernel_rfl) (GX.skipG (rs := []) 21 rfl rfl rfl rfl (by kernel_rfl) (GX.skipG (rs := []) 22 rfl rfl rfl rfl (by kernel_rfl) (GX.skipG (rs := []) 23 rfl rfl rfl rfl (by kernel_rfl) (GX.skipG (rs := []) 24 rfl rfl rfl rfl (by kernel_rfl) (GX.skipG (rs := []) 25 rfl rfl rfl rfl (by kernel_rfl) (GX.take (v := .bool false) (rs := []) 26 rfl (by kernel_rfl) (fun _ _ => Yl.pickF rfl rfl rfl) (GX.take (v := .bool false) (rs := []) 27 rfl (by kernel_rfl) (fun _ _ => Yl.assign rfl) (GX.done (by kernel_rfl) (Fin.then (Wp.ret (Fin.res (res1 rfl rfl) ?_))))))))))))))))))))))))
  have H302 : Own w D w273 [] := H275.pick [] (by decide) rfl
  have e : w04_OpTurns l0 p1 p2 = false := Eq.trans (bnd_of hr33) (Eq.trans (bnd_of hr44) (Eq.trans (bnd_of hr60) (Eq.trans (if_pos h69) (Eq.trans (if_pos h70) (Eq.trans (bnd_of hr78) (Eq.trans (ifF h87) (Eq.trans (bnd_of hr222) (Eq.trans (bnd_of hr247) (Eq.trans (if_pos h261) (Eq.trans (if_pos h262) (Eq.trans (if_pos h265) (Eq.trans (bnd_of hr272) (ifF h276)))))))))))))
  obtain rfl := e.symm.trans hr
  exact ⟨rfl, H302⟩
  refine GX.skipG (rs := []) 2 rfl rfl rfl h265 (by kernel_rfl) (GX.skipG (rs := []) 3 rfl rfl rfl h265 (by kernel_rfl) (GX.skipG (rs := []) 4 rfl rfl rfl h265 (by kernel_rfl) (GX.take (v := .bool false) (rs := []) 5 rfl (by kernel_rfl) (fun _ _ => Yl.pickF rfl h265 rfl) (GX.take (v := .bool false) (rs := []) 6 rfl (by kernel_rfl) (fun _ _ => Yl.move rfl) (GX.skipG (rs := []) 7 rfl rfl rfl rfl (by kernel_rfl) (GX.skipG (rs := []) 8 rfl rfl rfl rfl (by kernel_rfl) (GX.skipG (rs := []) 9 rfl rfl rfl rfl (by kernel_rfl) (GX.take (v := .bool false) (rs := []) 10 rfl (by kernel_rfl) (fun _ _ => Yl.pickF rfl rfl rfl) (GX.take (v := .bool false) (rs := []) 11 rfl (by kernel_rfl) (fun _ _ => Yl.move rfl) (GX.skipG (rs := []) 12 rfl rfl rfl rfl (by kernel_rfl) (GX.skipG (rs := []) 13 rfl rfl rfl rfl (by kernel_rfl) (GX.skipG (rs := []) 14 rfl rfl rfl rfl (by kernel_rfl) (GX.take (v := .bool false) (rs := []) 15 rfl (by kernel_rfl) (fun _ _ => Yl.pickF rfl rfl rfl) (GX.take (v := .bool false) (rs := []) 16 rfl (by kernel_rfl) (fun _ _ => Yl.move rfl) (GX.skipG (rs := []) 17 rfl rfl rfl rfl (by kernel_rfl) (GX.skipG (rs := []) 18 rfl rfl rfl rfl (by kernel_rfl) (GX.skipG (rs := []) 19 rfl rfl rfl rfl (by kernel_rfl) (GX.skipG (rs := []) 20 rfl rfl rfl rfl (by kernel_rfl) (GX.skipG (rs := []) 21 rfl rfl rfl rfl (by kernel_rfl) (GX.skipG (rs := []) 22 rfl rfl rfl rfl (by kernel_rfl) (GX.skipG (rs := []) 23 rfl rfl rfl rfl (by kernel_rfl) (GX.skipG (rs := []) 24 rfl rfl rfl rfl (by kernel_rfl) (GX.skipG (rs := []) 25 rfl rfl rfl rfl (by kernel_rfl) (GX.take (v := .bool false) (rs := []) 26 rfl (by kernel_rfl) (fun _ _ => Yl.pickF rfl rfl rfl) (GX.take (v := .bool false) (rs := []) 27 rfl (by kernel_rfl) (fun _ _ => Yl.assign rfl) (GX.done (by kernel_rfl) (Fin.then (Wp.ret (Fin.res (res1 rfl rfl) ?_)))))))))))))))))))))))))))))
  have H303 : Own w D w263 [] := H264.pick [] (by decide) rfl
  have e : w04_OpTurns l0 p1 p2 = false := Eq.trans (bnd_of hr33) (Eq.trans (bnd_of hr44) (Eq.trans (bnd_of hr60) (Eq.trans (if_pos h69) (Eq.trans (if_pos h70) (Eq.trans (bnd_of hr78) (Eq.trans (ifF h87) (Eq.trans (bnd_of hr222) (Eq.trans (bnd_of hr247) (Eq.trans (if_pos h261) (Eq.trans (if_pos h262) (ifF h265)))))))))))
  obtain rfl := e.symm.trans hr
  exact ⟨rfl, H303⟩
  refine Wp.cond1 rfl (decide_eq_true h262) (Wp.seq (Wp.region (Mv rfl rfl (Mv rfl rfl ?_))))
  rcases Bool.eq_false_or_eq_true (r32) with h304 | h304
  refine WL.valG (v := .int .i64 r221) rfl rfl h304 rfl (Yl.move rfl) (WL.valG (v := .int .i64 r246) rfl rfl h304 rfl (Yl.move rfl) (WL.valG (v := .bool (decide (r221 = r246))) rfl rfl h304 rfl (Yl.kern rfl rfl (fun _ => by kernel_rfl)) (WL.val (v := .bool (decide (r221 = r246))) rfl (Yl.pickT rfl h304 rfl) (As rfl rfl (WL.nil (Fin.then (Wp.ret (Fin.thenR (Fin.res (res1 rfl rfl) ?_)))))))))
  have H305 : Own w D w248 [] := H250.pick [] (by decide) rfl
  have e : w04_OpTurns l0 p1 p2 = decide (r221 = r246) := Eq.trans (bnd_of hr33) (Eq.trans (bnd_of hr44) (Eq.trans (bnd_of hr60) (Eq.trans (if_pos h69) (Eq.trans (if_pos h70) (Eq.trans (bnd_of hr78) (Eq.trans (ifF h87) (Eq.trans (bnd_of hr222) (Eq.trans (bnd_of hr247) (Eq.trans (if_pos h261) (Eq.trans (if_neg h262) (if_pos h304)))))))))))
  obtain rfl := e.symm.trans hr
  exact ⟨rfl, H305⟩
  refine Sk rfl rfl h304 rfl (Sk rfl rfl h304 rfl (Sk rfl rfl h304 rfl (WL.val (v := .bool false) rfl (Yl.pickF rfl h304 rfl) (As rfl rfl (WL.nil (Fin.then (Wp.ret (Fin.thenR (Fin.res (res1 rfl rfl) ?_)))))))))
  have H306 : Own w D w248 [] := H250.pick [] (by decide) rfl
  have e : w04_OpTurns l0 p1 p2 = false := Eq.trans (bnd_of hr33) (Eq.trans (bnd_of hr44) (Eq.trans (bnd_of hr60) (Eq.trans (if_pos h69) (Eq.trans (if_pos h70) (Eq.trans (bnd_of hr78) (Eq.trans (ifF h87) (Eq.trans (bnd_of hr222) (Eq.trans (bnd_of hr247) (Eq.trans (if_pos h261) (Eq.trans (if_neg h262) (ifF h304)))))))))))
  obtain rfl := e.symm.trans hr
  exact ⟨rfl, H306⟩
  refine Sk rfl rfl (decide_eq_true h261) rfl (Sk rfl rfl (decide_eq_true h261) rfl (WL.val (v := .bool true) rfl (Yl.pickT rfl (decide_eq_true h261) rfl) (WL.nil (Fin.then (Wp.cond1 rfl rfl (Wp.seq (Wp.region (Mv rfl rfl (Mv rfl rfl ?_)))))))))
  rcases Bool.eq_false_or_eq_true (r32) with h307 | h307
  refine WL.valG (v := .int .i64 r221) rfl rfl h307 rfl (Yl.move rfl) (WL.valG (v := .int .i64 r246) rfl rfl h307 rfl (Yl.move rfl) (WL.valG (v := .bool (decide (r221 = r246))) rfl rfl h307 rfl (Yl.kern rfl rfl (fun _ => by kernel_rfl)) (WL.val (v := .bool (decide (r221 = r246))) rfl (Yl.pickT rfl h307 rfl) (As rfl rfl (WL.nil (Fin.then (Wp.ret (Fin.thenR (Fin.res (res1 rfl rfl) ?_)))))))))
  have H308 : Own w D w248 [] := H250.pick [] (by decide) rfl
  have e : w04_OpTurns l0 p1 p2 = decide (r221 = r246) := Eq.trans (bnd_of hr33) (Eq.trans (bnd_of hr44) (Eq.trans (bnd_of hr60) (Eq.trans (if_pos h69) (Eq.trans (if_pos h70) (Eq.trans (bnd_of hr78) (Eq.trans (ifF h87) (Eq.trans (bnd_of hr222) (Eq.trans (bnd_of hr247) (Eq.trans (if_neg h261) (if_pos h307))))))))))
  obtain rfl := e.symm.trans hr
  exact ⟨rfl, H308⟩
  refine Sk rfl rfl h307 rfl (Sk rfl rfl h307 rfl (Sk rfl rfl h307 rfl (WL.val (v := .bool false) rfl (Yl.pickF rfl h307 rfl) (As rfl rfl (WL.nil (Fin.then (Wp.ret (Fin.thenR (Fin.res (res1 rfl rfl) ?_)))))))))
  have H309 : Own w D w248 [] := H250.pick [] (by decide) rfl
  have e : w04_OpTurns l0 p1 p2 = false := Eq.trans (bnd_of hr33) (Eq.trans (bnd_of hr44) (Eq.trans (bnd_of hr60) (Eq.trans (if_pos h69) (Eq.trans (if_pos h70) (Eq.trans (bnd_of hr78) (Eq.trans (ifF h87) (Eq.trans (bnd_of hr222) (Eq.trans (bnd_of hr247) (Eq.trans (if_neg h261) (ifF h307))))))))))
  obtain rfl := e.symm.trans hr
  exact ⟨rfl, H309⟩
  refine Wp.cond1 rfl (decide_eq_true h70) (Wp.seq (Wp.region (Mv rfl rfl (As rfl rfl (WL.nil (Fin.then (Wp.ret (Fin.thenR (Fin.res (res1 rfl rfl) ?_)))))))))
  have H310 : Own w D w67 [] := H68.pick [] (by decide) rfl
  have e : w04_OpTurns l0 p1 p2 = r32 := Eq.trans (bnd_of hr33) (Eq.trans (bnd_of hr44) (Eq.trans (bnd_of hr60) (Eq.trans (if_pos h69) (if_neg h70))))
  obtain rfl := e.symm.trans hr
  exact ⟨rfl, H310⟩
  refine Sk rfl rfl (decide_eq_true h69) rfl (Sk rfl rfl (decide_eq_true h69) rfl (WL.val (v := .bool true) rfl (Yl.pickT rfl (decide_eq_true h69) rfl) (WL.nil (Fin.then (Wp.cond1 rfl rfl (Wp.seq (Wp.region (Mv rfl rfl (As rfl rfl (WL.nil (Fin.then (Wp.ret (Fin.thenR (Fin.res (res1 rfl rfl) ?_))))))))))))))
  have H311 : Own w D w67 [] := H68.pick [] (by decide) rfl
  have e : w04_OpTurns l0 p1 p2 = r32 := Eq.trans (bnd_of hr33) (Eq.trans (bnd_of hr44) (Eq.trans (bnd_of hr60) (if_neg h69)))
  obtain rfl := e.symm.trans hr
  exact ⟨rfl, H311⟩
end Go.Proofs.Ytnakliogbipejaa
