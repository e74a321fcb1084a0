/-
  op: the law OpChecks
-/
import Derived.Test.YtcognlpfeoabgaaOw
namespace Go.Proofs.Ytcognlpfeoabgaa
open Go.RowKit
set_option linter.unusedVariables false
set_option linter.unusedSectionVars false

def w04_OpChecks_L0 (p0 : OpD) (l1 : List OpD) (l2 : List PairD) (r29 : Bool) (r85 : List LockD) : List LockD → Nat → Unit ⊕ Bool
  | [], k98 => Sum.inl ()
  | x107 :: q99, k98 => bnd (List.getD r85 k98 default) fun yx112 => if ((x107.xRange.xLo = yx112.xRange.xLo) ∧ (x107.xRange.xHi = yx112.xRange.xHi)) ∧ (x107.xWrite = yx112.xWrite) then w04_OpChecks_L0 p0 l1 l2 r29 r85 q99 (k98 + 1) else Sum.inr (false)

def w04_OpChecks (p0 : OpD) (l1 : List OpD) (l2 : List PairD) : Bool :=
  bnd (w04_live) fun yr29 => bnd (op_Span p0) fun yr39 => bnd (r04_Span p0) fun yr55 => bnd (op_Locks l1) fun yr71 => bnd (r04_Locks l1) fun yr85 => if (yr39.1.xLo = yr55.1.xLo) ∧ (yr39.1.xHi = yr55.1.xHi) then if yr39.2 = yr55.2 then if yr71.2 = yr85.2 then if ((List.length yr71.1 : Nat) : Int) = ((List.length yr85.1 : Nat) : Int) then lp (w04_OpChecks_L0 p0 l1 l2 yr29 yr85.1 yr71.1 0) fun _ => if yr29 = true then bnd (op_CheckOp p0) fun yr126 => bnd (r04_CheckOp p0) fun yr137 => if yr126 = yr137 then bnd (op_Check l1) fun yr149 => bnd (r04_Check l1) fun yr159 => if yr149 = yr159 then bnd (op_CheckMap l2) fun yr170 => bnd (r04_CheckMap l2) fun yr180 => if yr170 = yr180 then bnd (op_Writes p0) fun yr191 => bnd (r04_Writes p0) fun yr201 => decide (yr191 = yr201) else false else false else false else false else false else false else false else false

set_option maxRecDepth 100000 in
theorem w04_OpChecks_ok (w : World) (D : Nat → Prop) (p0 : OpD) (A1 : Option Addr) (n1 c1 : Nat) (l1 : List OpD) (A2 : Option Addr) (n2 c2 : Nat) (l2 : List PairD) (r0 : Bool) (H : Own w D w []) (hx1 : Ro w D fun w' => Rds w' 6 A1 n1 (List.flatMap OpD.cells l1)) (hn1 : n1 = List.length l1) (hl1 : List.length l1 * 80 ≤ 211106232532992) (hx2 : Ro w D fun w' => Rds w' 2 A2 n2 (List.flatMap PairD.cells l2)) (hn2 : n2 = List.length l2) (hl2 : List.length l2 * 32 ≤ 211106232532992) (hh0 : List.length l1 * 80 ≤ 140737488351232) (hh1 : List.length l2 * 32 ≤ 140737488351232) (hr : w04_OpChecks p0 l1 l2 = r0) :
    Calls Try.prog 3 #[.agg (OpD.cells p0).toArray, .slice A1 n1 c1, .slice A2 n2 c2] w (Ret fun v w' => v = .bool r0 ∧ Own w D w' []) := by
  subst hn1 hn2
  refine Calls.body (args := [.agg (OpD.cells p0).toArray, .slice A1 (List.length l1) c1, .slice A2 (List.length l2) c2]) Try.func3 rfl rfl rfl ?_
  show Wp _ _ _ [(0, .agg (OpD.cells p0).toArray), (1, .slice A1 (List.length l1) c1), (2, .slice A2 (List.length l2) c2)] _ _
  refine Wp.seq (Wp.region ?_)
  refine WL.do rfl (Do.newP (cs := (OpD.cells p0)) (t := 23) H rfl rfl (fun _ => by kernel_rfl) ?_)
  intro g21 w22 H23
  replace H23 : Own w D w22 [blk g21 (OpD.cells p0) 23] := H23
  refine As rfl rfl (WL.nil (Fin.then (Wp.seq (Wp.region ?_))))
  obtain ⟨r29, hr30⟩ : ∃ q, w04_live = q := ⟨_, rfl⟩
  obtain ⟨D24, HP25, ro26, bk27, rr28⟩ := Own.enter0 H23
  refine WL.do rfl (Do.call Try.call10 rfl (w04_live_ok _ _ r29 HP25 hr30) ?_)
  rintro _ w31 ⟨rfl, HQ32⟩
  have H33 : Own w D w31 [blk g21 (OpD.cells p0) 23] := bk27 _ _ HQ32
  refine As rfl rfl (WL.nil (Fin.then (Wp.seq (Wp.region (WL.val (v := .agg (OpD.cells p0).toArray) rfl (Yl.load rfl (Lds.agg (cs := (OpD.cells p0)) Try.isAgg23 Try.sizeOf23 ((H33.cls (i := 0) rfl).lit (k := 0) (m := 6) rfl))) ?_)))))
  obtain ⟨⟨r39, r40⟩, hr41⟩ : ∃ q : RangeD × Int, op_Span p0 = q := ⟨_, rfl⟩
  obtain ⟨D34, HP35, ro36, bk37, rr38⟩ := Own.enter0 H33
  refine WL.do rfl (Do.call Try.call11 rfl (op_Span_ok _ _ p0 r39 r40 HP35 hr41) ?_)
  rintro _ w42 ⟨rfl, HQ43⟩
  have H44 : Own w D w42 [blk g21 (OpD.cells p0) 23] := bk37 _ _ HQ43
  refine Mv rfl rfl (Kn (v := .agg (RangeD.cells r39).toArray) rfl rfl rfl (fun _ => by kernel_rfl) (Kn (v := .int .i64 r40) rfl rfl rfl (fun _ => by kernel_rfl) ?_))
  refine WL.do rfl (Do.newP (cs := [.string ⟨List.toArray ([])⟩, .string ⟨List.toArray ([])⟩]) (t := 28) H44 rfl rfl (fun _ => by kernel_rfl) ?_)
  intro g45 w46 H47
  replace H47 : Own w D w46 [blk g45 [.string ⟨List.toArray ([])⟩, .string ⟨List.toArray ([])⟩] 28, blk g21 (OpD.cells p0) 23] := H47
  refine WL.do0 (Do.store (vs := (RangeD.cells r39)) (o := 0) H47 rfl rfl Try.sizeOf28 rfl rfl rfl rfl ?_)
  intro w48 H49
  replace H49 : Own w D w48 [blk g45 (RangeD.cells r39) 28, blk g21 (OpD.cells p0) 23] := H49
  refine As rfl rfl (WL.nil (Fin.then (Wp.seq (Wp.region (WL.val (v := .agg (OpD.cells p0).toArray) rfl (Yl.load rfl (Lds.agg (cs := (OpD.cells p0)) Try.isAgg23 Try.sizeOf23 ((H49.cls (i := 1) rfl).lit (k := 0) (m := 6) rfl))) ?_)))))
  obtain ⟨⟨r55, r56⟩, hr57⟩ : ∃ q : RangeD × Int, r04_Span p0 = q := ⟨_, rfl⟩
  obtain ⟨D50, HP51, ro52, bk53, rr54⟩ := Own.enter0 H49
  refine WL.do rfl (Do.call Try.call12 rfl (r04_Span_ok _ _ p0 r55 r56 HP51 hr57) ?_)
  rintro _ w58 ⟨rfl, HQ59⟩
  have H60 : Own w D w58 [blk g45 (RangeD.cells r39) 28, blk g21 (OpD.cells p0) 23] := bk53 _ _ HQ59
  refine Mv rfl rfl (Kn (v := .agg (RangeD.cells r55).toArray) rfl rfl rfl (fun _ => by kernel_rfl) (Kn (v := .int .i64 r56) rfl rfl rfl (fun _ => by kernel_rfl) ?_))
  refine WL.do rfl (Do.newP (cs := [.string ⟨List.toArray ([])⟩, .string ⟨List.toArray ([])⟩]) (t := 28) H60 rfl rfl (fun _ => by kernel_rfl) ?_)
  intro g61 w62 H63
  replace H63 : Own w D w62 [blk g61 [.string ⟨List.toArray ([])⟩, .string ⟨List.toArray ([])⟩] 28, blk g45 (RangeD.cells r39) 28, blk g21 (OpD.cells p0) 23] := H63
  refine WL.do0 (Do.store (vs := (RangeD.cells r55)) (o := 0) H63 rfl rfl Try.sizeOf28 rfl rfl rfl rfl ?_)
  intro w64 H65
  replace H65 : Own w D w64 [blk g61 (RangeD.cells r55) 28, blk g45 (RangeD.cells r39) 28, blk g21 (OpD.cells p0) 23] := H65
  refine As rfl rfl (WL.nil (Fin.then (Wp.seq (Wp.region (Mv rfl rfl ?_)))))
  obtain ⟨⟨r71, r72⟩, hr73⟩ : ∃ q : (List LockD) × Int, op_Locks l1 = q := ⟨_, rfl⟩
  obtain ⟨D66, HP67, ro68, bk69, rr70⟩ := Own.enter0 H65
  refine WL.do rfl (Do.call Try.call13 rfl (op_Locks_ok _ _ A1 (List.length l1) c1 l1 r71 r72 HP67 (ro68 _ hx1) rfl (by omega) hr73) ?_)
  rintro _ w74 ⟨A77, c78, rfl, HQ75⟩
  have H76 : Own w D w74 [row A77 (List.length r71) c78 (List.flatMap LockD.cells r71) 36 3, blk g61 (RangeD.cells r55) 28, blk g45 (RangeD.cells r39) 28, blk g21 (OpD.cells p0) 23] := bk69 _ _ HQ75
  have hb79 := H76.rowC (i := 0) rfl
  refine Mv rfl rfl (Kn (v := .slice A77 (List.length r71) c78) rfl rfl rfl (fun _ => by kernel_rfl) (Kn (v := .int .i64 r72) rfl rfl rfl (fun _ => by kernel_rfl) (As rfl rfl (As rfl rfl (WL.nil (Fin.then (Wp.seq (Wp.region (Mv rfl rfl ?_)))))))))
  obtain ⟨⟨r85, r86⟩, hr87⟩ : ∃ q : (List LockD) × Int, r04_Locks l1 = q := ⟨_, rfl⟩
  obtain ⟨D80, HP81, ro82, bk83, rr84⟩ := Own.enter0 H76
  refine WL.do rfl (Do.call Try.call14 rfl (r04_Locks_ok _ _ A1 (List.length l1) c1 l1 r85 r86 HP81 (ro82 _ hx1) rfl (by omega) hr87) ?_)
  rintro _ w88 ⟨A91, c92, rfl, HQ89⟩
  have H90 : Own w D w88 [row A91 (List.length r85) c92 (List.flatMap LockD.cells r85) 36 3, row A77 (List.length r71) c78 (List.flatMap LockD.cells r71) 36 3, blk g61 (RangeD.cells r55) 28, blk g45 (RangeD.cells r39) 28, blk g21 (OpD.cells p0) 23] := bk83 _ _ HQ89
  have hb93 := H90.rowC (i := 0) rfl
  refine Mv rfl rfl (Kn (v := .slice A91 (List.length r85) c92) rfl rfl rfl (fun _ => by kernel_rfl) (Kn (v := .int .i64 r86) rfl rfl rfl (fun _ => by kernel_rfl) (As rfl rfl (As rfl rfl (WL.nil (Fin.then (Wp.seq (Wp.seq (Wp.region (WL.val (v := .agg (RangeD.cells r39).toArray) rfl (Yl.load rfl (Lds.agg (cs := (RangeD.cells r39)) Try.isAgg28 Try.sizeOf28 ((H90.cls (i := 3) rfl).lit (k := 0) (m := 2) rfl))) (WL.val (v := .agg (RangeD.cells r55).toArray) rfl (Yl.load rfl (Lds.agg (cs := (RangeD.cells r55)) Try.isAgg28 Try.sizeOf28 ((H90.cls (i := 2) rfl).lit (k := 0) (m := 2) rfl))) (WL.val (v := .bool (decide (¬ ((r39.xLo = r55.xLo) ∧ (r39.xHi = r55.xHi))))) rfl (Yl.bool (e := !(decide ((r39.xLo = r55.xLo) ∧ (r39.xHi = r55.xHi)))) (Yl.neAgg rfl rfl (by kernel_rfl) rfl (Eqv.struct Try.underlying28 (by kernel_rfl) (EqF.dec (EqF.cons (u := .string ⟨List.toArray r39.xLo⟩) (v := .string ⟨List.toArray r55.xLo⟩) (by decide) (fun _ => by kernel_rfl) (fun _ => by kernel_rfl) (Eqv.string Try.underlying9) (EqF.cons (u := .string ⟨List.toArray r39.xHi⟩) (v := .string ⟨List.toArray r55.xHi⟩) (by decide) (fun _ => by kernel_rfl) (fun _ => by kernel_rfl) (Eqv.string Try.underlying9) (EqF.nil.up (Nat.zero_le _)))) ((congrArg (decide (r39.xLo = r55.xLo) && ·) and_dec1).trans and_dec)))) decide_not.symm) (Mv rfl rfl ?_)))))))))))))
  by_cases h94 : (r39.xLo = r55.xLo) ∧ (r39.xHi = r55.xHi)
  refine WL.valG (v := .int .i64 r40) rfl rfl (decide_eq_false (not_not_intro h94)) rfl (Yl.move rfl) (WL.valG (v := .int .i64 r56) rfl rfl (decide_eq_false (not_not_intro h94)) rfl (Yl.move rfl) (WL.valG (v := .bool (decide (¬ (r40 = r56)))) rfl rfl (decide_eq_false (not_not_intro h94)) rfl (Yl.bool (e := !(decide (r40 = r56))) (Yl.kern rfl rfl (fun _ => by kernel_rfl)) decide_not.symm) (WL.val (v := .bool (decide (¬ (r40 = r56)))) rfl (Yl.pickF rfl (decide_eq_false (not_not_intro h94)) rfl) (Mv rfl rfl ?_))))
  by_cases h95 : r40 = r56
  refine WL.valG (v := .int .i64 r72) rfl rfl (decide_eq_false (not_not_intro h95)) rfl (Yl.move rfl) (WL.valG (v := .int .i64 r86) rfl rfl (decide_eq_false (not_not_intro h95)) rfl (Yl.move rfl) (WL.valG (v := .bool (decide (¬ (r72 = r86)))) rfl rfl (decide_eq_false (not_not_intro h95)) rfl (Yl.bool (e := !(decide (r72 = r86))) (Yl.kern rfl rfl (fun _ => by kernel_rfl)) decide_not.symm) (WL.val (v := .bool (decide (¬ (r72 = r86)))) rfl (Yl.pickF rfl (decide_eq_false (not_not_intro h95)) rfl) (Mv rfl rfl ?_))))
  by_cases h96 : r72 = r86
  refine WL.valG (v := .slice A77 (List.length r71) c78) rfl rfl (decide_eq_false (not_not_intro h96)) rfl (Yl.move rfl) (WL.valG (v := .int .i64 ((List.length r71 : Nat) : Int)) rfl rfl (decide_eq_false (not_not_intro h96)) rfl (Yl.kern rfl rfl (fun _ => by kernel_rfl)) (WL.valG (v := .slice A91 (List.length r85) c92) rfl rfl (decide_eq_false (not_not_intro h96)) rfl (Yl.move rfl) (WL.valG (v := .int .i64 ((List.length r85 : Nat) : Int)) rfl rfl (decide_eq_false (not_not_intro h96)) rfl (Yl.kern rfl rfl (fun _ => by kernel_rfl)) (WL.valG (v := .bool (decide (¬ (((List.length r71 : Nat) : Int) = ((List.length r85 : Nat) : Int))))) rfl rfl (decide_eq_false (not_not_intro h96)) rfl (Yl.bool (e := !(decide (((List.length r71 : Nat) : Int) = ((List.length r85 : Nat) : Int)))) (Yl.kern rfl rfl (fun _ => by kernel_rfl)) decide_not.symm) (WL.val (v := .bool (decide (¬ (((List.length r71 : Nat) : Int) = ((List.length r85 : Nat) : Int))))) rfl (Yl.pickF rfl (decide_eq_false (not_not_intro h96)) rfl) (WL.nil (Fin.then ?_)))))))
  by_cases h97 : ((List.length r71 : Nat) : Int) = ((List.length r85 : Nat) : Int)
  refine Wp.cond0 rfl (decide_eq_false (not_not_intro h97)) (Wp.skip (Fin.then (Wp.seq (Wp.seq (Wp.region (Mv rfl rfl (Kn (v := .int .i64 ((List.length r71 : Nat) : Int)) rfl rfl rfl (fun _ => by kernel_rfl) (Mv rfl rfl (WL.nil (Fin.then (Wp.block ?_)))))))))))
  have H100 : Own w D w88 [row A91 (List.length r85) c92 (List.flatMap LockD.cells r85) 36 3, row A77 (List.length r71) c78 (List.flatMap LockD.cells r71) 36 3, blk g61 (RangeD.cells r55) 28, blk g45 (RangeD.cells r39) 28, blk g21 (OpD.cells p0) 23] := H90.pick [0, 1, 2, 3, 4] (by decide) rfl
  refine Wp.loop (ι := Nat) (fun i => [(6, .bool false), (60, .int .i64 ((i : Nat) : Int)), (59, .int .i64 ((List.length r71 : Nat) : Int)), (14, .slice A91 (List.length r85) c92), (12, .slice A77 (List.length r71) c78), (7, .bool r29), (3, .pointer (some ⟨g21, 0, none⟩)), (1, .slice A1 (List.length l1) c1), (2, .slice A2 (List.length l2) c2)]) (fun (i : Nat) w' => Own w D w' [row A91 (List.length r85) c92 (List.flatMap LockD.cells r85) 36 3, row A77 (List.length r71) c78 (List.flatMap LockD.cells r71) 36 3, blk g61 (RangeD.cells r55) 28, blk g45 (RangeD.cells r39) 28, blk g21 (OpD.cells p0) 23] ∧ (i ≤ List.length r71 ∧ w04_OpChecks_L0 p0 l1 l2 r29 r85 r71 0 = w04_OpChecks_L0 p0 l1 l2 r29 r85 (List.drop i r71) i)) (fun i => List.length r71 - i) 0 ⟨rfl, rfl, rfl, rfl, rfl, rfl, rfl, rfl, rfl, trivial⟩ ⟨H100, (show 0 ≤ List.length r71 ∧ w04_OpChecks_L0 p0 l1 l2 r29 r85 r71 0 = w04_OpChecks_L0 p0 l1 l2 r29 r85 (List.drop 0 r71) 0 from ⟨by omega, rfl⟩)⟩ ?_
  rintro k98 w101 ⟨H102, hf103⟩
  show Wp _ _ _ [(6, .bool false), (60, .int .i64 ((k98 : Nat) : Int)), (59, .int .i64 ((List.length r71 : Nat) : Int)), (14, .slice A91 (List.length r85) c92), (12, .slice A77 (List.length r71) c78), (7, .bool r29), (3, .pointer (some ⟨g21, 0, none⟩)), (1, .slice A1 (List.length l1) c1), (2, .slice A2 (List.length l2) c2)] _ _
  replace H102 : Own w D w101 [row A91 (List.length r85) c92 (List.flatMap LockD.cells r85) 36 3, row A77 (List.length r71) c78 (List.flatMap LockD.cells r71) 36 3, blk g61 (RangeD.cells r55) 28, blk g45 (RangeD.cells r39) 28, blk g21 (OpD.cells p0) 23] := H102
  replace hf103 : k98 ≤ List.length r71 ∧ w04_OpChecks_L0 p0 l1 l2 r29 r85 r71 0 = w04_OpChecks_L0 p0 l1 l2 r29 r85 (List.drop k98 r71) k98 := hf103
  obtain ⟨hi105, hq104⟩ := hf103
  refine Wp.seq (Wp.region (Kn (v := .bool (decide (((k98 : Nat) : Int) < ((List.length r71 : Nat) : Int)))) rfl rfl rfl (fun _ => by kernel_rfl) (WL.nil (Fin.then (Wp.seq ?_)))))
  by_cases h106 : ((k98 : Nat) : Int) < ((List.length r71 : Nat) : Int)
  obtain ⟨x107, hx108⟩ := rds_at (ls := r71) (i := k98) LockD.len (by decide) (H102.rds (i := 1) rfl) (by first | omega | (simp; done) | (simp; omega))
  have hd109 := drop_at hx108
  refine Wp.cond1 rfl (decide_eq_true h106) (Wp.skip (Fin.then (Wp.seq (Wp.block (Wp.seq (Wp.region (Mv rfl rfl (As rfl rfl (WL.nil (Fin.then (Wp.seq ?_)))))))))))
  have H111 := H102.drew
  refine Wp.drawnX [] (fun W => ∃ L', Own w D W ([row A91 (List.length r85) c92 (List.flatMap LockD.cells r85) 36 3, row A77 (List.length r71) c78 (List.flatMap LockD.cells r71) 36 3, blk g61 (RangeD.cells r55) 28, blk g45 (RangeD.cells r39) 28, blk g21 (OpD.cells p0) 23] ++ L')) (by kernel_rfl) (by kernel_rfl) (NoP.then (NoP.block (NoP.then (NoP.then (NoP.block (NoP.then NoP.base)))))) ⟨_, H111⟩ ?_
  revert H111
  generalize World.drew w101 = w110
  intro H111
  replace H111 : Own w D w110 [row A91 (List.length r85) c92 (List.flatMap LockD.cells r85) 36 3, row A77 (List.length r71) c78 (List.flatMap LockD.cells r71) 36 3, blk g61 (RangeD.cells r55) 28, blk g45 (RangeD.cells r39) 28, blk g21 (OpD.cells p0) 23] := H111
  refine GX.take (v := .slice A77 (List.length r71) c78) (rs := []) 0 rfl (by kernel_rfl) (fun _ _ => Yl.move rfl) (GX.take (v := .int .i64 ((k98 : Nat) : Int)) (rs := []) 1 rfl (by kernel_rfl) (fun _ _ => Yl.move rfl) (GX.take (v := .pointer (some ⟨ab A77, ao A77 + k98 * 3, none⟩)) (rs := []) 2 rfl (by kernel_rfl) (fun _ ⟨_, H9⟩ => Yl.indexAddr (El32) rfl rfl ((H9.rds (i := 1) rfl).addr (i := k98) (by omega)) (by omega)) (GX.take (v := .agg (LockD.cells x107).toArray) (rs := []) 3 rfl (by kernel_rfl) (fun _ ⟨_, H9⟩ => Yl.load rfl (Lds.agg (cs := (LockD.cells x107)) Try.isAgg36 Try.sizeOf36 ((H9.rds (i := 1) rfl).elem LockD.len hx108 (by decide)))) (GX.take (v := .slice A91 (List.length r85) c92) (rs := []) 4 rfl (by kernel_rfl) (fun _ _ => Yl.move rfl) (GX.take (v := .int .i64 ((k98 : Nat) : Int)) (rs := []) 5 rfl (by kernel_rfl) (fun _ _ => Yl.move rfl) ?_)))))
  obtain ⟨x112, hx113⟩ := at_of (ls := r85) (i := k98) (by first | omega | (simp; done) | (simp; omega))
  refine GX.take (v := .pointer (some ⟨ab A91, ao A91 + k98 * 3, none⟩)) (rs := []) 6 rfl (by kernel_rfl) (fun _ ⟨_, H9⟩ => Yl.indexAddr (El32) rfl rfl ((H9.rds (i := 0) rfl).addr (i := k98) (by omega)) (by omega)) (GX.take (v := .agg (LockD.cells x112).toArray) (rs := []) 7 rfl (by kernel_rfl) (fun _ ⟨_, H9⟩ => Yl.load rfl (Lds.agg (cs := (LockD.cells x112)) Try.isAgg36 Try.sizeOf36 ((H9.rds (i := 0) rfl).elem LockD.len hx113 (by decide)))) (GX.take (v := .bool (decide (¬ (((x107.xRange.xLo = x112.xRange.xLo) ∧ (x107.xRange.xHi = x112.xRange.xHi)) ∧ (x107.xWrite = x112.xWrite))))) (rs := []) 8 rfl (by kernel_rfl) (fun _ _ => Yl.bool (e := !(decide (((x107.xRange.xLo = x112.xRange.xLo) ∧ (x107.xRange.xHi = x112.xRange.xHi)) ∧ (x107.xWrite = x112.xWrite)))) (Yl.neAgg rfl rfl (by kernel_rfl) rfl (Eqv.struct Try.underlying36 (by kernel_rfl) (EqF.dec (EqF.cons (u := .agg (RangeD.cells x107.xRange).toArray) (v := .agg (RangeD.cells x112.xRange).toArray) (by decide) (fun _ => by kernel_rfl) (fun _ => by kernel_rfl) (Eqv.struct Try.underlying28 (by kernel_rfl) (EqF.dec (EqF.cons (u := .string ⟨List.toArray x107.xRange.xLo⟩) (v := .string ⟨List.toArray x112.xRange.xLo⟩) (by decide) (fun _ => by kernel_rfl) (fun _ => by kernel_rfl) (Eqv.string Try.underlying9) (EqF.cons (u := .string ⟨List.toArray x107.xRange.xHi⟩) (v := .string ⟨List.toArray x112.xRange.xHi⟩) (by decide) (fun _ => by kernel_rfl) (fun _ => by kernel_rfl) (Eqv.string Try.underlying9) (EqF.nil.up (Nat.zero_le _)))) ((congrArg (decide (x107.xRange.xLo = x112.xRange.xLo) && ·) and_dec1).trans and_dec))) (EqF.cons (u := .bool x107.xWrite) (v := .bool x112.xWrite) (by decide) (fun _ => by kernel_rfl) (fun _ => by kernel_rfl) ((Eqv.bool Try.underlying4).up (by decide)) (EqF.nil.up (Nat.zero_le _)))) ((congrArg (decide ((x107.xRange.xLo = x112.xRange.xLo) ∧ (x107.xRange.xHi = x112.xRange.xHi)) && ·) and_dec1).trans and_dec)))) decide_not.symm) (GX.done (by kernel_rfl) (Fin.then ?_))))
  by_cases h114 : ((x107.xRange.xLo = x112.xRange.xLo) ∧ (x107.xRange.xHi = x112.xRange.xHi)) ∧ (x107.xWrite = x112.xWrite)
  refine Wp.cond0 rfl (decide_eq_false (not_not_intro h114)) (Wp.skip (Fin.blockN (Fin.then (Wp.region (WL.val (v := .int .i64 ((k98 + 1 : Nat) : Int)) rfl (Yl.int (e := IntKind.i64.wrap (((k98 : Nat) : Int) + 1)) (Yl.kern rfl rfl (fun _ => by kernel_rfl)) (by rw [IntWalk.i64_in _ (by omega)]; omega)) (Mv rfl rfl (WL.nil ?_)))))))
  have H115 : Own w D w110 [row A91 (List.length r85) c92 (List.flatMap LockD.cells r85) 36 3, row A77 (List.length r71) c78 (List.flatMap LockD.cells r71) 36 3, blk g61 (RangeD.cells r55) 28, blk g45 (RangeD.cells r39) 28, blk g21 (OpD.cells p0) 23] := H111.pick [0, 1, 2, 3, 4] (by decide) rfl
  exact Fin.round (k98 + 1) ⟨rfl, rfl, rfl, rfl, rfl, rfl, rfl, rfl, rfl, trivial⟩ ⟨H115, (show (k98 + 1) ≤ List.length r71 ∧ w04_OpChecks_L0 p0 l1 l2 r29 r85 r71 0 = w04_OpChecks_L0 p0 l1 l2 r29 r85 (List.drop (k98 + 1) r71) (k98 + 1) from ⟨by omega, Eq.trans (hq104) (Eq.trans (congrArg (fun q => w04_OpChecks_L0 p0 l1 l2 r29 r85 q k98) hd109) (Eq.trans (bnd_of (getD_of hx113)) (if_pos h114)))⟩)⟩ (by show List.length r71 - (k98 + 1) < List.length r71 - k98; omega)
  refine Wp.cond1 rfl (decide_eq_true h114) (Wp.seq (Wp.region (As rfl rfl (WL.nil (Fin.then (Wp.ret (Fin.blockR (Fin.thenR (Fin.thenR (Fin.blockR (Fin.thenR (Fin.res (res1 rfl rfl) ?_))))))))))))
  have H116 : Own w D w110 [] := H111.pick [] (by decide) rfl
  have e : w04_OpChecks p0 l1 l2 = false := Eq.trans (bnd_of hr30) (Eq.trans (bnd_of hr41) (Eq.trans (bnd_of hr57) (Eq.trans (bnd_of hr73) (Eq.trans (bnd_of hr87) (Eq.trans (if_pos h94) (Eq.trans (if_pos h95) (Eq.trans (if_pos h96) (Eq.trans (if_pos h97) (lp_r (Eq.trans (hq104) (Eq.trans (congrArg (fun q => w04_OpChecks_L0 p0 l1 l2 r29 r85 q k98) hd109) (Eq.trans (bnd_of (getD_of hx113)) (if_neg h114)))))))))))))
  obtain rfl := e.symm.trans hr
  exact ⟨rfl, H116⟩
  refine Wp.cond0 rfl (decide_eq_false h106) (Wp.exit (Fin.thenX ?_))
  have hL117 : w04_OpChecks_L0 p0 l1 l2 r29 r85 r71 0 = Sum.inl () := Eq.trans (hq104) (congrArg (fun q => w04_OpChecks_L0 p0 l1 l2 r29 r85 q k98) (drop_end (ls := r71) (i := k98) (by omega)))
  refine Fin.thenX (Fin.blockX (Fin.then (Wp.seq ?_)))
  have H119 := H102.drew
  refine Wp.drawnX [] (fun W => ∃ L', Own w D W ([row A91 (List.length r85) c92 (List.flatMap LockD.cells r85) 36 3, row A77 (List.length r71) c78 (List.flatMap LockD.cells r71) 36 3, blk g61 (RangeD.cells r55) 28, blk g45 (RangeD.cells r39) 28, blk g21 (OpD.cells p0) 23] ++ L')) (by kernel_rfl) (by kernel_rfl) (NoP.then NoP.base) ⟨_, H119⟩ ?_
  revert H119
  generalize World.drew w101 = w118
  intro H119
  replace H119 : Own w D w118 [row A91 (List.length r85) c92 (List.flatMap LockD.cells r85) 36 3, row A77 (List.length r71) c78 (List.flatMap LockD.cells r71) 36 3, blk g61 (RangeD.cells r55) 28, blk g45 (RangeD.cells r39) 28, blk g21 (OpD.cells p0) 23] := H119
  refine GX.take (v := .bool r29) (rs := []) 0 rfl (by kernel_rfl) (fun _ _ => Yl.move rfl) (GX.take (v := .bool r29) (rs := []) 1 rfl (by kernel_rfl) (fun _ _ => Yl.move rfl) ?_)
  rcases Bool.eq_false_or_eq_true (r29) with h120 | h120
  refine GX.takeG (v := .agg (OpD.cells p0).toArray) (rs := []) 2 rfl rfl rfl h120 (by kernel_rfl) (fun _ ⟨_, H9⟩ => Yl.load rfl (Lds.agg (cs := (OpD.cells p0)) Try.isAgg23 Try.sizeOf23 ((H9.cls (i := 4) rfl).lit (k := 0) (m := 6) rfl))) (GX.takeG (v := .agg (OpD.cells p0).toArray) (rs := []) 4 rfl rfl rfl h120 (by kernel_rfl) (fun _ ⟨_, H9⟩ => Yl.load rfl (Lds.agg (cs := (OpD.cells p0)) Try.isAgg23 Try.sizeOf23 ((H9.cls (i := 4) rfl).lit (k := 0) (m := 6) rfl))) ?_)
  obtain ⟨r126, hr127⟩ : ∃ q, op_CheckOp p0 = q := ⟨_, rfl⟩
  obtain ⟨D121, HP122, ro123, bk124, rr125⟩ := Own.enter0 H119
  refine GX.doG 3 rfl rfl rfl h120 (by kernel_rfl) (Do.call Try.call15 rfl (op_CheckOp_ok _ _ p0 r126 HP122 hr127) ?_)
  rintro _ w128 ⟨rfl, HQ129, hk131⟩
  have H130 : Own w D w128 [row A91 (List.length r85) c92 (List.flatMap LockD.cells r85) 36 3, row A77 (List.length r71) c78 (List.flatMap LockD.cells r71) 36 3, blk g61 (RangeD.cells r55) 28, blk g45 (RangeD.cells r39) 28, blk g21 (OpD.cells p0) 23] := bk124 _ _ HQ129
  replace hk131 : ¬ (r126 = 0) ∨ (1 ≤ p0.xKind ∧ p0.xKind ≤ 5) := hk131
  refine ⟨.inr ⟨_, H130⟩, ?_⟩
  obtain ⟨r137, hr138⟩ : ∃ q, r04_CheckOp p0 = q := ⟨_, rfl⟩
  obtain ⟨D132, HP133, ro134, bk135, rr136⟩ := Own.enter0 H130
  refine GX.doG 5 rfl rfl rfl h120 (by kernel_rfl) (Do.call Try.call16 rfl (r04_CheckOp_ok _ _ p0 r137 HP133 hr138) ?_)
  rintro _ w139 ⟨rfl, HQ140, hk142⟩
  have H141 : Own w D w139 [row A91 (List.length r85) c92 (List.flatMap LockD.cells r85) 36 3, row A77 (List.length r71) c78 (List.flatMap LockD.cells r71) 36 3, blk g61 (RangeD.cells r55) 28, blk g45 (RangeD.cells r39) 28, blk g21 (OpD.cells p0) 23] := bk135 _ _ HQ140
  replace hk142 : ¬ (r137 = 0) ∨ (1 ≤ p0.xKind ∧ p0.xKind ≤ 5) := hk142
  refine ⟨.inr ⟨_, H141⟩, ?_⟩
  refine GX.takeG (v := .bool (decide (r126 = r137))) (rs := []) 6 rfl rfl rfl h120 (by kernel_rfl) (fun _ _ => Yl.kern rfl rfl (fun _ => by kernel_rfl)) (GX.take (v := .bool (decide (r126 = r137))) (rs := []) 7 rfl (by kernel_rfl) (fun _ _ => Yl.pickT rfl h120 rfl) (GX.take (v := .bool (decide (r126 = r137))) (rs := []) 8 rfl (by kernel_rfl) (fun _ _ => Yl.move rfl) ?_))
  by_cases h143 : r126 = r137
  refine GX.takeG (v := .slice A1 (List.length l1) c1) (rs := []) 9 rfl rfl rfl (decide_eq_true h143) (by kernel_rfl) (fun _ _ => Yl.move rfl) (GX.takeG (v := .slice A1 (List.length l1) c1) (rs := []) 11 rfl rfl rfl (decide_eq_true h143) (by kernel_rfl) (fun _ _ => Yl.move rfl) ?_)
  obtain ⟨r149, hr150⟩ : ∃ q, op_Check l1 = q := ⟨_, rfl⟩
  obtain ⟨D144, HP145, ro146, bk147, rr148⟩ := Own.enter0 H141
  refine GX.doG 10 rfl rfl rfl (decide_eq_true h143) (by kernel_rfl) (Do.call Try.call17 rfl (op_Check_ok _ _ A1 (List.length l1) c1 l1 r149 HP145 (ro146 _ hx1) rfl (by omega) hr150) ?_)
  rintro _ w151 ⟨rfl, HQ152⟩
  have H153 : Own w D w151 [row A91 (List.length r85) c92 (List.flatMap LockD.cells r85) 36 3, row A77 (List.length r71) c78 (List.flatMap LockD.cells r71) 36 3, blk g61 (RangeD.cells r55) 28, blk g45 (RangeD.cells r39) 28, blk g21 (OpD.cells p0) 23] := bk147 _ _ HQ152
  refine ⟨.inr ⟨_, H153⟩, ?_⟩
  obtain ⟨r159, hr160⟩ : ∃ q, r04_Check l1 = q := ⟨_, rfl⟩
  obtain ⟨D154, HP155, ro156, bk157, rr158⟩ := Own.enter0 H153
  refine GX.doG 12 rfl rfl rfl (decide_eq_true h143) (by kernel_rfl) (Do.call Try.call18 rfl (r04_Check_ok _ _ A1 (List.length l1) c1 l1 r159 HP155 (ro156 _ hx1) rfl (by omega) hr160) ?_)
  rintro _ w161 ⟨rfl, HQ162⟩
  have H163 : Own w D w161 [row A91 (List.length r85) c92 (List.flatMap LockD.cells r85) 36 3, row A77 (List.length r71) c78 (List.flatMap LockD.cells r71) 36 3, blk g61 (RangeD.cells r55) 28, blk g45 (RangeD.cells r39) 28, blk g21 (OpD.cells p0) 23] := bk157 _ _ HQ162
  refine ⟨.inr ⟨_, H163⟩, ?_⟩
  refine GX.takeG (v := .bool (decide (r149 = r159))) (rs := []) 13 rfl rfl rfl (decide_eq_true h143) (by kernel_rfl) (fun _ _ => Yl.kern rfl rfl (fun _ => by kernel_rfl)) (GX.take (v := .bool (decide (r149 = r159))) (rs := []) 14 rfl (by kernel_rfl) (fun _ _ => Yl.pickT rfl (decide_eq_true h143) rfl) (GX.take (v := .bool (decide (r149 = r159))) (rs := []) 15 rfl (by kernel_rfl) (fun _ _ => Yl.move rfl) ?_))
  by_cases h164 : r149 = r159
  refine GX.takeG (v := .slice A2 (List.length l2) c2) (rs := []) 16 rfl rfl rfl (decide_eq_true h164) (by kernel_rfl) (fun _ _ => Yl.move rfl) (GX.takeG (v := .slice A2 (List.length l2) c2) (rs := []) 18 rfl rfl rfl (decide_eq_true h164) (by kernel_rfl) (fun _ _ => Yl.move rfl) ?_)
  obtain ⟨r170, hr171⟩ : ∃ q, op_CheckMap l2 = q := ⟨_, rfl⟩
  obtain ⟨D165, HP166, ro167, bk168, rr169⟩ := Own.enter0 H163
  refine GX.doG 17 rfl rfl rfl (decide_eq_true h164) (by kernel_rfl) (Do.call Try.call19 rfl (op_CheckMap_ok _ _ A2 (List.length l2) c2 l2 r170 HP166 (ro167 _ hx2) rfl (by omega) hr171) ?_)
  rintro _ w172 ⟨rfl, HQ173⟩
  have H174 : Own w D w172 [row A91 (List.length r85) c92 (List.flatMap LockD.cells r85) 36 3, row A77 (List.length r71) c78 (List.flatMap LockD.cells r71) 36 3, blk g61 (RangeD.cells r55) 28, blk g45 (RangeD.cells r39) 28, blk g21 (OpD.cells p0) 23] := bk168 _ _ HQ173
  refine ⟨.inr ⟨_, H174⟩, ?_⟩
  obtain ⟨r180, hr181⟩ : ∃ q, r04_CheckMap l2 = q := ⟨_, rfl⟩
  obtain ⟨D175, HP176, ro177, bk178, rr179⟩ := Own.enter0 H174
  refine GX.doG 19 rfl rfl rfl (decide_eq_true h164) (by kernel_rfl) (Do.call Try.call20 rfl (r04_CheckMap_ok _ _ A2 (List.length l2) c2 l2 r180 HP176 (ro177 _ hx2) rfl (by omega) hr181) ?_)
  rintro _ w182 ⟨rfl, HQ183⟩
  have H184 : Own w D w182 [row A91 (List.length r85) c92 (List.flatMap LockD.cells r85) 36 3, row A77 (List.length r71) c78 (List.flatMap LockD.cells r71) 36 3, blk g61 (RangeD.cells r55) 28, blk g45 (RangeD.cells r39) 28, blk g21 (OpD.cells p0) 23] := bk178 _ _ HQ183
  refine ⟨.inr ⟨_, H184⟩, ?_⟩
  refine GX.takeG (v := .bool (decide (r170 = r180))) (rs := []) 20 rfl rfl rfl (decide_eq_true h164) (by kernel_rfl) (fun _ _ => Yl.kern rfl rfl (fun _ => by kernel_rfl)) (GX.take (v := .bool (decide (r170 = r180))) (rs := []) 21 rfl (by kernel_rfl) (fun _ _ => Yl.pickT rfl (decide_eq_true h164) rfl) (GX.take (v := .bool (decide (r170 = r180))) (rs := []) 22 rfl (by kernel_rfl) (fun _ _ => Yl.move rfl) ?_))
  by_cases h185 : r170 = r180
  refine GX.takeG (v := .agg (OpD.cells p0).toArray) (rs := []) 23 rfl rfl rfl (decide_eq_true h185) (by kernel_rfl) (fun _ ⟨_, H9⟩ => Yl.load rfl (Lds.agg (cs := (OpD.cells p0)) Try.isAgg23 Try.sizeOf23 ((H9.cls (i := 4) rfl).lit (k := 0) (m := 6) rfl))) (GX.takeG (v := .agg (OpD.cells p0).toArray) (rs := []) 25 rfl rfl rfl (decide_eq_true h185) (by kernel_rfl) (fun _ ⟨_, H9⟩ => Yl.load rfl (Lds.agg (cs := (OpD.cells p0)) Try.isAgg23 Try.sizeOf23 ((H9.cls (i := 4) rfl).lit (k := 0) (m := 6) rfl))) ?_)
  obtain ⟨r191, hr192⟩ : ∃ q, op_Writes p0 = q := ⟨_, rfl⟩
  obtain ⟨D186, HP187, ro188, bk189, rr190⟩ := Own.enter0 H184
  refine GX.doG 24 rfl rfl rfl (decide_eq_true h185) (by kernel_rfl) (Do.call Try.call21 rfl (op_Writes_ok _ _ p0 r191 HP187 hr192) ?_)
  rintro _ w193 ⟨rfl, HQ194⟩
  have H195 : Own w D w193 [row A91 (List.length r85) c92 (List.flatMap LockD.cells r85) 36 3, row A77 (List.length r71) c78 (List.flatMap LockD.cells r71) 36 3, blk g61 (RangeD.cells r55) 28, blk g45 (RangeD.cells r39) 28, blk g21 (OpD.cells p0) 23] := bk189 _ _ HQ194
  refine ⟨.inr ⟨_, H195⟩, ?_⟩
  obtain ⟨r201, hr202⟩ : ∃ q, r04_Writes p0 = q := ⟨_, rfl⟩
  obtain ⟨D196, HP197, ro198, bk199, rr200⟩ := Own.enter0 H195
  refine GX.doG 26 rfl rfl rfl (decide_eq_true h185) (by kernel_rfl) (Do.call Try.call22 rfl (r04_Writes_ok _ _ p0 r201 HP197 hr202) ?_)
  rintro _ w203 ⟨rfl, HQ204⟩
  have H205 : Own w D w203 [row A91 (List.length r85) c92 (List.flatMap LockD.cells r85) 36 3, row A77 (List.length r71) c78 (List.flatMap LockD.cells r71) 36 3, blk g61 (RangeD.cells r55) 28, blk g45 (RangeD.cells r39) 28, blk g21 (OpD.cells p0) 23] := bk199 _ _ HQ204
  refine ⟨.inr ⟨_, H205⟩, ?_⟩
  refine GX.takeG (v := .bool (decide (r191 = r201))) (rs := []) 27 rfl rfl rfl (decide_eq_true h185) (by kernel_rfl) (fun _ _ => Yl.bool (e := (r191 == r201)) (Yl.kern rfl rfl (fun _ => by kernel_rfl)) (by first | exact Bool.beq_eq_decide_eq _ _ | (by_cases q : r191 = r201 <;> simp [q]))) (GX.take (v := .bool (decide (r191 = r201))) (rs := []) 28 rfl (by kernel_rfl) (fun _ _ => Yl.pickT rfl (decide_eq_true h185) rfl) (GX.take (v := .bool (decide (r191 = r201))) (rs := []) 29 rfl (by kernel_rfl) (fun _ _ => Yl.assign rfl) (GX.done (by kernel_rfl) (Fin.then (Wp.ret (Fin.res (res1 rfl rfl) ?_))))))
  have H206 : Own w D w203 [] := H205.pick [] (by decide) rfl
  have e : w04_OpChecks p0 l1 l2 = decide (r191 = r201) := Eq.trans (bnd_of hr30) (Eq.trans (bnd_of hr41) (Eq.trans (bnd_of hr57) (Eq.trans (bnd_of hr73) (Eq.trans (bnd_of hr87) (Eq.trans (if_pos h94) (Eq.trans (if_pos h95) (Eq.trans (if_pos h96) (Eq.trans (if_pos h97) (Eq.trans (lp_l hL117) (Eq.trans (if_pos h120) (Eq.trans (bnd_of hr127) (Eq.trans (bnd_of hr138) (Eq.trans (if_pos h143) (Eq.trans (bnd_of hr150) (Eq.trans (bnd_of hr160) (Eq.trans (if_pos h164) (Eq.trans (bnd_of hr171) (Eq.trans (bnd_of hr181) (Eq.trans (if_pos h185) (Eq.trans (bnd_of hr192) (bnd_of hr202)))))))))))))))))))))
  obtain rfl := e.symm.trans hr
  exact ⟨rfl, H206⟩
  refine GX.skipG (rs := []) 23 rfl rfl rfl (decide_eq_false h185) (by kernel_rfl) (GX.skipG (rs := []) 24 rfl rfl rfl (decide_eq_false h185) (by kernel_rfl) (GX.skipG (rs := []) 25 rfl rfl rfl (decide_eq_false h185) (by kernel_rfl) (GX.skipG (rs := []) 26 rfl rfl rfl (decide_eq_false h185) (by kernel_rfl) (GX.skipG (rs := []) 27 rfl rfl rfl (decide_eq_false h185) (by kernel_rfl) (GX.take (v := .bool false) (rs := []) 28 rfl (by kernel_rfl) (fun _ _ => Yl.pickF rfl (decide_eq_false h185) rfl) (GX.take (v := .bool false) (rs := []) 29 rfl (by kernel_rfl) (fun _ _ => Yl.assign rfl) (GX.done (by kernel_rfl) (Fin.then (Wp.ret (Fin.res (res1 rfl rfl) ?_))))))))))
  have H207 : Own w D w182 [] := H184.pick [] (by decide) rfl
  have e : w04_OpChecks p0 l1 l2 = false := Eq.trans (bnd_of hr30) (Eq.trans (bnd_of hr41) (Eq.trans (bnd_of hr57) (Eq.trans (bnd_of hr73) (Eq.trans (bnd_of hr87) (Eq.trans (if_pos h94) (Eq.trans (if_pos h95) (Eq.trans (if_pos h96) (Eq.trans (if_pos h97) (Eq.trans (lp_l hL117) (Eq.trans (if_pos h120) (Eq.trans (bnd_of hr127) (Eq.trans (bnd_of hr138) (Eq.trans (if_pos h143) (Eq.trans (bnd_of hr150) (Eq.trans (bnd_of hr160) (Eq.trans (if_pos h164) (Eq.trans (bnd_of hr171) (Eq.trans (bnd_of hr181) (if_neg h185)))))))))))))))))))
  obtain rfl := e.symm.trans hr
  exact ⟨rfl, H207⟩
  refine GX.skipG (rs := []) 16 rfl rfl rfl (decide_eq_false h164) (by kernel_rfl) (GX.skipG (rs := []) 17 rfl rfl rfl (decide_eq_false h164) (by kernel_rfl) (GX.skipG (rs := []) 18 rfl rfl rfl (decide_eq_false h164) (by kernel_rfl) (GX.skipG (rs := []) 19 rfl rfl rfl (decide_eq_false h164) (by kernel_rfl) (GX.skipG (rs := []) 20 rfl rfl rfl (decide_eq_false h164) (by kernel_rfl) (GX.take (v := .bool false) (rs := []) 21 rfl (by kernel_rfl) (fun _ _ => Yl.pickF rfl (decide_eq_false h164) rfl) (GX.take (v := .bool false) (rs := []) 22 rfl (by kernel_rfl) (fun _ _ => Yl.move rfl) (GX.skipG (rs := []) 23 rfl rfl rfl rfl (by kernel_rfl) (GX.skipG (rs := []) 24 rfl rfl rfl rfl (by kernel_rfl) (GX.skipG (rs := []) 25 rfl rfl rfl rfl (by kernel_rfl) (GX.skipG (rs := []) 26 rfl rfl rfl rfl (by kernel_rfl) (GX.skipG (rs := []) 27 rfl rfl rfl rfl (by kernel_rfl) (GX.take (v := .bool false) (rs := []) 28 rfl (by kernel_rfl) (fun _ _ => Yl.pickF rfl rfl rfl) (GX.take (v := .bool false) (rs := []) 29 rfl (by kernel_rfl) (fun _ _ => Yl.assign rfl) (GX.done (by kernel_rfl) (Fin.then (Wp.ret (Fin.res (res1 rfl rfl) ?_)))))))))))))))))
  have H208 : Own w D w161 [] := H163.pick [] (by decide) rfl
  have e : w04_OpChecks p0 l1 l2 = false := Eq.trans (bnd_of hr30) (Eq.trans (bnd_of hr41) (Eq.trans (bnd_of hr57) (Eq.trans (bnd_of hr73) (Eq.trans (bnd_of hr87) (Eq.trans (if_pos h94) (Eq.trans (if_pos h95) (Eq.trans (if_pos h96) (Eq.trans (if_pos h97) (Eq.trans (lp_l hL117) (Eq.trans (if_pos h120) (Eq.trans (bnd_of hr127) (Eq.trans (bnd_of hr138) (Eq.trans (if_pos h143) (Eq.trans (bnd_of hr150) (Eq.trans (bnd_of hr160) (if_neg h164))))))))))))))))
  obtain rfl := e.symm.trans hr
  exact ⟨rfl, H208⟩
  refine GX.skipG (rs := []) 9 rfl rfl rfl (decide_eq_false h143) (by kernel_rfl) (GX.skipG (rs := []) 10 rfl rfl rfl (decide_eq_false h143) (by kernel_rfl) (GX.skipG (rs := []) 11 rfl rfl rfl (decide_eq_false h143) (by kernel_rfl) (GX.skipG (rs := []) 12 rfl rfl rfl (decide_eq_false h143) (by kernel_rfl) (GX.skipG (rs := []) 13 rfl rfl rfl (decide_eq_false h143) (by kernel_rfl) (GX.take (v := .bool false) (rs := []) 14 rfl (by kernel_rfl) (fun _ _ => Yl.pickF rfl (decide_eq_false h143) rfl) (GX.take (v := .bool false) (rs := []) 15 rfl (by kernel_rfl) (fun _ _ => Yl.move rfl) (GX.skipG (rs := []) 16 rfl rfl rfl rfl (by kernel_rfl) (GX.skipG (rs := []) 17 rfl rfl rfl rfl (by kernel_rfl) (GX.skipG (rs := []) 18 rfl rfl rfl rfl (by kernel_rfl) (GX.skipG (rs := []) 19 rfl rfl rfl rfl (by kernel_rfl) (GX.skipG (rs := []) 20 rfl rfl rfl rfl (by kernel_rfl) (GX.take (v := .bool false) (rs := []) 21 rfl (by kernel_rfl) (fun _ _ => Yl.pickF rfl rfl rfl) (GX.take (v := .bool false) (rs := []) 22 rfl (by kernel_rfl) (fun _ _ => Yl.move rfl) (GX.skipG (rs := []) 23 rfl rfl rfl rfl (by kernel_rfl) (GX.skipG (rs := []) 24 rfl rfl rfl rfl (by kernel_rfl) (GX.skipG (rs := []) 25 rfl rfl rfl rfl (by kernel_rfl) (GX.skipG (rs := []) 26 rfl rfl rfl rfl (by kernel_rfl) (GX.skipG (rs := []) 27 rfl rfl rfl rfl (by kernel_rfl) (GX.take (v := .bool false) (rs := []) 28 rfl (by kernel_rfl) (fun _ _ => Yl.pickF rfl rfl rfl) (GX.take (v := .bool false) (rs := []) 29 rfl (by kernel_rfl) (fun _ _ => Yl.assign rfl) (GX.done (by kernel_rfl) (Fin.then (Wp.ret (Fin.res (res1 rfl rfl) ?_))))))))))))))))))))))))
  have H209 : Own w D w139 [] := H141.pick [] (by decide) rfl
  have e : w04_OpChecks p0 l1 l2 = false := Eq.trans (bnd_of hr30) (Eq.trans (bnd_of hr41) (Eq.trans (bnd_of hr57) (Eq.trans (bnd_of hr73) (Eq.trans (bnd_of hr87) (Eq.trans (if_pos h94) (Eq.trans (if_pos h95) (Eq.trans (if_pos h96) (Eq.trans (if_pos h97) (Eq.trans (lp_l hL117) (Eq.trans (if_pos h120) (Eq.trans (bnd_of hr127) (Eq.trans (bnd_of hr138) (if_neg h143)))))))))))))
  obtain rfl := e.symm.trans hr
  exact ⟨rfl, H209⟩
  refine GX.skipG (rs := []) 2 rfl rfl rfl h120 (by kernel_rfl) (GX.skipG (rs := []) 3 rfl rfl rfl h120 (by kernel_rfl) (GX.skipG (rs := []) 4 rfl rfl rfl h120 (by kernel_rfl) (GX.skipG (rs := []) 5 rfl rfl rfl h120 (by kernel_rfl) (GX.skipG (rs := []) 6 rfl rfl rfl h120 (by kernel_rfl) (GX.take (v := .bool false) (rs := []) 7 rfl (by kernel_rfl) (fun _ _ => Yl.pickF rfl h120 rfl) (GX.take (v := .bool false) (rs := []) 8 rfl (by kernel_rfl) (fun _ _ => Yl.move rfl) (GX.skipG (rs := []) 9 rfl rfl rfl rfl (by kernel_rfl) (GX.skipG (rs := []) 10 rfl rfl rfl rfl (by kernel_rfl) (GX.skipG (rs := []) 11 rfl rfl rfl rfl (by kernel_rfl) (GX.skipG (rs := []) 12 rfl rfl rfl rfl (by kernel_rfl) (GX.skipG (rs := []) 13 rfl rfl rfl rfl (by kernel_rfl) (GX.take (v := .bool false) (rs := []) 14 rfl (by kernel_rfl) (fun _ _ => Yl.pickF rfl rfl rfl) (GX.take (v := .bool false) (rs := []) 15 rfl (by kernel_rfl) (fun _ _ => Yl.move rfl) (GX.skipG (rs := []) 16 rfl rfl rfl rfl (by kernel_rfl) (GX.skipG (rs := []) 17 rfl rfl rfl rfl (by kernel_rfl) (GX.skipG (rs := []) 18 rfl rfl rfl rfl (by kernel_rfl) (GX.skipG (rs := []) 19 rfl rfl rfl rfl (by kernel_rfl) (GX.skipG (rs := []) 20 rfl rfl rfl rfl (by kernel_rfl) (GX.take (v := .bool false) (rs := []) 21 rfl (by kernel_rfl) (fun _ _ => Yl.pickF rfl rfl rfl) (GX.take (v := .bool false) (rs := []) 22 rfl (by kernel_rfl) (fun _ _ => Yl.move rfl) (GX.skipG (rs := []) 23 rfl rfl rfl rfl (by kernel_rfl) (GX.skipG (rs := []) 24 rfl rfl rfl rfl (by kernel_rfl) (GX.skipG (rs := []) 25 rfl rfl rfl rfl (by kernel_rfl) (GX.skipG (rs := []) 26 rfl rfl rfl rfl (by kernel_rfl) (GX.skipG (rs := []) 27 rfl rfl rfl rfl (by kernel_rfl) (GX.take (v := .bool false) (rs := []) 28 rfl (by kernel_rfl) (fun _ _ => Yl.pickF rfl rfl rfl) (GX.take (v := .bool false) (rs := []) 29 rfl (by kernel_rfl) (fun _ _ => Yl.assign rfl) (GX.done (by kernel_rfl) (Fin.then (Wp.ret (Fin.res (res1 rfl rfl) ?_)))))))))))))))))))))))))))))))
  have H210 : Own w D w118 [] := H119.pick [] (by decide) rfl
  have e : w04_OpChecks p0 l1 l2 = false := Eq.trans (bnd_of hr30) (Eq.trans (bnd_of hr41) (Eq.trans (bnd_of hr57) (Eq.trans (bnd_of hr73) (Eq.trans (bnd_of hr87) (Eq.trans (if_pos h94) (Eq.trans (if_pos h95) (Eq.trans (if_pos h96) (Eq.trans (if_pos h97) (Eq.trans (lp_l hL117) (ifF h120))))))))))
  obtain rfl := e.symm.trans hr
  exact ⟨rfl, H210⟩
  refine Wp.cond1 rfl (decide_eq_true h97) (Wp.seq (Wp.region (As rfl rfl (WL.nil (Fin.then (Wp.ret (Fin.thenR (Fin.res (res1 rfl rfl) ?_))))))))
  have H211 : Own w D w88 [] := H90.pick [] (by decide) rfl
  have e : w04_OpChecks p0 l1 l2 = false := Eq.trans (bnd_of hr30) (Eq.trans (bnd_of hr41) (Eq.trans (bnd_of hr57) (Eq.trans (bnd_of hr73) (Eq.trans (bnd_of hr87) (Eq.trans (if_pos h94) (Eq.trans (if_pos h95) (Eq.trans (if_pos h96) (if_neg h97))))))))
  obtain rfl := e.symm.trans hr
  exact ⟨rfl, H211⟩
  refine Sk rfl rfl (decide_eq_true h96) rfl (Sk rfl rfl (decide_eq_true h96) rfl (Sk rfl rfl (decide_eq_true h96) rfl (Sk rfl rfl (decide_eq_true h96) rfl (Sk rfl rfl (decide_eq_true h96) rfl (WL.val (v := .bool true) rfl (Yl.pickT rfl (decide_eq_true h96) rfl) (WL.nil (Fin.then (Wp.cond1 rfl rfl (Wp.seq (Wp.region (As rfl rfl (WL.nil (Fin.then (Wp.ret (Fin.thenR (Fin.res (res1 rfl rfl) ?_))))))))))))))))
  have H212 : Own w D w88 [] := H90.pick [] (by decide) rfl
  have e : w04_OpChecks p0 l1 l2 = false := Eq.trans (bnd_of hr30) (Eq.trans (bnd_of hr41) (Eq.trans (bnd_of hr57) (Eq.trans (bnd_of hr73) (Eq.trans (bnd_of hr87) (Eq.trans (if_pos h94) (Eq.trans (if_pos h95) (if_neg h96)))))))
  obtain rfl := e.symm.trans hr
  exact ⟨rfl, H212⟩
  refine Sk rfl rfl (decide_eq_true h95) rfl (Sk rfl rfl (decide_eq_true h95) rfl (Sk rfl rfl (decide_eq_true h95) rfl (WL.val (v := .bool true) rfl (Yl.pickT rfl (decide_eq_true h95) rfl) (Mv rfl rfl (Sk rfl rfl rfl rfl (Sk rfl rfl rfl rfl (Sk rfl rfl rfl rfl (Sk rfl rfl rfl rfl (Sk rfl rfl rfl rfl (WL.val (v := .bool true) rfl (Yl.pickT rfl rfl rfl) (WL.nil (Fin.then (Wp.cond1 rfl rfl (Wp.seq (Wp.region (As rfl rfl (WL.nil (Fin.then (Wp.ret (Fin.thenR (Fin.res (res1 rfl rfl) ?_)))))))))))))))))))))
  have H213 : Own w D w88 [] := H90.pick [] (by decide) rfl
  have e : w04_OpChecks p0 l1 l2 = false := Eq.trans (bnd_of hr30) (Eq.trans (bnd_of hr41) (Eq.trans (bnd_of hr57) (Eq.trans (bnd_of hr73) (Eq.trans (bnd_of hr87) (Eq.trans (if_pos h94) (if_neg h95))))))
  obtain rfl := e.symm.trans hr
  exact ⟨rfl, H213⟩
  refine Sk rfl rfl (decide_eq_true h94) rfl (Sk rfl rfl (decide_eq_true h94) rfl (Sk rfl rfl (decide_eq_true h94) rfl (WL.val (v := .bool true) rfl (Yl.pickT rfl (decide_eq_true h94) rfl) (Mv rfl rfl (Sk rfl rfl rfl rfl (Sk rfl rfl rfl rfl (Sk rfl rfl rfl rfl (WL.val (v := .bool true) rfl (Yl.pickT rfl rfl rfl) (Mv rfl rfl (Sk rfl rfl rfl rfl (Sk rfl rfl rfl rfl (Sk rfl rfl rfl rfl (Sk rfl rfl rfl rfl (Sk rfl rfl rfl rfl (WL.val (v := .bool true) rfl (Yl.pickT rfl rfl rfl) (WL.nil (Fin.then (Wp.cond1 rfl rfl (Wp.seq (Wp.region (As rfl rfl (WL.nil (Fin.then (Wp.ret (Fin.thenR (Fin.res (res1 rfl rfl) ?_))))))))))))))))))))))))))
  have H214 : Own w D w88 [] := H90.pick [] (by decide) rfl
  have e : w04_OpChecks p0 l1 l2 = false := Eq.trans (bnd_of hr30) (Eq.trans (bnd_of hr41) (Eq.trans (bnd_of hr57) (Eq.trans (bnd_of hr73) (Eq.trans (bnd_of hr87) (if_neg h94)))))
  obtain rfl := e.symm.trans hr
  exact ⟨rfl, H214⟩
end Go.Proofs.Ytcognlpfeoabgaa
