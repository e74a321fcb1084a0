/-
  op: the chapter's examples.
-/
import Derived.Test.YtnakliogbipejaaOc
namespace Go.Proofs.Ytnakliogbipejaa
open Go.RowKit
set_option linter.unusedVariables false
set_option linter.unusedSectionVars false
set_option linter.unusedSimpArgs false

def w04_live  : Bool :=
  bnd (op_Apply ([]) ([(OpD.mk 2 ([97]) ([49]) ([]) ([]) 0), (OpD.mk 2 ([98]) ([50]) ([]) ([]) 0), (OpD.mk 3 ([97]) ([]) ([]) ([]) 0), (OpD.mk 4 ([]) ([]) ([]) ([]) 2), (OpD.mk 1 ([97]) ([]) ([]) ([]) 0)])) fun yr29 => if yr29.2.2 = 0 then if ((List.length yr29.1 : Nat) : Int) = 1 then bnd (List.getD yr29.1 0 default) fun yx48 => if (yx48.xKey = ([98])) ∧ (yx48.xValue = ([50])) then if ((List.length yr29.2.1 : Nat) : Int) = 5 then bnd (List.getD yr29.2.1 3 default) fun yx52 => if ((List.length yx52.xPairs.ls : Nat) : Int) = 1 then bnd (List.getD yr29.2.1 4 default) fun yx57 => if yx57.xFound = true then false else bnd (op_CheckOp (OpD.mk 1 ([97]) ([120]) ([]) ([]) 0)) fun yr68 => if yr68 = 40 then bnd (op_CheckOp (OpD.mk 4 ([]) ([]) ([]) ([]) 5)) fun yr80 => if yr80 = 1 then bnd (op_CheckOp (OpD.mk 5 ([]) ([]) ([98]) ([97]) 0)) fun yr92 => decide (yr92 = 21) else false else false else false else false else false else false else false

set_option maxRecDepth 100000 in
theorem w04_live_ok (w : World) (D : Nat → Prop)  (r0 : Bool) (H : Own w D w [])  (hr : w04_live = r0) :
    Calls Try.prog 6 #[] w (Ret fun v w' => v = .bool r0 ∧ Own w D w' []) := by
  refine Calls.body (args := []) Try.func6 rfl rfl rfl ?_
  show Wp _ _ _ [] _ _
  refine Wp.seq (Wp.region (As rfl rfl (WL.nil (Fin.then (Wp.seq (Wp.region (Kn (v := .agg #[.int .i64 2, .string ⟨List.toArray ([97])⟩, .string ⟨List.toArray ([49])⟩, .string ⟨List.toArray ([])⟩, .string ⟨List.toArray ([])⟩, .int .i64 0]) rfl rfl rfl (fun _ => by kernel_rfl) (Kn (v := .agg #[.int .i64 2, .string ⟨List.toArray ([98])⟩, .string ⟨List.toArray ([50])⟩, .string ⟨List.toArray ([])⟩, .string ⟨List.toArray ([])⟩, .int .i64 0]) rfl rfl rfl (fun _ => by kernel_rfl) (Kn (v := .agg #[.int .i64 3, .string ⟨List.toArray ([97])⟩, .string ⟨List.toArray ([])⟩, .string ⟨List.toArray ([])⟩, .string ⟨List.toArray ([])⟩, .int .i64 0]) rfl rfl rfl (fun _ => by kernel_rfl) (Kn (v := .agg #[.int .i64 4, .string ⟨List.toArray ([])⟩, .string ⟨List.toArray ([])⟩, .string ⟨List.toArray ([])⟩, .string ⟨List.toArray ([])⟩, .int .i64 2]) rfl rfl rfl (fun _ => by kernel_rfl) (Kn (v := .agg #[.int .i64 1, .string ⟨List.toArray ([97])⟩, .string ⟨List.toArray ([])⟩, .string ⟨List.toArray ([])⟩, .string ⟨List.toArray ([])⟩, .int .i64 0]) rfl rfl rfl (fun _ => by kernel_rfl) ?_)))))))))))
  refine WL.do rfl (Do.newRow (cs := [.int .i64 2, .string ⟨List.toArray ([97])⟩, .string ⟨List.toArray ([49])⟩, .string ⟨List.toArray ([])⟩, .string ⟨List.toArray ([])⟩, .int .i64 0, .int .i64 2, .string ⟨List.toArray ([98])⟩, .string ⟨List.toArray ([50])⟩, .string ⟨List.toArray ([])⟩, .string ⟨List.toArray ([])⟩, .int .i64 0, .int .i64 3, .string ⟨List.toArray ([97])⟩, .string ⟨List.toArray ([])⟩, .string ⟨List.toArray ([])⟩, .string ⟨List.toArray ([])⟩, .int .i64 0, .int .i64 4, .string ⟨List.toArray ([])⟩, .string ⟨List.toArray ([])⟩, .string ⟨List.toArray ([])⟩, .string ⟨List.toArray ([])⟩, .int .i64 2, .int .i64 1, .string ⟨List.toArray ([97])⟩, .string ⟨List.toArray ([])⟩, .string ⟨List.toArray ([])⟩, .string ⟨List.toArray ([])⟩, .int .i64 0]) (t := 24) (sz := 6) (m := 5) H rfl rfl (fun _ => by kernel_rfl) rfl (by decide) ?_)
  intro A21 w22 H23
  replace H23 : Own w D w22 [row A21 5 5 (List.flatMap OpD.cells ([(OpD.mk 2 ([97]) ([49]) ([]) ([]) 0), (OpD.mk 2 ([98]) ([50]) ([]) ([]) 0), (OpD.mk 3 ([97]) ([]) ([]) ([]) 0), (OpD.mk 4 ([]) ([]) ([]) ([]) 2), (OpD.mk 1 ([97]) ([]) ([]) ([]) 0)])) 24 6] := H23
  refine As rfl rfl (WL.nil (Fin.then (Wp.seq (Wp.region (Mv rfl rfl ?_)))))
  obtain ⟨⟨r29, r30, r31⟩, hr32⟩ : ∃ q : (List PairD) × (List ResultT) × Int, op_Apply ([]) ([(OpD.mk 2 ([97]) ([49]) ([]) ([]) 0), (OpD.mk 2 ([98]) ([50]) ([]) ([]) 0), (OpD.mk 3 ([97]) ([]) ([]) ([]) 0), (OpD.mk 4 ([]) ([]) ([]) ([]) 2), (OpD.mk 1 ([97]) ([]) ([]) ([]) 0)]) = q := ⟨_, rfl⟩
  obtain ⟨D24, HP25, ro26, bk27, rr28⟩ := Own.enter0 H23
  refine WL.do rfl (Do.call Try.call10 rfl (op_Apply_ok _ _ none 0 0 ([]) A21 5 5 ([(OpD.mk 2 ([97]) ([49]) ([]) ([]) 0), (OpD.mk 2 ([98]) ([50]) ([]) ([]) 0), (OpD.mk 3 ([97]) ([]) ([]) ([]) 0), (OpD.mk 4 ([]) ([]) ([]) ([]) 2), (OpD.mk 1 ([97]) ([]) ([]) ([]) 0)]) r29 r30 r31 HP25 (fun _ _ => Rds.nil _ _ _) rfl (by simp) (rr28 _ 0 _ rfl row_rds) rfl (by simp) (by first | omega | (simp only [List.length_cons, List.length_nil]; done) | (simp only [List.length_cons, List.length_nil, List.length_take, List.length_drop]; omega)) hr32) ?_)
  rintro _ w33 ⟨A36, c37, A38, c39, d40, rfl, HQ34, hd41, hk42⟩
  have H35 : Own w D w33 [row A36 (List.length r29) c37 (List.flatMap PairD.cells r29) 45 2, row A38 (List.length r30) c39 (List.flatMap ResultD.cells d40) 41 3, sepL (List.flatMap ResultD.own d40), row A21 5 5 (List.flatMap OpD.cells ([(OpD.mk 2 ([97]) ([49]) ([]) ([]) 0), (OpD.mk 2 ([98]) ([50]) ([]) ([]) 0), (OpD.mk 3 ([97]) ([]) ([]) ([]) 0), (OpD.mk 4 ([]) ([]) ([]) ([]) 2), (OpD.mk 1 ([97]) ([]) ([]) ([]) 0)])) 24 6] := bk27 _ _ HQ34
  have hl43 := abs_len hd41
  have hb44 := H35.rowC (i := 0) rfl
  have hb45 := H35.rowC (i := 1) rfl
  replace hk42 : List.length r29 ≤ 0 + 5 := hk42
  refine Mv rfl rfl (Kn (v := .slice A36 (List.length r29) c37) rfl rfl rfl (fun _ => by kernel_rfl) (Kn (v := .slice A38 (List.length r30) c39) rfl rfl rfl (fun _ => by kernel_rfl) (Kn (v := .int .i64 r31) rfl rfl rfl (fun _ => by kernel_rfl) (As rfl rfl (As rfl rfl (As rfl rfl (WL.nil (Fin.then (Wp.seq (Wp.region (Mv rfl rfl (Kn (v := .bool (decide (r31 = 0))) rfl rfl rfl (fun _ => by kernel_rfl) (Mv rfl rfl ?_)))))))))))))
  by_cases h46 : r31 = 0
  refine WL.valG (v := .slice A36 (List.length r29) c37) rfl rfl (decide_eq_true h46) rfl (Yl.move rfl) (WL.valG (v := .int .i64 ((List.length r29 : Nat) : Int)) rfl rfl (decide_eq_true h46) rfl (Yl.kern rfl rfl (fun _ => by kernel_rfl)) (WL.valG (v := .bool (decide (((List.length r29 : Nat) : Int) = 1))) rfl rfl (decide_eq_true h46) rfl (Yl.kern rfl rfl (fun _ => by kernel_rfl)) (WL.val (v := .bool (decide (((List.length r29 : Nat) : Int) = 1))) rfl (Yl.pickT rfl (decide_eq_true h46) rfl) (Mv rfl rfl ?_))))
  by_cases h47 : ((List.length r29 : Nat) : Int) = 1
  refine WL.valG (v := .slice A36 (List.length r29) c37) rfl rfl (decide_eq_true h47) rfl (Yl.move rfl) ?_
  obtain ⟨x48, hx49⟩ := rds_at (ls := r29) (i := 0) PairD.len (by decide) (H35.rds (i := 0) rfl) (by first | omega | (simp; done) | (simp; omega))
  refine WL.valG (v := .pointer (some ⟨ab A36, ao A36 + 0 * 2, none⟩)) rfl rfl (decide_eq_true h47) rfl (Yl.indexAddr (El22) rfl rfl ((H35.rds (i := 0) rfl).addr (i := 0) (by omega)) (by omega)) (WL.valG (v := .agg (PairD.cells x48).toArray) rfl rfl (decide_eq_true h47) rfl (Yl.load rfl (Lds.agg (cs := (PairD.cells x48)) Try.isAgg45 Try.sizeOf45 ((H35.rds (i := 0) rfl).elem PairD.len hx49 (by decide)))) (WL.valG (v := .agg #[.string ⟨List.toArray ([98])⟩, .string ⟨List.toArray ([50])⟩]) rfl rfl (decide_eq_true h47) rfl (Yl.kern rfl rfl (fun _ => by kernel_rfl)) (WL.valG (v := .bool (decide ((x48.xKey = ([98])) ∧ (x48.xValue = ([50]))))) rfl rfl (decide_eq_true h47) rfl (Yl.eqAgg rfl rfl (by kernel_rfl) rfl (Eqv.struct Try.underlying45 (by kernel_rfl) (EqF.dec (EqF.cons (u := .string ⟨List.toArray x48.xKey⟩) (v := .string ⟨List.toArray ([98])⟩) (by decide) (fun _ => by kernel_rfl) (fun _ => by kernel_rfl) (Eqv.string Try.underlying9) (EqF.cons (u := .string ⟨List.toArray x48.xValue⟩) (v := .string ⟨List.toArray ([50])⟩) (by decide) (fun _ => by kernel_rfl) (fun _ => by kernel_rfl) (Eqv.string Try.underlying9) (EqF.nil.up (Nat.zero_le _)))) ((congrArg (decide (x48.xKey = ([98])) && ·) and_dec1).trans and_dec)))) (WL.val (v := .bool (decide ((x48.xKey = ([98])) ∧ (x48.xValue = ([50]))))) rfl (Yl.pickT rfl (decide_eq_true h47) rfl) (Mv rfl rfl ?_)))))
  by_cases h50 : (x48.xKey = ([98])) ∧ (x48.xValue = ([50]))
  refine WL.valG (v := .slice A38 (List.length r30) c39) rfl rfl (decide_eq_true h50) rfl (Yl.move rfl) (WL.valG (v := .int .i64 ((List.length r30 : Nat) : Int)) rfl rfl (decide_eq_true h50) rfl (Yl.kern rfl rfl (fun _ => by kernel_rfl)) (WL.valG (v := .bool (decide (((List.length r30 : Nat) : Int) = 5))) rfl rfl (decide_eq_true h50) rfl (Yl.kern rfl rfl (fun _ => by kernel_rfl)) (WL.val (v := .bool (decide (((List.length r30 : Nat) : Int) = 5))) rfl (Yl.pickT rfl (decide_eq_true h50) rfl) (Mv rfl rfl ?_))))
  by_cases h51 : ((List.length r30 : Nat) : Int) = 5
  refine WL.valG (v := .slice A38 (List.length r30) c39) rfl rfl (decide_eq_true h51) rfl (Yl.move rfl) ?_
  obtain ⟨x52, hx53⟩ := rds_at (ls := d40) (i := 3) ResultD.len (by decide) (H35.rds (i := 1) rfl) (by first | omega | (simp; done) | (simp; omega))
  have hX54 := abs_at hd41 hx53
  have hb55 : List.length x52.xPairs.ls ≤ 9223372036854775807 := own_rd H35 (i := 2) rfl (φ := fun _ => _) (sepL_mem (List.mem_flatMap.2 ⟨x52, List.mem_of_getElem? hx53, .head _⟩) row_le)
  refine WL.valG (v := .pointer (some ⟨ab A38, ao A38 + 3 * 3, none⟩)) rfl rfl (decide_eq_true h51) rfl (Yl.indexAddr (El34) rfl rfl ((H35.rds (i := 1) rfl).addr (i := 3) (by omega)) (by omega)) (WL.valG (v := .pointer (some ⟨ab A38, ao A38 + 3 * 3 + 2, none⟩)) rfl rfl (decide_eq_true h51) rfl (Yl.kern rfl rfl (fun _ => by kernel_rfl)) (WL.valG (v := .slice x52.xPairs.A (List.length x52.xPairs.ls) x52.xPairs.c) rfl rfl (decide_eq_true h51) rfl (Yl.load rfl (Lds.one Try.isAgg22 (((H35.rds (i := 1) rfl).elem ResultD.len hx53 (by decide)).at_ (k := 2) rfl))) (WL.valG (v := .int .i64 ((List.length x52.xPairs.ls : Nat) : Int)) rfl rfl (decide_eq_true h51) rfl (Yl.kern rfl rfl (fun _ => by kernel_rfl)) (WL.valG (v := .bool (decide (((List.length x52.xPairs.ls : Nat) : Int) = 1))) rfl rfl (decide_eq_true h51) rfl (Yl.kern rfl rfl (fun _ => by kernel_rfl)) (WL.val (v := .bool (decide (((List.length x52.xPairs.ls : Nat) : Int) = 1))) rfl (Yl.pickT rfl (decide_eq_true h51) rfl) (Mv rfl rfl ?_))))))
  by_cases h56 : ((List.length x52.xPairs.ls : Nat) : Int) = 1
  refine WL.valG (v := .slice A38 (List.length r30) c39) rfl rfl (decide_eq_true h56) rfl (Yl.move rfl) ?_
  obtain ⟨x57, hx58⟩ := rds_at (ls := d40) (i := 4) ResultD.len (by decide) (H35.rds (i := 1) rfl) (by first | omega | (simp; done) | (simp; omega))
  have hX59 := abs_at hd41 hx58
  have hb60 : List.length x57.xPairs.ls ≤ 9223372036854775807 := own_rd H35 (i := 2) rfl (φ := fun _ => _) (sepL_mem (List.mem_flatMap.2 ⟨x57, List.mem_of_getElem? hx58, .head _⟩) row_le)
  refine WL.valG (v := .pointer (some ⟨ab A38, ao A38 + 4 * 3, none⟩)) rfl rfl (decide_eq_true h56) rfl (Yl.indexAddr (El34) rfl rfl ((H35.rds (i := 1) rfl).addr (i := 4) (by omega)) (by omega)) (WL.valG (v := .pointer (some ⟨ab A38, ao A38 + 4 * 3, none⟩)) rfl rfl (decide_eq_true h56) rfl (Yl.kern rfl rfl (fun _ => by kernel_rfl)) (WL.valG (v := .bool x57.xFound) rfl rfl (decide_eq_true h56) rfl (Yl.load rfl (Lds.one Try.isAgg4 (((H35.rds (i := 1) rfl).elem ResultD.len hx58 (by decide)).at_ (k := 0) rfl))) (WL.valG (v := .bool (!x57.xFound)) rfl rfl (decide_eq_true h56) rfl (Yl.kern rfl rfl (fun _ => by kernel_rfl)) (WL.val (v := .bool (!x57.xFound)) rfl (Yl.pickT rfl (decide_eq_true h56) rfl) (Mv rfl rfl ?_)))))
  rcases Bool.eq_false_or_eq_true (x57.xFound) with h61 | h61
  refine Sk rfl rfl (congrArg not h61) rfl (Sk rfl rfl (congrArg not h61) rfl (Sk rfl rfl (congrArg not h61) rfl (WL.val (v := .bool false) rfl (Yl.pickF rfl (congrArg not h61) rfl) (Mv rfl rfl (Sk rfl rfl rfl rfl (Sk rfl rfl rfl rfl (Sk rfl rfl rfl rfl (WL.val (v := .bool false) rfl (Yl.pickF rfl rfl rfl) (Mv rfl rfl (Sk rfl rfl rfl rfl (Sk rfl rfl rfl rfl (Sk rfl rfl rfl rfl (WL.val (v := .bool false) rfl (Yl.pickF rfl rfl rfl) (As rfl rfl (WL.nil (Fin.then (Wp.ret (Fin.res (res1 rfl rfl) ?_))))))))))))))))))
  have H62 : Own w D w33 [] := H35.pick [] (by decide) rfl
  have e : w04_live = false := Eq.trans (bnd_of hr32) (Eq.trans (if_pos h46) (Eq.trans (if_pos h47) (Eq.trans (bnd_of (getD_of hx49)) (Eq.trans (if_pos h50) (Eq.trans (if_pos h51) (Eq.trans (bnd_of (getD_of hX54)) (Eq.trans (if_pos h56) (Eq.trans (bnd_of (getD_of hX59)) (if_pos h61)))))))))
  obtain rfl := e.symm.trans hr
  exact ⟨rfl, H62⟩
  refine WL.valG (v := .agg #[.int .i64 1, .string ⟨List.toArray ([97])⟩, .string ⟨List.toArray ([120])⟩, .string ⟨List.toArray ([])⟩, .string ⟨List.toArray ([])⟩, .int .i64 0]) rfl rfl (congrArg not h61) rfl (Yl.kern rfl rfl (fun _ => by kernel_rfl)) ?_
  obtain ⟨r68, hr69⟩ : ∃ q, op_CheckOp (OpD.mk 1 ([97]) ([120]) ([]) ([]) 0) = q := ⟨_, rfl⟩
  obtain ⟨D63, HP64, ro65, bk66, rr67⟩ := Own.enter0 H35
  refine WL.doG rfl rfl (congrArg not h61) rfl (Do.call Try.call14 rfl (op_CheckOp_ok _ _ (OpD.mk 1 ([97]) ([120]) ([]) ([]) 0) r68 HP64 hr69) ?_)
  rintro _ w70 ⟨rfl, HQ71, hk73⟩
  have H72 : Own w D w70 [row A36 (List.length r29) c37 (List.flatMap PairD.cells r29) 45 2, row A38 (List.length r30) c39 (List.flatMap ResultD.cells d40) 41 3, sepL (List.flatMap ResultD.own d40), row A21 5 5 (List.flatMap OpD.cells ([(OpD.mk 2 ([97]) ([49]) ([]) ([]) 0), (OpD.mk 2 ([98]) ([50]) ([]) ([]) 0), (OpD.mk 3 ([97]) ([]) ([]) ([]) 0), (OpD.mk 4 ([]) ([]) ([]) ([]) 2), (OpD.mk 1 ([97]) ([]) ([]) ([]) 0)])) 24 6] := bk66 _ _ HQ71
  replace hk73 : ¬ (r68 = 0) ∨ (1 ≤ (OpD.mk 1 ([97]) ([120]) ([]) ([]) 0).xKind ∧ (OpD.mk 1 ([97]) ([120]) ([]) ([]) 0).xKind ≤ 5) := hk73
  refine WL.valG (v := .bool (decide (r68 = 40))) rfl rfl (congrArg not h61) rfl (Yl.kern rfl rfl (fun _ => by kernel_rfl)) (WL.val (v := .bool (decide (r68 = 40))) rfl (Yl.pickT rfl (congrArg not h61) rfl) (Mv rfl rfl ?_))
  by_cases h74 : r68 = 40
  refine WL.valG (v := .agg #[.int .i64 4, .string ⟨List.toArray ([])⟩, .string ⟨List.toArray ([])⟩, .string ⟨List.toArray ([])⟩, .string ⟨List.toArray ([])⟩, .int .i64 5]) rfl rfl (decide_eq_true h74) rfl (Yl.kern rfl rfl (fun _ => by kernel_rfl)) ?_
  obtain ⟨r80, hr81⟩ : ∃ q, op_CheckOp (OpD.mk 4 ([]) ([]) ([]) ([]) 5) = q := ⟨_, rfl⟩
  obtain ⟨D75, HP76, ro77, bk78, rr79⟩ := Own.enter0 H72
  refine WL.doG rfl rfl (decide_eq_true h74) rfl (Do.call Try.call14 rfl (op_CheckOp_ok _ _ (OpD.mk 4 ([]) ([]) ([]) ([]) 5) r80 HP76 hr81) ?_)
  rintro _ w82 ⟨rfl, HQ83, hk85⟩
  have H84 : Own w D w82 [row A36 (List.length r29) c37 (List.flatMap PairD.cells r29) 45 2, row A38 (List.length r30) c39 (List.flatMap ResultD.cells d40) 41 3, sepL (List.flatMap ResultD.own d40), row A21 5 5 (List.flatMap OpD.cells ([(OpD.mk 2 ([97]) ([49]) ([]) ([]) 0), (OpD.mk 2 ([98]) ([50]) ([]) ([]) 0), (OpD.mk 3 ([97]) ([]) ([]) ([]) 0), (OpD.mk 4 ([]) ([]) ([]) ([]) 2), (OpD.mk 1 ([97]) ([]) ([]) ([]) 0)])) 24 6] := bk78 _ _ HQ83
  replace hk85 : ¬ (r80 = 0) ∨ (1 ≤ (OpD.mk 4 ([]) ([]) ([]) ([]) 5).xKind ∧ (OpD.mk 4 ([]) ([]) ([]) ([]) 5).xKind ≤ 5) := hk85
  refine WL.valG (v := .bool (decide (r80 = 1))) rfl rfl (decide_eq_true h74) rfl (Yl.kern rfl rfl (fun _ => by kernel_rfl)) (WL.val (v := .bool (decide (r80 = 1))) rfl (Yl.pickT rfl (decide_eq_true h74) rfl) (Mv rfl rfl ?_))
  by_cases h86 : r80 = 1
  refine WL.valG (v := .agg #[.int .i64 5, .string ⟨List.toArray ([])⟩, .string ⟨List.toArray ([])⟩, .string ⟨List.toArray ([98])⟩, .string ⟨List.toArray ([97])⟩, .int .i64 0]) rfl rfl (decide_eq_true h86) rfl (Yl.kern rfl rfl (fun _ => by kernel_rfl)) ?_
  obtain ⟨r92, hr93⟩ : ∃ q, op_CheckOp (OpD.mk 5 ([]) ([]) ([98]) ([97]) 0) = q := ⟨_, rfl⟩
  obtain ⟨D87, HP88, ro89, bk90, rr91⟩ := Own.enter0 H84
  refine WL.doG rfl rfl (decide_eq_true h86) rfl (Do.call Try.call14 rfl (op_CheckOp_ok _ _ (OpD.mk 5 ([]) ([]) ([98]) ([97]) 0) r92 HP88 hr93) ?_)
  rintro _ w94 ⟨rfl, HQ95, hk97⟩
  have H96 : Own w D w94 [row A36 (List.length r29) c37 (List.flatMap PairD.cells r29) 45 2, row A38 (List.length r30) c39 (List.flatMap ResultD.cells d40) 41 3, sepL (List.flatMap ResultD.own d40), row A21 5 5 (List.flatMap OpD.cells ([(OpD.mk 2 ([97]) ([49]) ([]) ([]) 0), (OpD.mk 2 ([98]) ([50]) ([]) ([]) 0), (OpD.mk 3 ([97]) ([]) ([]) ([]) 0), (OpD.mk 4 ([]) ([]) ([]) ([]) 2), (OpD.mk 1 ([97]) ([]) ([]) ([]) 0)])) 24 6] := bk90 _ _ HQ95
  replace hk97 : ¬ (r92 = 0) ∨ (1 ≤ (OpD.mk 5 ([]) ([]) ([98]) ([97]) 0).xKind ∧ (OpD.mk 5 ([]) ([]) ([98]) ([97]) 0).xKind ≤ 5) := hk97
  refine WL.valG (v := .bool (decide (r92 = 21))) rfl rfl (decide_eq_true h86) rfl (Yl.kern rfl rfl (fun _ => by kernel_rfl)) (WL.val (v := .bool (decide (r92 = 21))) rfl (Yl.pickT rfl (decide_eq_true h86) rfl) (As rfl rfl (WL.nil (Fin.then (Wp.ret (Fin.res (res1 rfl rfl) ?_))))))
  have H98 : Own w D w94 [] := H96.pick [] (by decide) rfl
  have e : w04_live = decide (r92 = 21) := Eq.trans (bnd_of hr32) (Eq.trans (if_pos h46) (Eq.trans (if_pos h47) (Eq.trans (bnd_of (getD_of hx49)) (Eq.trans (if_pos h50) (Eq.trans (if_pos h51) (Eq.trans (bnd_of (getD_of hX54)) (Eq.trans (if_pos h56) (Eq.trans (bnd_of (getD_of hX59)) (Eq.trans (ifF h61) (Eq.trans (bnd_of hr69) (Eq.trans (if_pos h74) (Eq.trans (bnd_of hr81) (Eq.trans (if_pos h86) (bnd_of hr93))))))))))))))
  obtain rfl := e.symm.trans hr
  exact ⟨rfl, H98⟩
  refine Sk rfl rfl (decide_eq_false h86) rfl (Sk rfl rfl (decide_eq_false h86) rfl (Sk rfl rfl (decide_eq_false h86) rfl (WL.val (v := .bool false) rfl (Yl.pickF rfl (decide_eq_false h86) rfl) (As rfl rfl (WL.nil (Fin.then (Wp.ret (Fin.res (res1 rfl rfl) ?_))))))))
  have H99 : Own w D w82 [] := H84.pick [] (by decide) rfl
  have e : w04_live = false := Eq.trans (bnd_of hr32) (Eq.trans (if_pos h46) (Eq.trans (if_pos h47) (Eq.trans (bnd_of (getD_of hx49)) (Eq.trans (if_pos h50) (Eq.trans (if_pos h51) (Eq.trans (bnd_of (getD_of hX54)) (Eq.trans (if_pos h56) (Eq.trans (bnd_of (getD_of hX59)) (Eq.trans (ifF h61) (Eq.trans (bnd_of hr69) (Eq.trans (if_pos h74) (Eq.trans (bnd_of hr81) (if_neg h86)))))))))))))
  obtain rfl := e.symm.trans hr
  exact ⟨rfl, H99⟩
  refine Sk rfl rfl (decide_eq_false h74) rfl (Sk rfl rfl (decide_eq_false h74) rfl (Sk rfl rfl (decide_eq_false h74) rfl (WL.val (v := .bool false) rfl (Yl.pickF rfl (decide_eq_false h74) rfl) (Mv rfl rfl (Sk rfl rfl rfl rfl (Sk rfl rfl rfl rfl (Sk rfl rfl rfl rfl (WL.val (v := .bool false) rfl (Yl.pickF rfl rfl rfl) (As rfl rfl (WL.nil (Fin.then (Wp.ret (Fin.res (res1 rfl rfl) ?_)))))))))))))
  have H100 : Own w D w70 [] := H72.pick [] (by decide) rfl
  have e : w04_live = false := Eq.trans (bnd_of hr32) (Eq.trans (if_pos h46) (Eq.trans (if_pos h47) (Eq.trans (bnd_of (getD_of hx49)) (Eq.trans (if_pos h50) (Eq.trans (if_pos h51) (Eq.trans (bnd_of (getD_of hX54)) (Eq.trans (if_pos h56) (Eq.trans (bnd_of (getD_of hX59)) (Eq.trans (ifF h61) (Eq.trans (bnd_of hr69) (if_neg h74)))))))))))
  obtain rfl := e.symm.trans hr
  exact ⟨rfl, H100⟩
  refine Sk rfl rfl (decide_eq_false h56) rfl (Sk rfl rfl (decide_eq_false h56) rfl (Sk rfl rfl (decide_eq_false h56) rfl (Sk rfl rfl (decide_eq_false h56) rfl (Sk rfl rfl (decide_eq_false h56) rfl (WL.val (v := .bool false) rfl (Yl.pickF rfl (decide_eq_false h56) rfl) (Mv rfl rfl (Sk rfl rfl rfl rfl (Sk rfl rfl rfl rfl (Sk rfl rfl rfl rfl (WL.val (v := .bool false) rfl (Yl.pickF rfl rfl rfl) (Mv rfl rfl (Sk rfl rfl rfl rfl (Sk rfl rfl rfl rfl (Sk rfl rfl rfl rfl (WL.val (v := .bool false) rfl (Yl.pickF rfl rfl rfl) (Mv rfl rfl (Sk rfl rfl rfl rfl (Sk rfl rfl rfl rfl (Sk rfl rfl rfl rfl (WL.val (v := .bool false) rfl (Yl.pickF rfl rfl rfl) (As rfl rfl (WL.nil (Fin.then (Wp.ret (Fin.res (res1 rfl rfl) ?_)))))))))))))))))))))))))
  have H101 : Own w D w33 [] := H35.pick [] (by decide) rfl
  have e : w04_live = false := Eq.trans (bnd_of hr32) (Eq.trans (if_pos h46) (Eq.trans (if_pos h47) (Eq.trans (bnd_of (getD_of hx49)) (Eq.trans (if_pos h50) (Eq.trans (if_pos h51) (Eq.trans (bnd_of (getD_of hX54)) (if_neg h56)))))))
  obtain rfl := e.symm.trans hr
  exact ⟨rfl, H101⟩
  refine Sk rfl rfl (decide_eq_false h51) rfl (Sk rfl rfl (decide_eq_false h51) rfl (Sk rfl rfl (decide_eq_false h51) rfl (Sk rfl rfl (decide_eq_false h51) rfl (Sk rfl rfl (decide_eq_false h51) rfl (Sk rfl rfl (decide_eq_false h51) rfl (WL.val (v := .bool false) rfl (Yl.pickF rfl (decide_eq_false h51) rfl) (Mv rfl rfl (Sk rfl rfl rfl rfl (Sk rfl rfl rfl rfl (Sk rfl rfl rfl rfl (Sk rfl rfl rfl rfl (Sk rfl rfl rfl rfl (WL.val (v := .bool false) rfl (Yl.pickF rfl rfl rfl) (Mv rfl rfl (Sk rfl rfl rfl rfl (Sk rfl rfl rfl rfl (Sk rfl rfl rfl rfl (WL.val (v := .bool false) rfl (Yl.pickF rfl rfl rfl) (Mv rfl rfl (Sk rfl rfl rfl rfl (Sk rfl rfl rfl rfl (Sk rfl rfl rfl rfl (WL.val (v := .bool false) rfl (Yl.pickF rfl rfl rfl) (Mv rfl rfl (Sk rfl rfl rfl rfl (Sk rfl rfl rfl rfl (Sk rfl rfl rfl rfl (WL.val (v := .bool false) rfl (Yl.pickF rfl rfl rfl) (As rfl rfl (WL.nil (Fin.then (Wp.ret (Fin.res (res1 rfl rfl) ?_)))))))))))))))))))))))))))))))))
  have H102 : Own w D w33 [] := H35.pick [] (by decide) rfl
  have e : w04_live = false := Eq.trans (bnd_of hr32) (Eq.trans (if_pos h46) (Eq.trans (if_pos h47) (Eq.trans (bnd_of (getD_of hx49)) (Eq.trans (if_pos h50) (if_neg h51)))))
  obtain rfl := e.symm.trans hr
  exact ⟨rfl, H102⟩
  refine Sk rfl rfl (decide_eq_false h50) rfl (Sk rfl rfl (decide_eq_false h50) rfl (Sk rfl rfl (decide_eq_false h50) rfl (WL.val (v := .bool false) rfl (Yl.pickF rfl (decide_eq_false h50) rfl) (Mv rfl rfl (Sk rfl rfl rfl rfl (Sk rfl rfl rfl rfl (Sk rfl rfl rfl rfl (Sk rfl rfl rfl rfl (Sk rfl rfl rfl rfl (Sk rfl rfl rfl rfl (WL.val (v := .bool false) rfl (Yl.pickF rfl rfl rfl) (Mv rfl rfl (Sk rfl rfl rfl rfl (Sk rfl rfl rfl rfl (Sk rfl rfl rfl rfl (Sk rfl rfl rfl rfl (Sk rfl rfl rfl rfl (WL.val (v := .bool false) rfl (Yl.pickF rfl rfl rfl) (Mv rfl rfl (Sk rfl rfl rfl rfl (Sk rfl rfl rfl rfl (Sk rfl rfl rfl rfl (WL.val (v := .bool false) rfl (Yl.pickF rfl rfl rfl) (Mv rfl rfl (Sk rfl rfl rfl rfl (Sk rfl rfl rfl rfl (Sk rfl rfl rfl rfl (WL.val (v := .bool false) rfl (Yl.pickF rfl rfl rfl) (Mv rfl rfl (Sk rfl rfl rfl rfl (Sk rfl rfl rfl rfl (Sk rfl rfl rfl rfl (WL.val (v := .bool false) rfl (Yl.pickF rfl rfl rfl) (As rfl rfl (WL.nil (Fin.then (Wp.ret (Fin.res (res1 rfl rfl) ?_))))))))))))))))))))))))))))))))))))))
  have H103 : Own w D w33 [] := H35.pick [] (by decide) rfl
  have e : w04_live = false := Eq.trans (bnd_of hr32) (Eq.trans (if_pos h46) (Eq.trans (if_pos h47) (Eq.trans (bnd_of (getD_of hx49)) (if_neg h50))))
  obtain rfl := e.symm.trans hr
  exact ⟨rfl, H103⟩
  refine Sk rfl rfl (decide_eq_false h47) rfl (Sk rfl rfl (decide_eq_false h47) rfl (Sk rfl rfl (decide_eq_false h47) rfl (Sk rfl rfl (decide_eq_false h47) rfl (Sk rfl rfl (decide_eq_false h47) rfl (WL.val (v := .bool false) rfl (Yl.pickF rfl (decide_eq_false h47) rfl) (Mv rfl rfl (Sk rfl rfl rfl rfl (Sk rfl rfl rfl rfl (Sk rfl rfl rfl rfl (WL.val (v := .bool false) rfl (Yl.pickF rfl rfl rfl) (Mv rfl rfl (Sk rfl rfl rfl rfl (Sk rfl rfl rfl rfl (Sk rfl rfl rfl rfl (Sk rfl rfl rfl rfl (Sk rfl rfl rfl rfl (Sk rfl rfl rfl rfl (WL.val (v := .bool false) rfl (Yl.pickF rfl rfl rfl) (Mv rfl rfl (Sk rfl rfl rfl rfl (Sk rfl rfl rfl rfl (Sk rfl rfl rfl rfl (Sk rfl rfl rfl rfl (Sk rfl rfl rfl rfl (WL.val (v := .bool false) rfl (Yl.pickF rfl rfl rfl) (Mv rfl rfl (Sk rfl rfl rfl rfl (Sk rfl rfl rfl rfl (Sk rfl rfl rfl rfl (WL.val (v := .bool false) rfl (Yl.pickF rfl rfl rfl) (Mv rfl rfl (Sk rfl rfl rfl rfl (Sk rfl rfl rfl rfl (Sk rfl rfl rfl rfl (WL.val (v := .bool false) rfl (Yl.pickF rfl rfl rfl) (Mv rfl rfl (Sk rfl rfl rfl rfl (Sk rfl rfl rfl rfl (Sk rfl rfl rfl rfl ?_)))))))))))))))))))))))))))))))))))))))
  refine WL.val (v := .bool false) rfl (Yl.pickF rfl rfl rfl) (As rfl rfl (WL.nil (Fin.then (Wp.ret (Fin.res (res1 rfl rfl) ?_)))))
  have H104 : Own w D w33 [] := H35.pick [] (by decide) rfl
  have e : w04_live = false := Eq.trans (bnd_of hr32) (Eq.trans (if_pos h46) (if_neg h47))
  obtain rfl := e.symm.trans hr
  exact ⟨rfl, H104⟩
  refine Sk rfl rfl (decide_eq_false h46) rfl (Sk rfl rfl (decide_eq_false h46) rfl (Sk rfl rfl (decide_eq_false h46) rfl (WL.val (v := .bool false) rfl (Yl.pickF rfl (decide_eq_false h46) rfl) (Mv rfl rfl (Sk rfl rfl rfl rfl (Sk rfl rfl rfl rfl (Sk rfl rfl rfl rfl (Sk rfl rfl rfl rfl (Sk rfl rfl rfl rfl (WL.val (v := .bool false) rfl (Yl.pickF rfl rfl rfl) (Mv rfl rfl (Sk rfl rfl rfl rfl (Sk rfl rfl rfl rfl (Sk rfl rfl rfl rfl (WL.val (v := .bool false) rfl (Yl.pickF rfl rfl rfl) (Mv rfl rfl (Sk rfl rfl rfl rfl (Sk rfl rfl rfl rfl (Sk rfl rfl rfl rfl (Sk rfl rfl rfl rfl (Sk rfl rfl rfl rfl (Sk rfl rfl rfl rfl (WL.val (v := .bool false) rfl (Yl.pickF rfl rfl rfl) (Mv rfl rfl (Sk rfl rfl rfl rfl (Sk rfl rfl rfl rfl (Sk rfl rfl rfl rfl (Sk rfl rfl rfl rfl (Sk rfl rfl rfl rfl (WL.val (v := .bool false) rfl (Yl.pickF rfl rfl rfl) (Mv rfl rfl (Sk rfl rfl rfl rfl (Sk rfl rfl rfl rfl (Sk rfl rfl rfl rfl (WL.val (v := .bool false) rfl (Yl.pickF rfl rfl rfl) (Mv rfl rfl (Sk rfl rfl rfl rfl (Sk rfl rfl rfl rfl (Sk rfl rfl rfl rfl ?_)))))))))))))))))))))))))))))))))))))))
  refine WL.val (v := .bool false) rfl (Yl.pickF rfl rfl rfl) (Mv rfl rfl (Sk rfl rfl rfl rfl (Sk rfl rfl rfl rfl (Sk rfl rfl rfl rfl (WL.val (v := .bool false) rfl (Yl.pickF rfl rfl rfl) (As rfl rfl (WL.nil (Fin.then (Wp.ret (Fin.res (res1 rfl rfl) ?_))))))))))
  have H105 : Own w D w33 [] := H35.pick [] (by decide) rfl
  have e : w04_live = false := Eq.trans (bnd_of hr32) (if_neg h46)
  obtain rfl := e.symm.trans hr
  exact ⟨rfl, H105⟩
end Go.Proofs.Ytnakliogbipejaa
