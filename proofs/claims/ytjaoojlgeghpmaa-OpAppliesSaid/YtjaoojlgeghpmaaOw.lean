/-
  op: the chapter's examples.
-/
import Derived.Test.YtjaoojlgeghpmaaOd
namespace Go.Proofs.Ytjaoojlgeghpmaa
open Go.RowKit
set_option linter.unusedVariables false
set_option linter.unusedSectionVars false
set_option linter.unusedSimpArgs false

def w04_live  : Bool :=
  bnd (op_Apply ([]) ([(OpD.mk 2 ([97]) ([49]) ([]) ([]) 0), (OpD.mk 2 ([98]) ([50]) ([]) ([]) 0), (OpD.mk 3 ([97]) ([]) ([]) ([]) 0), (OpD.mk 4 ([]) ([]) ([]) ([]) 2), (OpD.mk 1 ([97]) ([]) ([]) ([]) 0)])) fun yr29 => if yr29.2.2 = 0 then if ((List.length yr29.1 : Nat) : Int) = 1 then bnd (List.getD yr29.1 0 default) fun yx49 => if (yx49.xKey = ([98])) ∧ (yx49.xValue = ([50])) then if ((List.length yr29.2.1 : Nat) : Int) = 5 then bnd (List.getD yr29.2.1 3 default) fun yx53 => if ((List.length yx53.xPairs.ls : Nat) : Int) = 1 then bnd (List.getD yr29.2.1 4 default) fun yx58 => if yx58.xFound = true then false else bnd (op_CheckOp (OpD.mk 1 ([97]) ([120]) ([]) ([]) 0)) fun yr69 => if yr69 = 40 then bnd (op_CheckOp (OpD.mk 4 ([]) ([]) ([]) ([]) 5)) fun yr81 => if yr81 = 1 then bnd (op_CheckOp (OpD.mk 5 ([]) ([]) ([98]) ([97]) 0)) fun yr93 => decide (yr93 = 21) else false else false else false else false else false else false else false

set_option maxRecDepth 100000 in
theorem w04_live_ok (w : World) (D : Nat → Prop)  (r0 : Bool) (H : Own w D w [])  (hr : w04_live = r0) :
    Calls Try.prog 4 #[] w (Ret fun v w' => v = .bool r0 ∧ Own w D w' []) := by
  refine Calls.body (args := []) Try.func4 rfl rfl rfl ?_
  show Wp _ _ _ [] _ _
  refine Wp.seq (Wp.region (As rfl rfl (WL.nil (Fin.then (Wp.seq (Wp.region (Kn (v := .agg #[.int .i64 2, .string ⟨List.toArray ([97])⟩, .string ⟨List.toArray ([49])⟩, .string ⟨List.toArray ([])⟩, .string ⟨List.toArray ([])⟩, .int .i64 0]) rfl rfl rfl (fun _ => by kernel_rfl) (Kn (v := .agg #[.int .i64 2, .string ⟨List.toArray ([98])⟩, .string ⟨List.toArray ([50])⟩, .string ⟨List.toArray ([])⟩, .string ⟨List.toArray ([])⟩, .int .i64 0]) rfl rfl rfl (fun _ => by kernel_rfl) (Kn (v := .agg #[.int .i64 3, .string ⟨List.toArray ([97])⟩, .string ⟨List.toArray ([])⟩, .string ⟨List.toArray ([])⟩, .string ⟨List.toArray ([])⟩, .int .i64 0]) rfl rfl rfl (fun _ => by kernel_rfl) (Kn (v := .agg #[.int .i64 4, .string ⟨List.toArray ([])⟩, .string ⟨List.toArray ([])⟩, .string ⟨List.toArray ([])⟩, .string ⟨List.toArray ([])⟩, .int .i64 2]) rfl rfl rfl (fun _ => by kernel_rfl) (Kn (v := .agg #[.int .i64 1, .string ⟨List.toArray ([97])⟩, .string ⟨List.toArray ([])⟩, .string ⟨List.toArray ([])⟩, .string ⟨List.toArray ([])⟩, .int .i64 0]) rfl rfl rfl (fun _ => by kernel_rfl) ?_)))))))))))
  refine WL.do rfl (Do.newRow (cs := [.int .i64 2, .string ⟨List.toArray ([97])⟩, .string ⟨List.toArray ([49])⟩, .string ⟨List.toArray ([])⟩, .string ⟨List.toArray ([])⟩, .int .i64 0, .int .i64 2, .string ⟨List.toArray ([98])⟩, .string ⟨List.toArray ([50])⟩, .string ⟨List.toArray ([])⟩, .string ⟨List.toArray ([])⟩, .int .i64 0, .int .i64 3, .string ⟨List.toArray ([97])⟩, .string ⟨List.toArray ([])⟩, .string ⟨List.toArray ([])⟩, .string ⟨List.toArray ([])⟩, .int .i64 0, .int .i64 4, .string ⟨List.toArray ([])⟩, .string ⟨List.toArray ([])⟩, .string ⟨List.toArray ([])⟩, .string ⟨List.toArray ([])⟩, .int .i64 2, .int .i64 1, .string ⟨List.toArray ([97])⟩, .string ⟨List.toArray ([])⟩, .string ⟨List.toArray ([])⟩, .string ⟨List.toArray ([])⟩, .int .i64 0]) (t := 37) (sz := 6) (m := 5) H rfl rfl (fun _ => by kernel_rfl) rfl (by decide) ?_)
  intro A21 w22 H23
  replace H23 : Own w D w22 [row A21 5 5 (List.flatMap OpD.cells ([(OpD.mk 2 ([97]) ([49]) ([]) ([]) 0), (OpD.mk 2 ([98]) ([50]) ([]) ([]) 0), (OpD.mk 3 ([97]) ([]) ([]) ([]) 0), (OpD.mk 4 ([]) ([]) ([]) ([]) 2), (OpD.mk 1 ([97]) ([]) ([]) ([]) 0)])) 37 6] := H23
  refine As rfl rfl (WL.nil (Fin.then (Wp.seq (Wp.region (Mv rfl rfl ?_)))))
  obtain ⟨⟨r29, r30, r31⟩, hr32⟩ : ∃ q : (List PairD) × (List ResultT) × Int, op_Apply ([]) ([(OpD.mk 2 ([97]) ([49]) ([]) ([]) 0), (OpD.mk 2 ([98]) ([50]) ([]) ([]) 0), (OpD.mk 3 ([97]) ([]) ([]) ([]) 0), (OpD.mk 4 ([]) ([]) ([]) ([]) 2), (OpD.mk 1 ([97]) ([]) ([]) ([]) 0)]) = q := ⟨_, rfl⟩
  obtain ⟨D24, HP25, ro26, bk27, rr28⟩ := Own.enter0 H23
  refine WL.do rfl (Do.call Try.call5 rfl (op_Apply_ok _ _ none 0 0 ([]) A21 5 5 ([(OpD.mk 2 ([97]) ([49]) ([]) ([]) 0), (OpD.mk 2 ([98]) ([50]) ([]) ([]) 0), (OpD.mk 3 ([97]) ([]) ([]) ([]) 0), (OpD.mk 4 ([]) ([]) ([]) ([]) 2), (OpD.mk 1 ([97]) ([]) ([]) ([]) 0)]) r29 r30 r31 HP25 (fun _ _ => Rds.nil _ _ _) rfl (by simp) (rr28 _ 0 _ rfl row_rds) rfl (by simp) (by first | omega | (simp only [List.length_cons, List.length_nil]; done) | (simp only [List.length_cons, List.length_nil, List.length_take, List.length_drop]; omega)) hr32) ?_)
  rintro _ w33 ⟨A36, c37, A38, c39, d40, rfl, HQ34, hd41, hk42, hk43⟩
  have H35 : Own w D w33 [row A36 (List.length r29) c37 (List.flatMap PairD.cells r29) 32 2, row A38 (List.length r30) c39 (List.flatMap ResultD.cells d40) 34 3, sepL (List.flatMap ResultD.own d40), row A21 5 5 (List.flatMap OpD.cells ([(OpD.mk 2 ([97]) ([49]) ([]) ([]) 0), (OpD.mk 2 ([98]) ([50]) ([]) ([]) 0), (OpD.mk 3 ([97]) ([]) ([]) ([]) 0), (OpD.mk 4 ([]) ([]) ([]) ([]) 2), (OpD.mk 1 ([97]) ([]) ([]) ([]) 0)])) 37 6] := bk27 _ _ HQ34
  have hl44 := abs_len hd41
  have hb45 := H35.rowC (i := 0) rfl
  have hb46 := H35.rowC (i := 1) rfl
  replace hk42 : List.length r29 ≤ 0 + 5 := hk42
  replace hk43 : List.length r30 ≤ 5 := hk43
  refine Mv rfl rfl (Kn (v := .slice A36 (List.length r29) c37) rfl rfl rfl (fun _ => by kernel_rfl) (Kn (v := .slice A38 (List.length r30) c39) rfl rfl rfl (fun _ => by kernel_rfl) (Kn (v := .int .i64 r31) rfl rfl rfl (fun _ => by kernel_rfl) (As rfl rfl (As rfl rfl (As rfl rfl (WL.nil (Fin.then (Wp.seq (Wp.region (Mv rfl rfl (Kn (v := .bool (decide (r31 = 0))) rfl rfl rfl (fun _ => by kernel_rfl) (Mv rfl rfl ?_)))))))))))))
  by_cases h47 : r31 = 0
  refine WL.valG (v := .slice A36 (List.length r29) c37) rfl rfl (decide_eq_true h47) rfl (Yl.move rfl) (WL.valG (v := .int .i64 ((List.length r29 : Nat) : Int)) rfl rfl (decide_eq_true h47) rfl (Yl.kern rfl rfl (fun _ => by kernel_rfl)) (WL.valG (v := .bool (decide (((List.length r29 : Nat) : Int) = 1))) rfl rfl (decide_eq_true h47) rfl (Yl.kern rfl rfl (fun _ => by kernel_rfl)) (WL.val (v := .bool (decide (((List.length r29 : Nat) : Int) = 1))) rfl (Yl.pickT rfl (decide_eq_true h47) rfl) (Mv rfl rfl ?_))))
  by_cases h48 : ((List.length r29 : Nat) : Int) = 1
  refine WL.valG (v := .slice A36 (List.length r29) c37) rfl rfl (decide_eq_true h48) rfl (Yl.move rfl) ?_
  obtain ⟨x49, hx50⟩ := rds_at (ls := r29) (i := 0) PairD.len (by decide) (H35.rds (i := 0) rfl) (by first | omega | (simp; done) | (simp; omega))
  refine WL.valG (v := .pointer (some ⟨ab A36, ao A36 + 0 * 2, none⟩)) rfl rfl (decide_eq_true h48) rfl (Yl.indexAddr (El22) rfl rfl ((H35.rds (i := 0) rfl).addr (i := 0) (by omega)) (by omega)) (WL.valG (v := .agg (PairD.cells x49).toArray) rfl rfl (decide_eq_true h48) rfl (Yl.load rfl (Lds.agg (cs := (PairD.cells x49)) Try.isAgg32 Try.sizeOf32 ((H35.rds (i := 0) rfl).elem PairD.len hx50 (by decide)))) (WL.valG (v := .agg #[.string ⟨List.toArray ([98])⟩, .string ⟨List.toArray ([50])⟩]) rfl rfl (decide_eq_true h48) rfl (Yl.kern rfl rfl (fun _ => by kernel_rfl)) (WL.valG (v := .bool (decide ((x49.xKey = ([98])) ∧ (x49.xValue = ([50]))))) rfl rfl (decide_eq_true h48) rfl (Yl.eqAgg rfl rfl (by kernel_rfl) rfl (Eqv.struct Try.underlying32 (by kernel_rfl) (EqF.dec (EqF.cons (u := .string ⟨List.toArray x49.xKey⟩) (v := .string ⟨List.toArray ([98])⟩) (by decide) (fun _ => by kernel_rfl) (fun _ => by kernel_rfl) (Eqv.string Try.underlying9) (EqF.cons (u := .string ⟨List.toArray x49.xValue⟩) (v := .string ⟨List.toArray ([50])⟩) (by decide) (fun _ => by kernel_rfl) (fun _ => by kernel_rfl) (Eqv.string Try.underlying9) (EqF.nil.up (Nat.zero_le _)))) ((congrArg (decide (x49.xKey = ([98])) && ·) and_dec1).trans and_dec)))) (WL.val (v := .bool (decide ((x49.xKey = ([98])) ∧ (x49.xValue = ([50]))))) rfl (Yl.pickT rfl (decide_eq_true h48) rfl) (Mv rfl rfl ?_)))))
  by_cases h51 : (x49.xKey = ([98])) ∧ (x49.xValue = ([50]))
  refine WL.valG (v := .slice A38 (List.length r30) c39) rfl rfl (decide_eq_true h51) rfl (Yl.move rfl) (WL.valG (v := .int .i64 ((List.length r30 : Nat) : Int)) rfl rfl (decide_eq_true h51) rfl (Yl.kern rfl rfl (fun _ => by kernel_rfl)) (WL.valG (v := .bool (decide (((List.length r30 : Nat) : Int) = 5))) rfl rfl (decide_eq_true h51) rfl (Yl.kern rfl rfl (fun _ => by kernel_rfl)) (WL.val (v := .bool (decide (((List.length r30 : Nat) : Int) = 5))) rfl (Yl.pickT rfl (decide_eq_true h51) rfl) (Mv rfl rfl ?_))))
  by_cases h52 : ((List.length r30 : Nat) : Int) = 5
  refine WL.valG (v := .slice A38 (List.length r30) c39) rfl rfl (decide_eq_true h52) rfl (Yl.move rfl) ?_
  obtain ⟨x53, hx54⟩ := rds_at (ls := d40) (i := 3) ResultD.len (by decide) (H35.rds (i := 1) rfl) (by first | omega | (simp; done) | (simp; omega))
  have hX55 := abs_at hd41 hx54
  have hb56 : List.length x53.xPairs.ls ≤ 9223372036854775807 := own_rd H35 (i := 2) rfl (φ := fun _ => _) (sepL_mem (List.mem_flatMap.2 ⟨x53, List.mem_of_getElem? hx54, .head _⟩) row_le)
  refine WL.valG (v := .pointer (some ⟨ab A38, ao A38 + 3 * 3, none⟩)) rfl rfl (decide_eq_true h52) rfl (Yl.indexAddr (El25) rfl rfl ((H35.rds (i := 1) rfl).addr (i := 3) (by omega)) (by omega)) (WL.valG (v := .pointer (some ⟨ab A38, ao A38 + 3 * 3 + 2, none⟩)) rfl rfl (decide_eq_true h52) rfl (Yl.kern rfl rfl (fun _ => by kernel_rfl)) (WL.valG (v := .slice x53.xPairs.A (List.length x53.xPairs.ls) x53.xPairs.c) rfl rfl (decide_eq_true h52) rfl (Yl.load rfl (Lds.one Try.isAgg22 (((H35.rds (i := 1) rfl).elem ResultD.len hx54 (by decide)).at_ (k := 2) rfl))) (WL.valG (v := .int .i64 ((List.length x53.xPairs.ls : Nat) : Int)) rfl rfl (decide_eq_true h52) rfl (Yl.kern rfl rfl (fun _ => by kernel_rfl)) (WL.valG (v := .bool (decide (((List.length x53.xPairs.ls : Nat) : Int) = 1))) rfl rfl (decide_eq_true h52) rfl (Yl.kern rfl rfl (fun _ => by kernel_rfl)) (WL.val (v := .bool (decide (((List.length x53.xPairs.ls : Nat) : Int) = 1))) rfl (Yl.pickT rfl (decide_eq_true h52) rfl) (Mv rfl rfl ?_))))))
  by_cases h57 : ((List.length x53.xPairs.ls : Nat) : Int) = 1
  refine WL.valG (v := .slice A38 (List.length r30) c39) rfl rfl (decide_eq_true h57) rfl (Yl.move rfl) ?_
  obtain ⟨x58, hx59⟩ := rds_at (ls := d40) (i := 4) ResultD.len (by decide) (H35.rds (i := 1) rfl) (by first | omega | (simp; done) | (simp; omega))
  have hX60 := abs_at hd41 hx59
  have hb61 : List.length x58.xPairs.ls ≤ 9223372036854775807 := own_rd H35 (i := 2) rfl (φ := fun _ => _) (sepL_mem (List.mem_flatMap.2 ⟨x58, List.mem_of_getElem? hx59, .head _⟩) row_le)
  refine WL.valG (v := .pointer (some ⟨ab A38, ao A38 + 4 * 3, none⟩)) rfl rfl (decide_eq_true h57) rfl (Yl.indexAddr (El25) rfl rfl ((H35.rds (i := 1) rfl).addr (i := 4) (by omega)) (by omega)) (WL.valG (v := .pointer (some ⟨ab A38, ao A38 + 4 * 3, none⟩)) rfl rfl (decide_eq_true h57) rfl (Yl.kern rfl rfl (fun _ => by kernel_rfl)) (WL.valG (v := .bool x58.xFound) rfl rfl (decide_eq_true h57) rfl (Yl.load rfl (Lds.one Try.isAgg4 (((H35.rds (i := 1) rfl).elem ResultD.len hx59 (by decide)).at_ (k := 0) rfl))) (WL.valG (v := .bool (!x58.xFound)) rfl rfl (decide_eq_true h57) rfl (Yl.kern rfl rfl (fun _ => by kernel_rfl)) (WL.val (v := .bool (!x58.xFound)) rfl (Yl.pickT rfl (decide_eq_true h57) rfl) (Mv rfl rfl ?_)))))
  rcases Bool.eq_false_or_eq_true (x58.xFound) with h62 | h62
  refine Sk rfl rfl (congrArg not h62) rfl (Sk rfl rfl (congrArg not h62) rfl (Sk rfl rfl (congrArg not h62) rfl (WL.val (v := .bool false) rfl (Yl.pickF rfl (congrArg not h62) rfl) (Mv rfl rfl (Sk rfl rfl rfl rfl (Sk rfl rfl rfl rfl (Sk rfl rfl rfl rfl (WL.val (v := .bool false) rfl (Yl.pickF rfl rfl rfl) (Mv rfl rfl (Sk rfl rfl rfl rfl (Sk rfl rfl rfl rfl (Sk rfl rfl rfl rfl (WL.val (v := .bool false) rfl (Yl.pickF rfl rfl rfl) (As rfl rfl (WL.nil (Fin.then (Wp.ret (Fin.res (res1 rfl rfl) ?_))))))))))))))))))
  have H63 : Own w D w33 [] := H35.pick [] (by decide) rfl
  have e : w04_live = false := Eq.trans (bnd_of hr32) (Eq.trans (if_pos h47) (Eq.trans (if_pos h48) (Eq.trans (bnd_of (getD_of hx50)) (Eq.trans (if_pos h51) (Eq.trans (if_pos h52) (Eq.trans (bnd_of (getD_of hX55)) (Eq.trans (if_pos h57) (Eq.trans (bnd_of (getD_of hX60)) (if_pos h62)))))))))
  obtain rfl := e.symm.trans hr
  exact ⟨rfl, H63⟩
  refine WL.valG (v := .agg #[.int .i64 1, .string ⟨List.toArray ([97])⟩, .string ⟨List.toArray ([120])⟩, .string ⟨List.toArray ([])⟩, .string ⟨List.toArray ([])⟩, .int .i64 0]) rfl rfl (congrArg not h62) rfl (Yl.kern rfl rfl (fun _ => by kernel_rfl)) ?_
  obtain ⟨r69, hr70⟩ : ∃ q, op_CheckOp (OpD.mk 1 ([97]) ([120]) ([]) ([]) 0) = q := ⟨_, rfl⟩
  obtain ⟨D64, HP65, ro66, bk67, rr68⟩ := Own.enter0 H35
  refine WL.doG rfl rfl (congrArg not h62) rfl (Do.call Try.call9 rfl (op_CheckOp_ok _ _ (OpD.mk 1 ([97]) ([120]) ([]) ([]) 0) r69 HP65 hr70) ?_)
  rintro _ w71 ⟨rfl, HQ72, hk74⟩
  have H73 : Own w D w71 [row A36 (List.length r29) c37 (List.flatMap PairD.cells r29) 32 2, row A38 (List.length r30) c39 (List.flatMap ResultD.cells d40) 34 3, sepL (List.flatMap ResultD.own d40), row A21 5 5 (List.flatMap OpD.cells ([(OpD.mk 2 ([97]) ([49]) ([]) ([]) 0), (OpD.mk 2 ([98]) ([50]) ([]) ([]) 0), (OpD.mk 3 ([97]) ([]) ([]) ([]) 0), (OpD.mk 4 ([]) ([]) ([]) ([]) 2), (OpD.mk 1 ([97]) ([]) ([]) ([]) 0)])) 37 6] := bk67 _ _ HQ72
  replace hk74 : ¬ (r69 = 0) ∨ (1 ≤ (OpD.mk 1 ([97]) ([120]) ([]) ([]) 0).xKind ∧ (OpD.mk 1 ([97]) ([120]) ([]) ([]) 0).xKind ≤ 5) := hk74
  refine WL.valG (v := .bool (decide (r69 = 40))) rfl rfl (congrArg not h62) rfl (Yl.kern rfl rfl (fun _ => by kernel_rfl)) (WL.val (v := .bool (decide (r69 = 40))) rfl (Yl.pickT rfl (congrArg not h62) rfl) (Mv rfl rfl ?_))
  by_cases h75 : r69 = 40
  refine WL.valG (v := .agg #[.int .i64 4, .string ⟨List.toArray ([])⟩, .string ⟨List.toArray ([])⟩, .string ⟨List.toArray ([])⟩, .string ⟨List.toArray ([])⟩, .int .i64 5]) rfl rfl (decide_eq_true h75) rfl (Yl.kern rfl rfl (fun _ => by kernel_rfl)) ?_
  obtain ⟨r81, hr82⟩ : ∃ q, op_CheckOp (OpD.mk 4 ([]) ([]) ([]) ([]) 5) = q := ⟨_, rfl⟩
  obtain ⟨D76, HP77, ro78, bk79, rr80⟩ := Own.enter0 H73
  refine WL.doG rfl rfl (decide_eq_true h75) rfl (Do.call Try.call9 rfl (op_CheckOp_ok _ _ (OpD.mk 4 ([]) ([]) ([]) ([]) 5) r81 HP77 hr82) ?_)
  rintro _ w83 ⟨rfl, HQ84, hk86⟩
  have H85 : Own w D w83 [row A36 (List.length r29) c37 (List.flatMap PairD.cells r29) 32 2, row A38 (List.length r30) c39 (List.flatMap ResultD.cells d40) 34 3, sepL (List.flatMap ResultD.own d40), row A21 5 5 (List.flatMap OpD.cells ([(OpD.mk 2 ([97]) ([49]) ([]) ([]) 0), (OpD.mk 2 ([98]) ([50]) ([]) ([]) 0), (OpD.mk 3 ([97]) ([]) ([]) ([]) 0), (OpD.mk 4 ([]) ([]) ([]) ([]) 2), (OpD.mk 1 ([97]) ([]) ([]) ([]) 0)])) 37 6] := bk79 _ _ HQ84
  replace hk86 : ¬ (r81 = 0) ∨ (1 ≤ (OpD.mk 4 ([]) ([]) ([]) ([]) 5).xKind ∧ (OpD.mk 4 ([]) ([]) ([]) ([]) 5).xKind ≤ 5) := hk86
  refine WL.valG (v := .bool (decide (r81 = 1))) rfl rfl (decide_eq_true h75) rfl (Yl.kern rfl rfl (fun _ => by kernel_rfl)) (WL.val (v := .bool (decide (r81 = 1))) rfl (Yl.pickT rfl (decide_eq_true h75) rfl) (Mv rfl rfl ?_))
  by_cases h87 : r81 = 1
  refine WL.valG (v := .agg #[.int .i64 5, .string ⟨List.toArray ([])⟩, .string ⟨List.toArray ([])⟩, .string ⟨List.toArray ([98])⟩, .string ⟨List.toArray ([97])⟩, .int .i64 0]) rfl rfl (decide_eq_true h87) rfl (Yl.kern rfl rfl (fun _ => by kernel_rfl)) ?_
  obtain ⟨r93, hr94⟩ : ∃ q, op_CheckOp (OpD.mk 5 ([]) ([]) ([98]) ([97]) 0) = q := ⟨_, rfl⟩
  obtain ⟨D88, HP89, ro90, bk91, rr92⟩ := Own.enter0 H85
  refine WL.doG rfl rfl (decide_eq_true h87) rfl (Do.call Try.call9 rfl (op_CheckOp_ok _ _ (OpD.mk 5 ([]) ([]) ([98]) ([97]) 0) r93 HP89 hr94) ?_)
  rintro _ w95 ⟨rfl, HQ96, hk98⟩
  have H97 : Own w D w95 [row A36 (List.length r29) c37 (List.flatMap PairD.cells r29) 32 2, row A38 (List.length r30) c39 (List.flatMap ResultD.cells d40) 34 3, sepL (List.flatMap ResultD.own d40), row A21 5 5 (List.flatMap OpD.cells ([(OpD.mk 2 ([97]) ([49]) ([]) ([]) 0), (OpD.mk 2 ([98]) ([50]) ([]) ([]) 0), (OpD.mk 3 ([97]) ([]) ([]) ([]) 0), (OpD.mk 4 ([]) ([]) ([]) ([]) 2), (OpD.mk 1 ([97]) ([]) ([]) ([]) 0)])) 37 6] := bk91 _ _ HQ96
  replace hk98 : ¬ (r93 = 0) ∨ (1 ≤ (OpD.mk 5 ([]) ([]) ([98]) ([97]) 0).xKind ∧ (OpD.mk 5 ([]) ([]) ([98]) ([97]) 0).xKind ≤ 5) := hk98
  refine WL.valG (v := .bool (decide (r93 = 21))) rfl rfl (decide_eq_true h87) rfl (Yl.kern rfl rfl (fun _ => by kernel_rfl)) (WL.val (v := .bool (decide (r93 = 21))) rfl (Yl.pickT rfl (decide_eq_true h87) rfl) (As rfl rfl (WL.nil (Fin.then (Wp.ret (Fin.res (res1 rfl rfl) ?_))))))
  have H99 : Own w D w95 [] := H97.pick [] (by decide) rfl
  have e : w04_live = decide (r93 = 21) := Eq.trans (bnd_of hr32) (Eq.trans (if_pos h47) (Eq.trans (if_pos h48) (Eq.trans (bnd_of (getD_of hx50)) (Eq.trans (if_pos h51) (Eq.trans (if_pos h52) (Eq.trans (bnd_of (getD_of hX55)) (Eq.trans (if_pos h57) (Eq.trans (bnd_of (getD_of hX60)) (Eq.trans (ifF h62) (Eq.trans (bnd_of hr70) (Eq.trans (if_pos h75) (Eq.trans (bnd_of hr82) (Eq.trans (if_pos h87) (bnd_of hr94))))))))))))))
  obtain rfl := e.symm.trans hr
  exact ⟨rfl, H99⟩
  refine Sk rfl rfl (decide_eq_false h87) rfl (Sk rfl rfl (decide_eq_false h87) rfl (Sk rfl rfl (decide_eq_false h87) rfl (WL.val (v := .bool false) rfl (Yl.pickF rfl (decide_eq_false h87) rfl) (As rfl rfl (WL.nil (Fin.then (Wp.ret (Fin.res (res1 rfl rfl) ?_))))))))
  have H100 : Own w D w83 [] := H85.pick [] (by decide) rfl
  have e : w04_live = false := Eq.trans (bnd_of hr32) (Eq.trans (if_pos h47) (Eq.trans (if_pos h48) (Eq.trans (bnd_of (getD_of hx50)) (Eq.trans (if_pos h51) (Eq.trans (if_pos h52) (Eq.trans (bnd_of (getD_of hX55)) (Eq.trans (if_pos h57) (Eq.trans (bnd_of (getD_of hX60)) (Eq.trans (ifF h62) (Eq.trans (bnd_of hr70) (Eq.trans (if_pos h75) (Eq.trans (bnd_of hr82) (if_neg h87)))))))))))))
  obtain rfl := e.symm.trans hr
  exact ⟨rfl, H100⟩
  refine Sk rfl rfl (decide_eq_false h75) rfl (Sk rfl rfl (decide_eq_false h75) rfl (Sk rfl rfl (decide_eq_false h75) rfl (WL.val (v := .bool false) rfl (Yl.pickF rfl (decide_eq_false h75) rfl) (Mv rfl rfl (Sk rfl rfl rfl rfl (Sk rfl rfl rfl rfl (Sk rfl rfl rfl rfl (WL.val (v := .bool false) rfl (Yl.pickF rfl rfl rfl) (As rfl rfl (WL.nil (Fin.then (Wp.ret (Fin.res (res1 rfl rfl) ?_)))))))))))))
  have H101 : Own w D w71 [] := H73.pick [] (by decide) rfl
  have e : w04_live = false := Eq.trans (bnd_of hr32) (Eq.trans (if_pos h47) (Eq.trans (if_pos h48) (Eq.trans (bnd_of (getD_of hx50)) (Eq.trans (if_pos h51) (Eq.trans (if_pos h52) (Eq.trans (bnd_of (getD_of hX55)) (Eq.trans (if_pos h57) (Eq.trans (bnd_of (getD_of hX60)) (Eq.trans (ifF h62) (Eq.trans (bnd_of hr70) (if_neg h75)))))))))))
  obtain rfl := e.symm.trans hr
  exact ⟨rfl, H101⟩
  refine Sk rfl rfl (decide_eq_false h57) rfl (Sk rfl rfl (decide_eq_false h57) rfl (Sk rfl rfl (decide_eq_false h57) rfl (Sk rfl rfl (decide_eq_false h57) rfl (Sk rfl rfl (decide_eq_false h57) rfl (WL.val (v := .bool false) rfl (Yl.pickF rfl (decide_eq_false h57) rfl) (Mv rfl rfl (Sk rfl rfl rfl rfl (Sk rfl rfl rfl rfl (Sk rfl rfl rfl rfl (WL.val (v := .bool false) rfl (Yl.pickF rfl rfl rfl) (Mv rfl rfl (Sk rfl rfl rfl rfl (Sk rfl rfl rfl rfl (Sk rfl rfl rfl rfl (WL.val (v := .bool false) rfl (Yl.pickF rfl rfl rfl) (Mv rfl rfl (Sk rfl rfl rfl rfl (Sk rfl rfl rfl rfl (Sk rfl rfl rfl rfl (WL.val (v := .bool false) rfl (Yl.pickF rfl rfl rfl) (As rfl rfl (WL.nil (Fin.then (Wp.ret (Fin.res (res1 rfl rfl) ?_)))))))))))))))))))))))))
  have H102 : Own w D w33 [] := H35.pick [] (by decide) rfl
  have e : w04_live = false := Eq.trans (bnd_of hr32) (Eq.trans (if_pos h47) (Eq.trans (if_pos h48) (Eq.trans (bnd_of (getD_of hx50)) (Eq.trans (if_pos h51) (Eq.trans (if_pos h52) (Eq.trans (bnd_of (getD_of hX55)) (if_neg h57)))))))
  obtain rfl := e.symm.trans hr
  exact ⟨rfl, H102⟩
  refine Sk rfl rfl (decide_eq_false h52) rfl (Sk rfl rfl (decide_eq_false h52) rfl (Sk rfl rfl (decide_eq_false h52) rfl (Sk rfl rfl (decide_eq_false h52) rfl (Sk rfl rfl (decide_eq_false h52) rfl (Sk rfl rfl (decide_eq_false h52) rfl (WL.val (v := .bool false) rfl (Yl.pickF rfl (decide_eq_false h52) rfl) (Mv rfl rfl (Sk rfl rfl rfl rfl (Sk rfl rfl rfl rfl (Sk rfl rfl rfl rfl (Sk rfl rfl rfl rfl (Sk rfl rfl rfl rfl (WL.val (v := .bool false) rfl (Yl.pickF rfl rfl rfl) (Mv rfl rfl (Sk rfl rfl rfl rfl (Sk rfl rfl rfl rfl (Sk rfl rfl rfl rfl (WL.val (v := .bool false) rfl (Yl.pickF rfl rfl rfl) (Mv rfl rfl (Sk rfl rfl rfl rfl (Sk rfl rfl rfl rfl (Sk rfl rfl rfl rfl (WL.val (v := .bool false) rfl (Yl.pickF rfl rfl rfl) (Mv rfl rfl (Sk rfl rfl rfl rfl (Sk rfl rfl rfl rfl (Sk rfl rfl rfl rfl (WL.val (v := .bool false) rfl (Yl.pickF rfl rfl rfl) (As rfl rfl (WL.nil (Fin.then (Wp.ret (Fin.res (res1 rfl rfl) ?_)))))))))))))))))))))))))))))))))
  have H103 : Own w D w33 [] := H35.pick [] (by decide) rfl
  have e : w04_live = false := Eq.trans (bnd_of hr32) (Eq.trans (if_pos h47) (Eq.trans (if_pos h48) (Eq.trans (bnd_of (getD_of hx50)) (Eq.trans (if_pos h51) (if_neg h52)))))
  obtain rfl := e.symm.trans hr
  exact ⟨rfl, H103⟩
  refine Sk rfl rfl (decide_eq_false h51) rfl (Sk rfl rfl (decide_eq_false h51) rfl (Sk rfl rfl (decide_eq_false h51) rfl (WL.val (v := .bool false) rfl (Yl.pickF rfl (decide_eq_false h51) rfl) (Mv rfl rfl (Sk rfl rfl rfl rfl (Sk rfl rfl rfl rfl (Sk rfl rfl rfl rfl (Sk rfl rfl rfl rfl (Sk rfl rfl rfl rfl (Sk rfl rfl rfl rfl (WL.val (v := .bool false) rfl (Yl.pickF rfl rfl rfl) (Mv rfl rfl (Sk rfl rfl rfl rfl (Sk rfl rfl rfl rfl (Sk rfl rfl rfl rfl (Sk rfl rfl rfl rfl (Sk rfl rfl rfl rfl (WL.val (v := .bool false) rfl (Yl.pickF rfl rfl rfl) (Mv rfl rfl (Sk rfl rfl rfl rfl (Sk rfl rfl rfl rfl (Sk rfl rfl rfl rfl (WL.val (v := .bool false) rfl (Yl.pickF rfl rfl rfl) (Mv rfl rfl (Sk rfl rfl rfl rfl (Sk rfl rfl rfl rfl (Sk rfl rfl rfl rfl (WL.val (v := .bool false) rfl (Yl.pickF rfl rfl rfl) (Mv rfl rfl (Sk rfl rfl rfl rfl (Sk rfl rfl rfl rfl (Sk rfl rfl rfl rfl (WL.val (v := .bool false) rfl (Yl.pickF rfl rfl rfl) (As rfl rfl (WL.nil (Fin.then (Wp.ret (Fin.res (res1 rfl rfl) ?_))))))))))))))))))))))))))))))))))))))
  have H104 : Own w D w33 [] := H35.pick [] (by decide) rfl
  have e : w04_live = false := Eq.trans (bnd_of hr32) (Eq.trans (if_pos h47) (Eq.trans (if_pos h48) (Eq.trans (bnd_of (getD_of hx50)) (if_neg h51))))
  obtain rfl := e.symm.trans hr
  exact ⟨rfl, H104⟩
  refine Sk rfl rfl (decide_eq_false h48) rfl (Sk rfl rfl (decide_eq_false h48) rfl (Sk rfl rfl (decide_eq_false h48) rfl (Sk rfl rfl (decide_eq_false h48) rfl (Sk rfl rfl (decide_eq_false h48) rfl (WL.val (v := .bool false) rfl (Yl.pickF rfl (decide_eq_false h48) rfl) (Mv rfl rfl (Sk rfl rfl rfl rfl (Sk rfl rfl rfl rfl (Sk rfl rfl rfl rfl (WL.val (v := .bool false) rfl (Yl.pickF rfl rfl rfl) (Mv rfl rfl (Sk rfl rfl rfl rfl (Sk rfl rfl rfl rfl (Sk rfl rfl rfl rfl (Sk rfl rfl rfl rfl (Sk rfl rfl rfl rfl (Sk rfl rfl rfl rfl (WL.val (v := .bool false) rfl (Yl.pickF rfl rfl rfl) (Mv rfl rfl (Sk rfl rfl rfl rfl (Sk rfl rfl rfl rfl (Sk rfl rfl rfl rfl (Sk rfl rfl rfl rfl (Sk rfl rfl rfl rfl (WL.val (v := .bool false) rfl (Yl.pickF rfl rfl rfl) (Mv rfl rfl (Sk rfl rfl rfl rfl (Sk rfl rfl rfl rfl (Sk rfl rfl rfl rfl (WL.val (v := .bool false) rfl (Yl.pickF rfl rfl rfl) (Mv rfl rfl (Sk rfl rfl rfl rfl (Sk rfl rfl rfl rfl (Sk rfl rfl rfl rfl (WL.val (v := .bool false) rfl (Yl.pickF rfl rfl rfl) (Mv rfl rfl (Sk rfl rfl rfl rfl (Sk rfl rfl rfl rfl (Sk rfl rfl rfl rfl ?_)))))))))))))))))))))))))))))))))))))))
  refine WL.val (v := .bool false) rfl (Yl.pickF rfl rfl rfl) (As rfl rfl (WL.nil (Fin.then (Wp.ret (Fin.res (res1 rfl rfl) ?_)))))
  have H105 : Own w D w33 [] := H35.pick [] (by decide) rfl
  have e : w04_live = false := Eq.trans (bnd_of hr32) (Eq.trans (if_pos h47) (if_neg h48))
  obtain rfl := e.symm.trans hr
  exact ⟨rfl, H105⟩
  refine Sk rfl rfl (decide_eq_false h47) rfl (Sk rfl rfl (decide_eq_false h47) rfl (Sk rfl rfl (decide_eq_false h47) rfl (WL.val (v := .bool false) rfl (Yl.pickF rfl (decide_eq_false h47) rfl) (Mv rfl rfl (Sk rfl rfl rfl rfl (Sk rfl rfl rfl rfl (Sk rfl rfl rfl rfl (Sk rfl rfl rfl rfl (Sk rfl rfl rfl rfl (WL.val (v := .bool false) rfl (Yl.pickF rfl rfl rfl) (Mv rfl rfl (Sk rfl rfl rfl rfl (Sk rfl rfl rfl rfl (Sk rfl rfl rfl rfl (WL.val (v := .bool false) rfl (Yl.pickF rfl rfl rfl) (Mv rfl rfl (Sk rfl rfl rfl rfl (Sk rfl rfl rfl rfl (Sk rfl rfl rfl rfl (Sk rfl rfl rfl rfl (Sk rfl rfl rfl rfl (Sk rfl rfl rfl rfl (WL.val (v := .bool false) rfl (Yl.pickF rfl rfl rfl) (Mv rfl rfl (Sk rfl rfl rfl rfl (Sk rfl rfl rfl rfl (Sk rfl rfl rfl rfl (Sk rfl rfl rfl rfl (Sk rfl rfl rfl rfl (WL.val (v := .bool false) rfl (Yl.pickF rfl rfl rfl) (Mv rfl rfl (Sk rfl rfl rfl rfl (Sk rfl rfl rfl rfl (Sk rfl rfl rfl rfl (WL.val (v := .bool false) rfl (Yl.pickF rfl rfl rfl) (Mv rfl rfl (Sk rfl rfl rfl rfl (Sk rfl rfl rfl rfl (Sk rfl rfl rfl rfl ?_)))))))))))))))))))))))))))))))))))))))
  refine WL.val (v := .bool false) rfl (Yl.pickF rfl rfl rfl) (Mv rfl rfl (Sk rfl rfl rfl rfl (Sk rfl rfl rfl rfl (Sk rfl rfl rfl rfl (WL.val (v := .bool false) rfl (Yl.pickF rfl rfl rfl) (As rfl rfl (WL.nil (Fin.then (Wp.ret (Fin.res (res1 rfl rfl) ?_))))))))))
  have H106 : Own w D w33 [] := H35.pick [] (by decide) rfl
  have e : w04_live = false := Eq.trans (bnd_of hr32) (if_neg h47)
  obtain rfl := e.symm.trans hr
  exact ⟨rfl, H106⟩
end Go.Proofs.Ytjaoojlgeghpmaa
