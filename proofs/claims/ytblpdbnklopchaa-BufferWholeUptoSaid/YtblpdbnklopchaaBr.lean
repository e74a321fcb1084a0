/-
  buffer: the document's answers.
-/
import Derived.Test.YtblpdbnklopchaaBd
namespace Go.Proofs.Ytblpdbnklopchaa
open Go.RowKit
set_option linter.unusedVariables false
set_option linter.unusedSectionVars false
set_option linter.unusedSimpArgs false

def r02_CheckKey (p0 : List UInt8) : Int :=
  if ((p0.length : Nat) : Int) < 1 then 20 else if ((p0.length : Nat) : Int) > 12 then 20 else 0

set_option maxRecDepth 100000 in
theorem r02_CheckKey_ok (w : World) (D : Nat → Prop) (p0 : List UInt8) (r0 : Int) (H : Own w D w [])  (hr : r02_CheckKey p0 = r0) :
    Calls Try.prog 17 #[.string ⟨List.toArray p0⟩] w (Ret fun v w' => v = .int .i64 r0 ∧ Own w D w' [] ∧ (¬ (r0 = 0) ∨ (1 ≤ p0.length ∧ p0.length ≤ 12))) := by
  refine Calls.body (args := [.string ⟨List.toArray p0⟩]) Try.func17 rfl rfl rfl ?_
  show Wp _ _ _ [(0, .string ⟨List.toArray p0⟩)] _ _
  refine Wp.seq (Wp.region (As rfl rfl (WL.nil (Fin.then (Wp.seq (Wp.seq (Wp.region (Mv rfl rfl (Kn (v := .int .i64 ((p0.length : Nat) : Int)) rfl rfl rfl (fun _ => by kernel_rfl) (Kn (v := .bool (decide (((p0.length : Nat) : Int) < 1))) rfl rfl rfl (fun _ => by kernel_rfl) (Mv rfl rfl ?_)))))))))))
  by_cases h21 : ((p0.length : Nat) : Int) < 1
  refine Sk rfl rfl (decide_eq_true h21) rfl (Sk rfl rfl (decide_eq_true h21) rfl (Sk rfl rfl (decide_eq_true h21) rfl (WL.val (v := .bool true) rfl (Yl.pickT rfl (decide_eq_true h21) rfl) (WL.nil (Fin.then (Wp.cond1 rfl rfl (Wp.seq (Wp.region (As rfl rfl (WL.nil (Fin.then (Wp.ret (Fin.thenR (Fin.res (res1 rfl rfl) ?_))))))))))))))
  have H22 : Own w D w [] := H.pick [] (by decide) rfl
  have e : r02_CheckKey p0 = 20 := if_pos h21
  obtain rfl := e.symm.trans hr
  exact ⟨rfl, H22, (by omega)⟩
  refine WL.valG (v := .string ⟨List.toArray p0⟩) rfl rfl (decide_eq_false h21) rfl (Yl.move rfl) (WL.valG (v := .int .i64 ((p0.length : Nat) : Int)) rfl rfl (decide_eq_false h21) rfl (Yl.kern rfl rfl (fun _ => by kernel_rfl)) (WL.valG (v := .bool (decide (((p0.length : Nat) : Int) > 12))) rfl rfl (decide_eq_false h21) rfl (Yl.kern rfl rfl (fun _ => by kernel_rfl)) (WL.val (v := .bool (decide (((p0.length : Nat) : Int) > 12))) rfl (Yl.pickF rfl (decide_eq_false h21) rfl) (WL.nil (Fin.then ?_)))))
  by_cases h23 : ((p0.length : Nat) : Int) > 12
  refine Wp.cond1 rfl (decide_eq_true h23) (Wp.seq (Wp.region (As rfl rfl (WL.nil (Fin.then (Wp.ret (Fin.thenR (Fin.res (res1 rfl rfl) ?_))))))))
  have H24 : Own w D w [] := H.pick [] (by decide) rfl
  have e : r02_CheckKey p0 = 20 := Eq.trans (if_neg h21) (if_pos h23)
  obtain rfl := e.symm.trans hr
  exact ⟨rfl, H24, (by omega)⟩
  refine Wp.cond0 rfl (decide_eq_false h23) (Wp.skip (Fin.then (Wp.seq (Wp.region (As rfl rfl (WL.nil (Fin.then (Wp.ret (Fin.res (res1 rfl rfl) ?_)))))))))
  have H25 : Own w D w [] := H.pick [] (by decide) rfl
  have e : r02_CheckKey p0 = 0 := Eq.trans (if_neg h21) (if_neg h23)
  obtain rfl := e.symm.trans hr
  exact ⟨rfl, H25, (by omega)⟩

def r02_Check (p0 : RangeD) : Int :=
  if ((p0.xLo.length : Nat) : Int) > 12 then 21 else if ((p0.xHi.length : Nat) : Int) > 12 then 21 else if p0.xHi ≠ ([]) then if p0.xHi ≤ p0.xLo then 21 else 0 else 0

set_option maxRecDepth 100000 in
theorem r02_Check_ok (w : World) (D : Nat → Prop) (p0 : RangeD) (r0 : Int) (H : Own w D w [])  (hr : r02_Check p0 = r0) :
    Calls Try.prog 47 #[.agg (RangeD.cells p0).toArray] w (Ret fun v w' => v = .int .i64 r0 ∧ Own w D w' []) := by
  refine Calls.body (args := [.agg (RangeD.cells p0).toArray]) Try.func47 rfl rfl rfl ?_
  show Wp _ _ _ [(0, .agg (RangeD.cells p0).toArray)] _ _
  refine Wp.seq (Wp.region ?_)
  refine WL.do rfl (Do.newP (cs := (RangeD.cells p0)) (t := 38) H rfl rfl (fun _ => by kernel_rfl) ?_)
  intro g21 w22 H23
  refine As rfl rfl (WL.nil (Fin.then (Wp.seq (Wp.seq (Wp.region (Kn (v := .pointer (some ⟨g21, 0, none⟩)) rfl rfl rfl (fun _ => by kernel_rfl) (WL.val (v := .string ⟨List.toArray p0.xLo⟩) rfl (Yl.load rfl (Lds.one Try.isAgg9 (Cls.of (H23.cls (i := 0) rfl) rfl))) (Kn (v := .int .i64 ((p0.xLo.length : Nat) : Int)) rfl rfl rfl (fun _ => by kernel_rfl) (Kn (v := .bool (decide (((p0.xLo.length : Nat) : Int) > 12))) rfl rfl rfl (fun _ => by kernel_rfl) (Mv rfl rfl ?_))))))))))
  by_cases h24 : ((p0.xLo.length : Nat) : Int) > 12
  refine Sk rfl rfl (decide_eq_true h24) rfl (Sk rfl rfl (decide_eq_true h24) rfl (Sk rfl rfl (decide_eq_true h24) rfl (Sk rfl rfl (decide_eq_true h24) rfl (WL.val (v := .bool true) rfl (Yl.pickT rfl (decide_eq_true h24) rfl) (Mv rfl rfl (Sk rfl rfl rfl rfl (Sk rfl rfl rfl rfl (Sk rfl rfl rfl rfl (Sk rfl rfl rfl rfl (WL.skipU rfl rfl rfl (WL.skipU rfl rfl rfl (WL.skipU rfl rfl rfl (WL.skipU rfl rfl rfl (WL.skipU rfl rfl rfl (Sk rfl rfl rfl rfl (WL.val (v := .bool true) rfl (Yl.pickT rfl rfl rfl) (WL.nil (Fin.then (Wp.cond1 rfl rfl (Wp.seq (Wp.region (As rfl rfl (WL.nil (Fin.then (Wp.ret (Fin.thenR (Fin.res (res1 rfl rfl) ?_)))))))))))))))))))))))))))
  have H25 := H23.pick [] (by decide) rfl
  have e : r02_Check p0 = 21 := if_pos h24
  obtain rfl := e.symm.trans hr
  exact ⟨rfl, H25⟩
  refine WL.valG (v := .pointer (some ⟨g21, 1, none⟩)) rfl rfl (decide_eq_false h24) rfl (Yl.kern rfl rfl (fun _ => by kernel_rfl)) (WL.valG (v := .string ⟨List.toArray p0.xHi⟩) rfl rfl (decide_eq_false h24) rfl (Yl.load rfl (Lds.one Try.isAgg9 (Cls.of (H23.cls (i := 0) rfl) rfl))) (WL.valG (v := .int .i64 ((p0.xHi.length : Nat) : Int)) rfl rfl (decide_eq_false h24) rfl (Yl.kern rfl rfl (fun _ => by kernel_rfl)) (WL.valG (v := .bool (decide (((p0.xHi.length : Nat) : Int) > 12))) rfl rfl (decide_eq_false h24) rfl (Yl.kern rfl rfl (fun _ => by kernel_rfl)) (WL.val (v := .bool (decide (((p0.xHi.length : Nat) : Int) > 12))) rfl (Yl.pickF rfl (decide_eq_false h24) rfl) (Mv rfl rfl ?_)))))
  by_cases h26 : ((p0.xHi.length : Nat) : Int) > 12
  refine Sk rfl rfl (decide_eq_true h26) rfl (Sk rfl rfl (decide_eq_true h26) rfl (Sk rfl rfl (decide_eq_true h26) rfl (Sk rfl rfl (decide_eq_true h26) rfl (WL.skipU rfl rfl rfl (WL.skipU rfl rfl rfl (WL.skipU rfl rfl rfl (WL.skipU rfl rfl rfl (WL.skipU rfl rfl rfl (Sk rfl rfl (decide_eq_true h26) rfl (WL.val (v := .bool true) rfl (Yl.pickT rfl (decide_eq_true h26) rfl) (WL.nil (Fin.then (Wp.cond1 rfl rfl (Wp.seq (Wp.region (As rfl rfl (WL.nil (Fin.then (Wp.ret (Fin.thenR (Fin.res (res1 rfl rfl) ?_)))))))))))))))))))))
  have H27 := H23.pick [] (by decide) rfl
  have e : r02_Check p0 = 21 := Eq.trans (if_neg h24) (if_pos h26)
  obtain rfl := e.symm.trans hr
  exact ⟨rfl, H27⟩
  refine WL.valG (v := .pointer (some ⟨g21, 1, none⟩)) rfl rfl (decide_eq_false h26) rfl (Yl.kern rfl rfl (fun _ => by kernel_rfl)) (WL.valG (v := .string ⟨List.toArray p0.xHi⟩) rfl rfl (decide_eq_false h26) rfl (Yl.load rfl (Lds.one Try.isAgg9 (Cls.of (H23.cls (i := 0) rfl) rfl))) (WL.valG (v := .bool (decide (p0.xHi ≠ ([])))) rfl rfl (decide_eq_false h26) rfl (Yl.strNe rfl rfl) (WL.valG (v := .bool (decide (p0.xHi ≠ ([])))) rfl rfl (decide_eq_false h26) rfl (Yl.move rfl) ?_)))
  by_cases h28 : p0.xHi ≠ ([])
  refine WL.valG (v := .pointer (some ⟨g21, 0, none⟩)) rfl rfl (decide_eq_true h28) rfl (Yl.kern rfl rfl (fun _ => by kernel_rfl)) (WL.valG (v := .string ⟨List.toArray p0.xLo⟩) rfl rfl (decide_eq_true h28) rfl (Yl.load rfl (Lds.one Try.isAgg9 (Cls.of (H23.cls (i := 0) rfl) rfl))) (WL.valG (v := .pointer (some ⟨g21, 1, none⟩)) rfl rfl (decide_eq_true h28) rfl (Yl.kern rfl rfl (fun _ => by kernel_rfl)) (WL.valG (v := .string ⟨List.toArray p0.xHi⟩) rfl rfl (decide_eq_true h28) rfl (Yl.load rfl (Lds.one Try.isAgg9 (Cls.of (H23.cls (i := 0) rfl) rfl))) (WL.valG (v := .bool (decide (p0.xHi ≤ p0.xLo))) rfl rfl (decide_eq_true h28) rfl (Yl.bool (e := !(Op.bytesLess p0.xLo p0.xHi)) (Yl.strGe rfl rfl) (bl_ge _ _)) (WL.valG (v := .bool (decide (p0.xHi ≤ p0.xLo))) rfl rfl (decide_eq_false h26) rfl (Yl.pickT rfl (decide_eq_true h28) rfl) (WL.val (v := .bool (decide (p0.xHi ≤ p0.xLo))) rfl (Yl.pickF rfl (decide_eq_false h26) rfl) (WL.nil (Fin.then ?_))))))))
  by_cases h29 : p0.xHi ≤ p0.xLo
  refine Wp.cond1 rfl (decide_eq_true h29) (Wp.seq (Wp.region (As rfl rfl (WL.nil (Fin.then (Wp.ret (Fin.thenR (Fin.res (res1 rfl rfl) ?_))))))))
  have H30 := H23.pick [] (by decide) rfl
  have e : r02_Check p0 = 21 := Eq.trans (if_neg h24) (Eq.trans (if_neg h26) (Eq.trans (if_pos h28) (if_pos h29)))
  obtain rfl := e.symm.trans hr
  exact ⟨rfl, H30⟩
  refine Wp.cond0 rfl (decide_eq_false h29) (Wp.skip (Fin.then (Wp.seq (Wp.region (As rfl rfl (WL.nil (Fin.then (Wp.ret (Fin.res (res1 rfl rfl) ?_)))))))))
  have H31 := H23.pick [] (by decide) rfl
  have e : r02_Check p0 = 0 := Eq.trans (if_neg h24) (Eq.trans (if_neg h26) (Eq.trans (if_pos h28) (if_neg h29)))
  obtain rfl := e.symm.trans hr
  exact ⟨rfl, H31⟩
  refine Sk rfl rfl (decide_eq_false h28) rfl (Sk rfl rfl (decide_eq_false h28) rfl (Sk rfl rfl (decide_eq_false h28) rfl (Sk rfl rfl (decide_eq_false h28) rfl (Sk rfl rfl (decide_eq_false h28) rfl (WL.valG (v := .bool false) rfl rfl (decide_eq_false h26) rfl (Yl.pickF rfl (decide_eq_false h28) rfl) (WL.val (v := .bool false) rfl (Yl.pickF rfl (decide_eq_false h26) rfl) (WL.nil (Fin.then (Wp.cond0 rfl rfl (Wp.skip (Fin.then (Wp.seq (Wp.region (As rfl rfl (WL.nil (Fin.then (Wp.ret (Fin.res (res1 rfl rfl) ?_))))))))))))))))))
  have H32 := H23.pick [] (by decide) rfl
  have e : r02_Check p0 = 0 := Eq.trans (if_neg h24) (Eq.trans (if_neg h26) (if_neg h28))
  obtain rfl := e.symm.trans hr
  exact ⟨rfl, H32⟩

def r04_CheckOp (p0 : OpD) : Int :=
  if p0.xKind = 1 then if p0.xLo ≠ ([]) then 40 else if p0.xHi ≠ ([]) then 40 else if p0.xValue ≠ ([]) then 40 else if p0.xMost = 0 then bnd (r02_CheckKey p0.xKey) fun yr41 => if yr41 = 0 then if ((p0.xValue.length : Nat) : Int) > 16 then 2 else 0 else 20 else 40 else if p0.xKind = 2 then if p0.xLo ≠ ([]) then 40 else if p0.xHi ≠ ([]) then 40 else if p0.xMost = 0 then bnd (r02_CheckKey p0.xKey) fun yr68 => if yr68 = 0 then if ((p0.xValue.length : Nat) : Int) > 16 then 2 else 0 else 20 else 40 else if p0.xKind = 4 then if p0.xKey ≠ ([]) then 40 else if p0.xValue ≠ ([]) then 40 else if ((p0.xValue.length : Nat) : Int) > 16 then 2 else bnd (r02_Check (RangeD.mk p0.xLo p0.xHi)) fun yr96 => if yr96 = 0 then if p0.xMost < 1 then 1 else if p0.xMost > 4 then 1 else 0 else 21 else if p0.xKind = 3 then if p0.xLo ≠ ([]) then 40 else if p0.xHi ≠ ([]) then 40 else if p0.xValue ≠ ([]) then 40 else if p0.xMost = 0 then bnd (r02_CheckKey p0.xKey) fun yr124 => if yr124 = 0 then if ((p0.xValue.length : Nat) : Int) > 16 then 2 else 0 else 20 else 40 else if p0.xKind = 5 then if p0.xKey ≠ ([]) then 40 else if p0.xValue ≠ ([]) then 40 else if p0.xMost = 0 then if ((p0.xValue.length : Nat) : Int) > 16 then 2 else bnd (r02_Check (RangeD.mk p0.xLo p0.xHi)) fun yr151 => if yr151 = 0 then 0 else 21 else 40 else 40

set_option maxRecDepth 100000 in
theorem r04_CheckOp_ok (w : World) (D : Nat → Prop) (p0 : OpD) (r0 : Int) (H : Own w D w [])  (hr : r04_CheckOp p0 = r0) :
    Calls Try.prog 29 #[.agg (OpD.cells p0).toArray] w (Ret fun v w' => v = .int .i64 r0 ∧ Own w D w' [] ∧ (¬ (r0 = 0) ∨ (1 ≤ p0.xKind ∧ p0.xKind ≤ 5))) := by
  refine Calls.body (args := [.agg (OpD.cells p0).toArray]) Try.func29 rfl rfl rfl ?_
  show Wp _ _ _ [(0, .agg (OpD.cells p0).toArray)] _ _
  refine Wp.seq (Wp.region ?_)
  refine WL.do rfl (Do.newP (cs := (OpD.cells p0)) (t := 50) H rfl rfl (fun _ => by kernel_rfl) ?_)
  intro g21 w22 H23
  refine As rfl rfl (WL.nil (Fin.then (Wp.seq (Wp.region (Kn (v := .pointer (some ⟨g21, 0, none⟩)) rfl rfl rfl (fun _ => by kernel_rfl) (WL.val (v := .int .i64 p0.xKind) rfl (Yl.load rfl (Lds.one Try.isAgg3 (Cls.of (H23.cls (i := 0) rfl) rfl))) (Kn (v := .bool (decide (p0.xKind = 1))) rfl rfl rfl (fun _ => by kernel_rfl) (Mv rfl rfl ?_))))))))
  by_cases h24 : p0.xKind = 1
  refine Sk rfl rfl (decide_eq_true h24) rfl (Sk rfl rfl (decide_eq_true h24) rfl (Sk rfl rfl (decide_eq_true h24) rfl (WL.val (v := .bool true) rfl (Yl.pickT rfl (decide_eq_true h24) rfl) (Mv rfl rfl (Sk rfl rfl rfl rfl (Sk rfl rfl rfl rfl (Sk rfl rfl rfl rfl (WL.val (v := .bool true) rfl (Yl.pickT rfl rfl rfl) (As rfl rfl (WL.nil (Fin.then (Wp.seq (Wp.region (Kn (v := .pointer (some ⟨g21, 0, none⟩)) rfl rfl rfl (fun _ => by kernel_rfl) (WL.val (v := .int .i64 p0.xKind) rfl (Yl.load rfl (Lds.one Try.isAgg3 (Cls.of (H23.cls (i := 0) rfl) rfl))) (Kn (v := .bool (decide (p0.xKind = 4))) rfl rfl rfl (fun _ => by kernel_rfl) (Mv rfl rfl ?_)))))))))))))))))
  have hb25 : (decide (p0.xKind = 4)) = false := (decide_eq_false (by omega))
  refine WL.valG (v := .pointer (some ⟨g21, 0, none⟩)) rfl rfl hb25 rfl (Yl.kern rfl rfl (fun _ => by kernel_rfl)) (WL.valG (v := .int .i64 p0.xKind) rfl rfl hb25 rfl (Yl.load rfl (Lds.one Try.isAgg3 (Cls.of (H23.cls (i := 0) rfl) rfl))) (WL.valG (v := .bool (decide (p0.xKind = 5))) rfl rfl hb25 rfl (Yl.kern rfl rfl (fun _ => by kernel_rfl)) (WL.val (v := .bool (decide (p0.xKind = 5))) rfl (Yl.pickF rfl hb25 rfl) (As rfl rfl (WL.nil (Fin.then (Wp.seq (Wp.seq (Wp.region (Mv rfl rfl (Kn (v := .bool false) rfl rfl rfl (fun _ => by kernel_rfl) (Mv rfl rfl (Sk rfl rfl rfl rfl (Sk rfl rfl rfl rfl (WL.val (v := .bool false) rfl (Yl.pickF rfl rfl rfl) (Mv rfl rfl (WL.valG (v := .bool true) rfl rfl rfl rfl (Yl.move rfl) (WL.valG (v := .bool true) rfl rfl rfl rfl (Yl.move rfl) (WL.valG (v := .pointer (some ⟨g21, 3, none⟩)) rfl rfl rfl rfl (Yl.kern rfl rfl (fun _ => by kernel_rfl)) (WL.valG (v := .string ⟨List.toArray p0.xLo⟩) rfl rfl rfl rfl (Yl.load rfl (Lds.one Try.isAgg9 (Cls.of (H23.cls (i := 0) rfl) rfl))) (WL.valG (v := .bool (decide (p0.xLo ≠ ([])))) rfl rfl rfl rfl (Yl.strNe rfl rfl) (WL.valG (v := .bool (decide (p0.xLo ≠ ([])))) rfl rfl rfl rfl (Yl.move rfl) ?_))))))))))))))))))))))
  by_cases h26 : p0.xLo ≠ ([])
  refine Sk rfl rfl (decide_eq_true h26) rfl (Sk rfl rfl (decide_eq_true h26) rfl (Sk rfl rfl (decide_eq_true h26) rfl (WL.valG (v := .bool true) rfl rfl rfl rfl (Yl.pickT rfl (decide_eq_true h26) rfl) (WL.valG (v := .bool true) rfl rfl rfl rfl (Yl.pickT rfl rfl rfl) (WL.val (v := .bool true) rfl (Yl.pickF rfl rfl rfl) (Mv rfl rfl (Sk rfl rfl rfl rfl (Sk rfl rfl rfl rfl (WL.skipU rfl rfl rfl (WL.skipU rfl rfl rfl (WL.skipU rfl rfl rfl (Sk rfl rfl rfl rfl (WL.val (v := .bool true) rfl (Yl.pickT rfl rfl rfl) (Mv rfl rfl (Sk rfl rfl rfl rfl (Sk rfl rfl rfl rfl (Sk rfl rfl rfl rfl (Sk rfl rfl rfl rfl (WL.skipU rfl rfl rfl (WL.skipU rfl rfl rfl (WL.skipU rfl rfl rfl (Sk rfl rfl rfl rfl (WL.val (v := .bool true) rfl (Yl.pickT rfl rfl rfl) (Mv rfl rfl (Sk rfl rfl rfl rfl (Sk rfl rfl rfl rfl (Sk rfl rfl rfl rfl (Sk rfl rfl rfl rfl (WL.skipU rfl rfl rfl (WL.skipU rfl rfl rfl (WL.skipU rfl rfl rfl (Sk rfl rfl rfl rfl (WL.val (v := .bool true) rfl (Yl.pickT rfl rfl rfl) (WL.nil (Fin.then (Wp.cond1 rfl rfl (Wp.seq (Wp.region (As rfl rfl ?_)))))))))))))))))))))))))))))))))))))))
  refine WL.nil (Fin.then (Wp.ret (Fin.thenR (Fin.res (res1 rfl rfl) ?_))))
  have H27 := H23.pick [] (by decide) rfl
  have e : r04_CheckOp p0 = 40 := Eq.trans (if_pos h24) (if_pos h26)
  obtain rfl := e.symm.trans hr
  exact ⟨rfl, H27, (by omega)⟩
  refine WL.valG (v := .pointer (some ⟨g21, 4, none⟩)) rfl rfl (decide_eq_false h26) rfl (Yl.kern rfl rfl (fun _ => by kernel_rfl)) (WL.valG (v := .string ⟨List.toArray p0.xHi⟩) rfl rfl (decide_eq_false h26) rfl (Yl.load rfl (Lds.one Try.isAgg9 (Cls.of (H23.cls (i := 0) rfl) rfl))) (WL.valG (v := .bool (decide (p0.xHi ≠ ([])))) rfl rfl (decide_eq_false h26) rfl (Yl.strNe rfl rfl) (WL.valG (v := .bool (decide (p0.xHi ≠ ([])))) rfl rfl rfl rfl (Yl.pickF rfl (decide_eq_false h26) rfl) (WL.valG (v := .bool (decide (p0.xHi ≠ ([])))) rfl rfl rfl rfl (Yl.pickT rfl rfl rfl) (WL.val (v := .bool (decide (p0.xHi ≠ ([])))) rfl (Yl.pickF rfl rfl rfl) (Mv rfl rfl ?_))))))
  by_cases h28 : p0.xHi ≠ ([])
  refine Sk rfl rfl (decide_eq_true h28) rfl (Sk rfl rfl (decide_eq_true h28) rfl (WL.skipU rfl rfl rfl (WL.skipU rfl rfl rfl (WL.skipU rfl rfl rfl (Sk rfl rfl (decide_eq_true h28) rfl (WL.val (v := .bool true) rfl (Yl.pickT rfl (decide_eq_true h28) rfl) (Mv rfl rfl (Sk rfl rfl rfl rfl (Sk rfl rfl rfl rfl (Sk rfl rfl rfl rfl (Sk rfl rfl rfl rfl (WL.skipU rfl rfl rfl (WL.skipU rfl rfl rfl (WL.skipU rfl rfl rfl (Sk rfl rfl rfl rfl (WL.val (v := .bool true) rfl (Yl.pickT rfl rfl rfl) (Mv rfl rfl (Sk rfl rfl rfl rfl (Sk rfl rfl rfl rfl (Sk rfl rfl rfl rfl (Sk rfl rfl rfl rfl (WL.skipU rfl rfl rfl (WL.skipU rfl rfl rfl (WL.skipU rfl rfl rfl (Sk rfl rfl rfl rfl (WL.val (v := .bool true) rfl (Yl.pickT rfl rfl rfl) (WL.nil (Fin.then (Wp.cond1 rfl rfl (Wp.seq (Wp.region (As rfl rfl (WL.nil (Fin.then (Wp.ret (Fin.thenR (Fin.res (res1 rfl rfl) ?_)))))))))))))))))))))))))))))))))))))
  have H29 := H23.pick [] (by decide) rfl
  have e : r04_CheckOp p0 = 40 := Eq.trans (if_pos h24) (Eq.trans (if_neg h26) (if_pos h28))
  obtain rfl := e.symm.trans hr
  exact ⟨rfl, H29, (by omega)⟩
  refine WL.valG (v := .bool (decide (p0.xKind = 5))) rfl rfl (decide_eq_false h28) rfl (Yl.move rfl) (WL.valG (v := .bool (decide (p0.xKind = 5))) rfl rfl (decide_eq_false h28) rfl (Yl.move rfl) ?_)
  have hb30 : (decide (p0.xKind = 5)) = false := (decide_eq_false (by omega))
  refine Sk rfl rfl hb30 rfl (Sk rfl rfl hb30 rfl (Sk rfl rfl hb30 rfl (WL.valG (v := .bool false) rfl rfl (decide_eq_false h28) rfl (Yl.pickF rfl hb30 rfl) (WL.val (v := .bool false) rfl (Yl.pickF rfl (decide_eq_false h28) rfl) (Mv rfl rfl (WL.valG (v := .pointer (some ⟨g21, 0, none⟩)) rfl rfl rfl rfl (Yl.kern rfl rfl (fun _ => by kernel_rfl)) (WL.valG (v := .int .i64 p0.xKind) rfl rfl rfl rfl (Yl.load rfl (Lds.one Try.isAgg3 (Cls.of (H23.cls (i := 0) rfl) rfl))) (WL.valG (v := .bool (decide (¬ (p0.xKind = 2)))) rfl rfl rfl rfl (Yl.bool (e := !(decide (p0.xKind = 2))) (Yl.kern rfl rfl (fun _ => by kernel_rfl)) decide_not.symm) (WL.valG (v := .bool (decide (¬ (p0.xKind = 2)))) rfl rfl rfl rfl (Yl.move rfl) ?_)))))))))
  have hb31 : (decide (¬ (p0.xKind = 2))) = true := (decide_eq_true (by omega))
  refine WL.valG (v := .pointer (some ⟨g21, 2, none⟩)) rfl rfl hb31 rfl (Yl.kern rfl rfl (fun _ => by kernel_rfl)) (WL.valG (v := .string ⟨List.toArray p0.xValue⟩) rfl rfl hb31 rfl (Yl.load rfl (Lds.one Try.isAgg9 (Cls.of (H23.cls (i := 0) rfl) rfl))) (WL.valG (v := .bool (decide (p0.xValue ≠ ([])))) rfl rfl hb31 rfl (Yl.strNe rfl rfl) (WL.valG (v := .bool (decide (p0.xValue ≠ ([])))) rfl rfl rfl rfl (Yl.pickT rfl hb31 rfl) (WL.val (v := .bool (decide (p0.xValue ≠ ([])))) rfl (Yl.pickF rfl rfl rfl) (Mv rfl rfl ?_)))))
  by_cases h32 : p0.xValue ≠ ([])
  refine Sk rfl rfl (decide_eq_true h32) rfl (Sk rfl rfl (decide_eq_true h32) rfl (Sk rfl rfl (decide_eq_true h32) rfl (Sk rfl rfl (decide_eq_true h32) rfl (WL.skipU rfl rfl rfl (WL.skipU rfl rfl rfl (WL.skipU rfl rfl rfl (Sk rfl rfl (decide_eq_true h32) rfl (WL.val (v := .bool true) rfl (Yl.pickT rfl (decide_eq_true h32) rfl) (WL.nil (Fin.then (Wp.cond1 rfl rfl (Wp.seq (Wp.region (As rfl rfl (WL.nil (Fin.then (Wp.ret (Fin.thenR (Fin.res (res1 rfl rfl) ?_)))))))))))))))))))
  have H33 := H23.pick [] (by decide) rfl
  have e : r04_CheckOp p0 = 40 := Eq.trans (if_pos h24) (Eq.trans (if_neg h26) (Eq.trans (if_neg h28) (if_pos h32)))
  obtain rfl := e.symm.trans hr
  exact ⟨rfl, H33, (by omega)⟩
  refine WL.valG (v := .pointer (some ⟨g21, 0, none⟩)) rfl rfl (decide_eq_false h32) rfl (Yl.kern rfl rfl (fun _ => by kernel_rfl)) (WL.valG (v := .int .i64 p0.xKind) rfl rfl (decide_eq_false h32) rfl (Yl.load rfl (Lds.one Try.isAgg3 (Cls.of (H23.cls (i := 0) rfl) rfl))) (WL.valG (v := .bool (decide (¬ (p0.xKind = 4)))) rfl rfl (decide_eq_false h32) rfl (Yl.bool (e := !(decide (p0.xKind = 4))) (Yl.kern rfl rfl (fun _ => by kernel_rfl)) decide_not.symm) (WL.valG (v := .bool (decide (¬ (p0.xKind = 4)))) rfl rfl (decide_eq_false h32) rfl (Yl.move rfl) ?_)))
  have hb34 : (decide (¬ (p0.xKind = 4))) = true := (decide_eq_true (by omega))
  refine WL.valG (v := .pointer (some ⟨g21, 5, none⟩)) rfl rfl hb34 rfl (Yl.kern rfl rfl (fun _ => by kernel_rfl)) (WL.valG (v := .int .i64 p0.xMost) rfl rfl hb34 rfl (Yl.load rfl (Lds.one Try.isAgg3 (Cls.of (H23.cls (i := 0) rfl) rfl))) (WL.valG (v := .bool (decide (¬ (p0.xMost = 0)))) rfl rfl hb34 rfl (Yl.bool (e := !(decide (p0.xMost = 0))) (Yl.kern rfl rfl (fun _ => by kernel_rfl)) decide_not.symm) (WL.valG (v := .bool (decide (¬ (p0.xMost = 0)))) rfl rfl (decide_eq_false h32) rfl (Yl.pickT rfl hb34 rfl) (WL.val (v := .bool (decide (¬ (p0.xMost = 0)))) rfl (Yl.pickF rfl (decide_eq_false h32) rfl) (WL.nil (Fin.then ?_))))))
  by_cases h35 : p0.xMost = 0
  refine Wp.cond0 rfl (decide_eq_false (not_not_intro h35)) (Wp.skip (Fin.then (Wp.seq (Wp.seq (Wp.region (Mv rfl rfl (Mv rfl rfl (WL.valG (v := .pointer (some ⟨g21, 1, none⟩)) rfl rfl rfl rfl (Yl.kern rfl rfl (fun _ => by kernel_rfl)) (WL.valG (v := .string ⟨List.toArray p0.xKey⟩) rfl rfl rfl rfl (Yl.load rfl (Lds.one Try.isAgg9 (Cls.of (H23.cls (i := 0) rfl) rfl))) ?_)))))))))
  obtain ⟨r41, hr42⟩ : ∃ q, r02_CheckKey p0.xKey = q := ⟨_, rfl⟩
  obtain ⟨D36, HP37, ro38, bk39, rr40⟩ := Own.enter0 H23
  refine WL.doG rfl rfl rfl rfl (Do.call Try.call17 rfl (r02_CheckKey_ok _ _ p0.xKey r41 HP37 hr42) ?_)
  rintro _ w43 ⟨rfl, HQ44, hk46⟩
  have H45 := bk39 _ _ HQ44
  replace hk46 : ¬ (r41 = 0) ∨ (1 ≤ p0.xKey.length ∧ p0.xKey.length ≤ 12) := hk46
  refine WL.valG (v := .bool (decide (¬ (r41 = 0)))) rfl rfl rfl rfl (Yl.bool (e := !(decide (r41 = 0))) (Yl.kern rfl rfl (fun _ => by kernel_rfl)) decide_not.symm) (WL.val (v := .bool (decide (¬ (r41 = 0)))) rfl (Yl.pickT rfl rfl rfl) (WL.nil (Fin.then ?_)))
  by_cases h47 : r41 = 0
  refine Wp.cond0 rfl (decide_eq_false (not_not_intro h47)) (Wp.skip (Fin.then (Wp.seq (Wp.seq (Wp.region (Kn (v := .pointer (some ⟨g21, 2, none⟩)) rfl rfl rfl (fun _ => by kernel_rfl) (WL.val (v := .string ⟨List.toArray p0.xValue⟩) rfl (Yl.load rfl (Lds.one Try.isAgg9 (Cls.of (H45.cls (i := 0) rfl) rfl))) (Kn (v := .int .i64 ((p0.xValue.length : Nat) : Int)) rfl rfl rfl (fun _ => by kernel_rfl) (Kn (v := .bool (decide (((p0.xValue.length : Nat) : Int) > 16))) rfl rfl rfl (fun _ => by kernel_rfl) (WL.nil (Fin.then ?_)))))))))))
  by_cases h48 : ((p0.xValue.length : Nat) : Int) > 16
  refine Wp.cond1 rfl (decide_eq_true h48) (Wp.seq (Wp.region (As rfl rfl (WL.nil (Fin.then (Wp.ret (Fin.thenR (Fin.res (res1 rfl rfl) ?_))))))))
  have H49 := H45.pick [] (by decide) rfl
  have e : r04_CheckOp p0 = 2 := Eq.trans (if_pos h24) (Eq.trans (if_neg h26) (Eq.trans (if_neg h28) (Eq.trans (if_neg h32) (Eq.trans (if_pos h35) (Eq.trans (bnd_of hr42) (Eq.trans (if_pos h47) (if_pos h48)))))))
  obtain rfl := e.symm.trans hr
  exact ⟨rfl, H49, (by omega)⟩
  refine Wp.cond0 rfl (decide_eq_false h48) (Wp.skip (Fin.then (Wp.seq (Wp.seq (Wp.region (Mv rfl rfl (Mv rfl rfl (Sk rfl rfl hb30 rfl (Sk rfl rfl hb30 rfl (Sk rfl rfl hb30 rfl (Sk rfl rfl hb30 rfl (Sk rfl rfl hb30 rfl (Sk rfl rfl hb30 rfl (Sk rfl rfl hb30 rfl (WL.val (v := .bool false) rfl (Yl.pickF rfl hb30 rfl) (WL.nil (Fin.then (Wp.cond0 rfl rfl (Wp.skip (Fin.then (Wp.seq (Wp.seq (Wp.region (Kn (v := .pointer (some ⟨g21, 0, none⟩)) rfl rfl rfl (fun _ => by kernel_rfl) (WL.val (v := .int .i64 p0.xKind) rfl (Yl.load rfl (Lds.one Try.isAgg3 (Cls.of (H45.cls (i := 0) rfl) rfl))) (Kn (v := .bool (decide (p0.xKind = 4))) rfl rfl rfl (fun _ => by kernel_rfl) (Mv rfl rfl (Sk rfl rfl hb25 rfl (Sk rfl rfl hb25 rfl (Sk rfl rfl hb25 rfl (Sk rfl rfl hb25 rfl (WL.skipU rfl rfl rfl (WL.skipU rfl rfl rfl (WL.skipU rfl rfl rfl (Sk rfl rfl hb25 rfl (WL.val (v := .bool false) rfl (Yl.pickF rfl hb25 rfl) (WL.nil (Fin.then (Wp.cond0 rfl rfl ?_)))))))))))))))))))))))))))))))))))))))
  refine Wp.skip (Fin.then (Wp.seq (Wp.region (As rfl rfl (WL.nil (Fin.then (Wp.ret (Fin.res (res1 rfl rfl) ?_))))))))
  have H50 := H45.pick [] (by decide) rfl
  have e : r04_CheckOp p0 = 0 := Eq.trans (if_pos h24) (Eq.trans (if_neg h26) (Eq.trans (if_neg h28) (Eq.trans (if_neg h32) (Eq.trans (if_pos h35) (Eq.trans (bnd_of hr42) (Eq.trans (if_pos h47) (if_neg h48)))))))
  obtain rfl := e.symm.trans hr
  exact ⟨rfl, H50, (by omega)⟩
  refine Wp.cond1 rfl (decide_eq_true h47) (Wp.seq (Wp.region (As rfl rfl (WL.nil (Fin.then (Wp.ret (Fin.thenR (Fin.res (res1 rfl rfl) ?_))))))))
  have H51 := H45.pick [] (by decide) rfl
  have e : r04_CheckOp p0 = 20 := Eq.trans (if_pos h24) (Eq.trans (if_neg h26) (Eq.trans (if_neg h28) (Eq.trans (if_neg h32) (Eq.trans (if_pos h35) (Eq.trans (bnd_of hr42) (if_neg h47))))))
  obtain rfl := e.symm.trans hr
  exact ⟨rfl, H51, (by omega)⟩
  refine Wp.cond1 rfl (decide_eq_true h35) (Wp.seq (Wp.region (As rfl rfl (WL.nil (Fin.then (Wp.ret (Fin.thenR (Fin.res (res1 rfl rfl) ?_))))))))
  have H52 := H23.pick [] (by decide) rfl
  have e : r04_CheckOp p0 = 40 := Eq.trans (if_pos h24) (Eq.trans (if_neg h26) (Eq.trans (if_neg h28) (Eq.trans (if_neg h32) (if_neg h35))))
  obtain rfl := e.symm.trans hr
  exact ⟨rfl, H52, (by omega)⟩
  refine WL.valG (v := .pointer (some ⟨g21, 0, none⟩)) rfl rfl (decide_eq_false h24) rfl (Yl.kern rfl rfl (fun _ => by kernel_rfl)) (WL.valG (v := .int .i64 p0.xKind) rfl rfl (decide_eq_false h24) rfl (Yl.load rfl (Lds.one Try.isAgg3 (Cls.of (H23.cls (i := 0) rfl) rfl))) (WL.valG (v := .bool (decide (p0.xKind = 2))) rfl rfl (decide_eq_false h24) rfl (Yl.kern rfl rfl (fun _ => by kernel_rfl)) (WL.val (v := .bool (decide (p0.xKind = 2))) rfl (Yl.pickF rfl (decide_eq_false h24) rfl) (Mv rfl rfl ?_))))
  by_cases h53 : p0.xKind = 2
  refine Sk rfl rfl (decide_eq_true h53) rfl (Sk rfl rfl (decide_eq_true h53) rfl (Sk rfl rfl (decide_eq_true h53) rfl (WL.val (v := .bool true) rfl (Yl.pickT rfl (decide_eq_true h53) rfl) (As rfl rfl (WL.nil (Fin.then (Wp.seq (Wp.region (Kn (v := .pointer (some ⟨g21, 0, none⟩)) rfl rfl rfl (fun _ => by kernel_rfl) (WL.val (v := .int .i64 p0.xKind) rfl (Yl.load rfl (Lds.one Try.isAgg3 (Cls.of (H23.cls (i := 0) rfl) rfl))) (Kn (v := .bool (decide (p0.xKind = 4))) rfl rfl rfl (fun _ => by kernel_rfl) (Mv rfl rfl ?_))))))))))))
  have hb54 : (decide (p0.xKind = 4)) = false := (decide_eq_false (by omega))
  refine WL.valG (v := .pointer (some ⟨g21, 0, none⟩)) rfl rfl hb54 rfl (Yl.kern rfl rfl (fun _ => by kernel_rfl)) (WL.valG (v := .int .i64 p0.xKind) rfl rfl hb54 rfl (Yl.load rfl (Lds.one Try.isAgg3 (Cls.of (H23.cls (i := 0) rfl) rfl))) (WL.valG (v := .bool (decide (p0.xKind = 5))) rfl rfl hb54 rfl (Yl.kern rfl rfl (fun _ => by kernel_rfl)) (WL.val (v := .bool (decide (p0.xKind = 5))) rfl (Yl.pickF rfl hb54 rfl) (As rfl rfl (WL.nil (Fin.then (Wp.seq (Wp.seq (Wp.region (Mv rfl rfl (Kn (v := .bool false) rfl rfl rfl (fun _ => by kernel_rfl) (Mv rfl rfl (Sk rfl rfl rfl rfl (Sk rfl rfl rfl rfl (WL.val (v := .bool false) rfl (Yl.pickF rfl rfl rfl) (Mv rfl rfl (WL.valG (v := .bool true) rfl rfl rfl rfl (Yl.move rfl) (WL.valG (v := .bool true) rfl rfl rfl rfl (Yl.move rfl) (WL.valG (v := .pointer (some ⟨g21, 3, none⟩)) rfl rfl rfl rfl (Yl.kern rfl rfl (fun _ => by kernel_rfl)) (WL.valG (v := .string ⟨List.toArray p0.xLo⟩) rfl rfl rfl rfl (Yl.load rfl (Lds.one Try.isAgg9 (Cls.of (H23.cls (i := 0) rfl) rfl))) (WL.valG (v := .bool (decide (p0.xLo ≠ ([])))) rfl rfl rfl rfl (Yl.strNe rfl rfl) (WL.valG (v := .bool (decide (p0.xLo ≠ ([])))) rfl rfl rfl rfl (Yl.move rfl) ?_))))))))))))))))))))))
  by_cases h55 : p0.xLo ≠ ([])
  refine Sk rfl rfl (decide_eq_true h55) rfl (Sk rfl rfl (decide_eq_true h55) rfl (Sk rfl rfl (decide_eq_true h55) rfl (WL.valG (v := .bool true) rfl rfl rfl rfl (Yl.pickT rfl (decide_eq_true h55) rfl) (WL.valG (v := .bool true) rfl rfl rfl rfl (Yl.pickT rfl rfl rfl) (WL.val (v := .bool true) rfl (Yl.pickF rfl rfl rfl) (Mv rfl rfl (Sk rfl rfl rfl rfl (Sk rfl rfl rfl rfl (WL.skipU rfl rfl rfl (WL.skipU rfl rfl rfl (WL.skipU rfl rfl rfl (Sk rfl rfl rfl rfl (WL.val (v := .bool true) rfl (Yl.pickT rfl rfl rfl) (Mv rfl rfl (Sk rfl rfl rfl rfl (Sk rfl rfl rfl rfl (Sk rfl rfl rfl rfl (Sk rfl rfl rfl rfl (WL.skipU rfl rfl rfl (WL.skipU rfl rfl rfl (WL.skipU rfl rfl rfl (Sk rfl rfl rfl rfl (WL.val (v := .bool true) rfl (Yl.pickT rfl rfl rfl) (Mv rfl rfl (Sk rfl rfl rfl rfl (Sk rfl rfl rfl rfl (Sk rfl rfl rfl rfl (Sk rfl rfl rfl rfl (WL.skipU rfl rfl rfl (WL.skipU rfl rfl rfl (WL.skipU rfl rfl rfl (Sk rfl rfl rfl rfl (WL.val (v := .bool true) rfl (Yl.pickT rfl rfl rfl) (WL.nil (Fin.then (Wp.cond1 rfl rfl (Wp.seq (Wp.region (As rfl rfl ?_)))))))))))))))))))))))))))))))))))))))
  refine WL.nil (Fin.then (Wp.ret (Fin.thenR (Fin.res (res1 rfl rfl) ?_))))
  have H56 := H23.pick [] (by decide) rfl
  have e : r04_CheckOp p0 = 40 := Eq.trans (if_neg h24) (Eq.trans (if_pos h53) (if_pos h55))
  obtain rfl := e.symm.trans hr
  exact ⟨rfl, H56, (by omega)⟩
  refine WL.valG (v := .pointer (some ⟨g21, 4, none⟩)) rfl rfl (decide_eq_false h55) rfl (Yl.kern rfl rfl (fun _ => by kernel_rfl)) (WL.valG (v := .string ⟨List.toArray p0.xHi⟩) rfl rfl (decide_eq_false h55) rfl (Yl.load rfl (Lds.one Try.isAgg9 (Cls.of (H23.cls (i := 0) rfl) rfl))) (WL.valG (v := .bool (decide (p0.xHi ≠ ([])))) rfl rfl (decide_eq_false h55) rfl (Yl.strNe rfl rfl) (WL.valG (v := .bool (decide (p0.xHi ≠ ([])))) rfl rfl rfl rfl (Yl.pickF rfl (decide_eq_false h55) rfl) (WL.valG (v := .bool (decide (p0.xHi ≠ ([])))) rfl rfl rfl rfl (Yl.pickT rfl rfl rfl) (WL.val (v := .bool (decide (p0.xHi ≠ ([])))) rfl (Yl.pickF rfl rfl rfl) (Mv rfl rfl ?_))))))
  by_cases h57 : p0.xHi ≠ ([])
  refine Sk rfl rfl (decide_eq_true h57) rfl (Sk rfl rfl (decide_eq_true h57) rfl (WL.skipU rfl rfl rfl (WL.skipU rfl rfl rfl (WL.skipU rfl rfl rfl (Sk rfl rfl (decide_eq_true h57) rfl (WL.val (v := .bool true) rfl (Yl.pickT rfl (decide_eq_true h57) rfl) (Mv rfl rfl (Sk rfl rfl rfl rfl (Sk rfl rfl rfl rfl (Sk rfl rfl rfl rfl (Sk rfl rfl rfl rfl (WL.skipU rfl rfl rfl (WL.skipU rfl rfl rfl (WL.skipU rfl rfl rfl (Sk rfl rfl rfl rfl (WL.val (v := .bool true) rfl (Yl.pickT rfl rfl rfl) (Mv rfl rfl (Sk rfl rfl rfl rfl (Sk rfl rfl rfl rfl (Sk rfl rfl rfl rfl (Sk rfl rfl rfl rfl (WL.skipU rfl rfl rfl (WL.skipU rfl rfl rfl (WL.skipU rfl rfl rfl (Sk rfl rfl rfl rfl (WL.val (v := .bool true) rfl (Yl.pickT rfl rfl rfl) (WL.nil (Fin.then (Wp.cond1 rfl rfl (Wp.seq (Wp.region (As rfl rfl (WL.nil (Fin.then (Wp.ret (Fin.thenR (Fin.res (res1 rfl rfl) ?_)))))))))))))))))))))))))))))))))))))
  have H58 := H23.pick [] (by decide) rfl
  have e : r04_CheckOp p0 = 40 := Eq.trans (if_neg h24) (Eq.trans (if_pos h53) (Eq.trans (if_neg h55) (if_pos h57)))
  obtain rfl := e.symm.trans hr
  exact ⟨rfl, H58, (by omega)⟩
  refine WL.valG (v := .bool (decide (p0.xKind = 5))) rfl rfl (decide_eq_false h57) rfl (Yl.move rfl) (WL.valG (v := .bool (decide (p0.xKind = 5))) rfl rfl (decide_eq_false h57) rfl (Yl.move rfl) ?_)
  have hb59 : (decide (p0.xKind = 5)) = false := (decide_eq_false (by omega))
  refine Sk rfl rfl hb59 rfl (Sk rfl rfl hb59 rfl (Sk rfl rfl hb59 rfl (WL.valG (v := .bool false) rfl rfl (decide_eq_false h57) rfl (Yl.pickF rfl hb59 rfl) (WL.val (v := .bool false) rfl (Yl.pickF rfl (decide_eq_false h57) rfl) (Mv rfl rfl (WL.valG (v := .pointer (some ⟨g21, 0, none⟩)) rfl rfl rfl rfl (Yl.kern rfl rfl (fun _ => by kernel_rfl)) (WL.valG (v := .int .i64 p0.xKind) rfl rfl rfl rfl (Yl.load rfl (Lds.one Try.isAgg3 (Cls.of (H23.cls (i := 0) rfl) rfl))) (WL.valG (v := .bool (decide (¬ (p0.xKind = 2)))) rfl rfl rfl rfl (Yl.bool (e := !(decide (p0.xKind = 2))) (Yl.kern rfl rfl (fun _ => by kernel_rfl)) decide_not.symm) (WL.valG (v := .bool (decide (¬ (p0.xKind = 2)))) rfl rfl rfl rfl (Yl.move rfl) ?_)))))))))
  have hb60 : (decide (¬ (p0.xKind = 2))) = false := (decide_eq_false (by omega))
  refine Sk rfl rfl hb60 rfl (Sk rfl rfl hb60 rfl (Sk rfl rfl hb60 rfl (WL.valG (v := .bool false) rfl rfl rfl rfl (Yl.pickF rfl hb60 rfl) (WL.val (v := .bool false) rfl (Yl.pickF rfl rfl rfl) (Mv rfl rfl (WL.valG (v := .pointer (some ⟨g21, 0, none⟩)) rfl rfl rfl rfl (Yl.kern rfl rfl (fun _ => by kernel_rfl)) (WL.valG (v := .int .i64 p0.xKind) rfl rfl rfl rfl (Yl.load rfl (Lds.one Try.isAgg3 (Cls.of (H23.cls (i := 0) rfl) rfl))) (WL.valG (v := .bool (decide (¬ (p0.xKind = 4)))) rfl rfl rfl rfl (Yl.bool (e := !(decide (p0.xKind = 4))) (Yl.kern rfl rfl (fun _ => by kernel_rfl)) decide_not.symm) (WL.valG (v := .bool (decide (¬ (p0.xKind = 4)))) rfl rfl rfl rfl (Yl.move rfl) ?_)))))))))
  have hb61 : (decide (¬ (p0.xKind = 4))) = true := (decide_eq_true (by omega))
  refine WL.valG (v := .pointer (some ⟨g21, 5, none⟩)) rfl rfl hb61 rfl (Yl.kern rfl rfl (fun _ => by kernel_rfl)) (WL.valG (v := .int .i64 p0.xMost) rfl rfl hb61 rfl (Yl.load rfl (Lds.one Try.isAgg3 (Cls.of (H23.cls (i := 0) rfl) rfl))) (WL.valG (v := .bool (decide (¬ (p0.xMost = 0)))) rfl rfl hb61 rfl (Yl.bool (e := !(decide (p0.xMost = 0))) (Yl.kern rfl rfl (fun _ => by kernel_rfl)) decide_not.symm) (WL.valG (v := .bool (decide (¬ (p0.xMost = 0)))) rfl rfl rfl rfl (Yl.pickT rfl hb61 rfl) (WL.val (v := .bool (decide (¬ (p0.xMost = 0)))) rfl (Yl.pickF rfl rfl rfl) (WL.nil (Fin.then ?_))))))
  by_cases h62 : p0.xMost = 0
  refine Wp.cond0 rfl (decide_eq_false (not_not_intro h62)) (Wp.skip (Fin.then (Wp.seq (Wp.seq (Wp.region (Mv rfl rfl (Mv rfl rfl (WL.valG (v := .pointer (some ⟨g21, 1, none⟩)) rfl rfl rfl rfl (Yl.kern rfl rfl (fun _ => by kernel_rfl)) (WL.valG (v := .string ⟨List.toArray p0.xKey⟩) rfl rfl rfl rfl (Yl.load rfl (Lds.one Try.isAgg9 (Cls.of (H23.cls (i := 0) rfl) rfl))) ?_)))))))))
  obtain ⟨r68, hr69⟩ : ∃ q, r02_CheckKey p0.xKey = q := ⟨_, rfl⟩
  obtain ⟨D63, HP64, ro65, bk66, rr67⟩ := Own.enter0 H23
  refine WL.doG rfl rfl rfl rfl (Do.call Try.call17 rfl (r02_CheckKey_ok _ _ p0.xKey r68 HP64 hr69) ?_)
  rintro _ w70 ⟨rfl, HQ71, hk73⟩
  have H72 := bk66 _ _ HQ71
  replace hk73 : ¬ (r68 = 0) ∨ (1 ≤ p0.xKey.length ∧ p0.xKey.length ≤ 12) := hk73
  refine WL.valG (v := .bool (decide (¬ (r68 = 0)))) rfl rfl rfl rfl (Yl.bool (e := !(decide (r68 = 0))) (Yl.kern rfl rfl (fun _ => by kernel_rfl)) decide_not.symm) (WL.val (v := .bool (decide (¬ (r68 = 0)))) rfl (Yl.pickT rfl rfl rfl) (WL.nil (Fin.then ?_)))
  by_cases h74 : r68 = 0
  refine Wp.cond0 rfl (decide_eq_false (not_not_intro h74)) (Wp.skip (Fin.then (Wp.seq (Wp.seq (Wp.region (Kn (v := .pointer (some ⟨g21, 2, none⟩)) rfl rfl rfl (fun _ => by kernel_rfl) (WL.val (v := .string ⟨List.toArray p0.xValue⟩) rfl (Yl.load rfl (Lds.one Try.isAgg9 (Cls.of (H72.cls (i := 0) rfl) rfl))) (Kn (v := .int .i64 ((p0.xValue.length : Nat) : Int)) rfl rfl rfl (fun _ => by kernel_rfl) (Kn (v := .bool (decide (((p0.xValue.length : Nat) : Int) > 16))) rfl rfl rfl (fun _ => by kernel_rfl) (WL.nil (Fin.then ?_)))))))))))
  by_cases h75 : ((p0.xValue.length : Nat) : Int) > 16
  refine Wp.cond1 rfl (decide_eq_true h75) (Wp.seq (Wp.region (As rfl rfl (WL.nil (Fin.then (Wp.ret (Fin.thenR (Fin.res (res1 rfl rfl) ?_))))))))
  have H76 := H72.pick [] (by decide) rfl
  have e : r04_CheckOp p0 = 2 := Eq.trans (if_neg h24) (Eq.trans (if_pos h53) (Eq.trans (if_neg h55) (Eq.trans (if_neg h57) (Eq.trans (if_pos h62) (Eq.trans (bnd_of hr69) (Eq.trans (if_pos h74) (if_pos h75)))))))
  obtain rfl := e.symm.trans hr
  exact ⟨rfl, H76, (by omega)⟩
  refine Wp.cond0 rfl (decide_eq_false h75) (Wp.skip (Fin.then (Wp.seq (Wp.seq (Wp.region (Mv rfl rfl (Mv rfl rfl (Sk rfl rfl hb59 rfl (Sk rfl rfl hb59 rfl (Sk rfl rfl hb59 rfl (Sk rfl rfl hb59 rfl (Sk rfl rfl hb59 rfl (Sk rfl rfl hb59 rfl (Sk rfl rfl hb59 rfl (WL.val (v := .bool false) rfl (Yl.pickF rfl hb59 rfl) (WL.nil (Fin.then (Wp.cond0 rfl rfl (Wp.skip (Fin.then (Wp.seq (Wp.seq (Wp.region (Kn (v := .pointer (some ⟨g21, 0, none⟩)) rfl rfl rfl (fun _ => by kernel_rfl) (WL.val (v := .int .i64 p0.xKind) rfl (Yl.load rfl (Lds.one Try.isAgg3 (Cls.of (H72.cls (i := 0) rfl) rfl))) (Kn (v := .bool (decide (p0.xKind = 4))) rfl rfl rfl (fun _ => by kernel_rfl) (Mv rfl rfl (Sk rfl rfl hb54 rfl (Sk rfl rfl hb54 rfl (Sk rfl rfl hb54 rfl (Sk rfl rfl hb54 rfl (WL.skipU rfl rfl rfl (WL.skipU rfl rfl rfl (WL.skipU rfl rfl rfl (Sk rfl rfl hb54 rfl (WL.val (v := .bool false) rfl (Yl.pickF rfl hb54 rfl) (WL.nil (Fin.then (Wp.cond0 rfl rfl ?_)))))))))))))))))))))))))))))))))))))))
  refine Wp.skip (Fin.then (Wp.seq (Wp.region (As rfl rfl (WL.nil (Fin.then (Wp.ret (Fin.res (res1 rfl rfl) ?_))))))))
  have H77 := H72.pick [] (by decide) rfl
  have e : r04_CheckOp p0 = 0 := Eq.trans (if_neg h24) (Eq.trans (if_pos h53) (Eq.trans (if_neg h55) (Eq.trans (if_neg h57) (Eq.trans (if_pos h62) (Eq.trans (bnd_of hr69) (Eq.trans (if_pos h74) (if_neg h75)))))))
  obtain rfl := e.symm.trans hr
  exact ⟨rfl, H77, (by omega)⟩
  refine Wp.cond1 rfl (decide_eq_true h74) (Wp.seq (Wp.region (As rfl rfl (WL.nil (Fin.then (Wp.ret (Fin.thenR (Fin.res (res1 rfl rfl) ?_))))))))
  have H78 := H72.pick [] (by decide) rfl
  have e : r04_CheckOp p0 = 20 := Eq.trans (if_neg h24) (Eq.trans (if_pos h53) (Eq.trans (if_neg h55) (Eq.trans (if_neg h57) (Eq.trans (if_pos h62) (Eq.trans (bnd_of hr69) (if_neg h74))))))
  obtain rfl := e.symm.trans hr
  exact ⟨rfl, H78, (by omega)⟩
  refine Wp.cond1 rfl (decide_eq_true h62) (Wp.seq (Wp.region (As rfl rfl (WL.nil (Fin.then (Wp.ret (Fin.thenR (Fin.res (res1 rfl rfl) ?_))))))))
  have H79 := H23.pick [] (by decide) rfl
  have e : r04_CheckOp p0 = 40 := Eq.trans (if_neg h24) (Eq.trans (if_pos h53) (Eq.trans (if_neg h55) (Eq.trans (if_neg h57) (if_neg h62))))
  obtain rfl := e.symm.trans hr
  exact ⟨rfl, H79, (by omega)⟩
  refine WL.valG (v := .pointer (some ⟨g21, 0, none⟩)) rfl rfl (decide_eq_false h53) rfl (Yl.kern rfl rfl (fun _ => by kernel_rfl)) (WL.valG (v := .int .i64 p0.xKind) rfl rfl (decide_eq_false h53) rfl (Yl.load rfl (Lds.one Try.isAgg3 (Cls.of (H23.cls (i := 0) rfl) rfl))) (WL.valG (v := .bool (decide (p0.xKind = 3))) rfl rfl (decide_eq_false h53) rfl (Yl.kern rfl rfl (fun _ => by kernel_rfl)) (WL.val (v := .bool (decide (p0.xKind = 3))) rfl (Yl.pickF rfl (decide_eq_false h53) rfl) (As rfl rfl (WL.nil (Fin.then (Wp.seq (Wp.region (Kn (v := .pointer (some ⟨g21, 0, none⟩)) rfl rfl rfl (fun _ => by kernel_rfl) (WL.val (v := .int .i64 p0.xKind) rfl (Yl.load rfl (Lds.one Try.isAgg3 (Cls.of (H23.cls (i := 0) rfl) rfl))) (Kn (v := .bool (decide (p0.xKind = 4))) rfl rfl rfl (fun _ => by kernel_rfl) (Mv rfl rfl ?_))))))))))))
  by_cases h80 : p0.xKind = 4
  refine Sk rfl rfl (decide_eq_true h80) rfl (Sk rfl rfl (decide_eq_true h80) rfl (Sk rfl rfl (decide_eq_true h80) rfl (WL.val (v := .bool true) rfl (Yl.pickT rfl (decide_eq_true h80) rfl) (As rfl rfl (WL.nil (Fin.then (Wp.seq (Wp.seq (Wp.region (Mv rfl rfl (WL.val (v := .bool (decide (¬ (p0.xKind = 3)))) rfl (Yl.bool (e := !(decide (p0.xKind = 3))) (Yl.kern rfl rfl (fun _ => by kernel_rfl)) decide_not.symm) (Mv rfl rfl ?_))))))))))))
  have hb81 : (decide (¬ (p0.xKind = 3))) = true := (decide_eq_true (by omega))
  refine WL.valG (v := .bool true) rfl rfl hb81 rfl (Yl.move rfl) (WL.valG (v := .bool false) rfl rfl hb81 rfl (Yl.kern rfl rfl (fun _ => by kernel_rfl)) (WL.val (v := .bool false) rfl (Yl.pickT rfl hb81 rfl) (Mv rfl rfl (WL.valG (v := .bool (decide (p0.xKind = 3))) rfl rfl rfl rfl (Yl.move rfl) (WL.valG (v := .bool (decide (p0.xKind = 3))) rfl rfl rfl rfl (Yl.move rfl) ?_)))))
  have hb82 : (decide (p0.xKind = 3)) = false := (decide_eq_false (by omega))
  refine Sk rfl rfl hb82 rfl (Sk rfl rfl hb82 rfl (Sk rfl rfl hb82 rfl (Sk rfl rfl hb82 rfl (WL.skipU rfl rfl rfl (WL.skipU rfl rfl rfl (WL.skipU rfl rfl rfl (Sk rfl rfl hb82 rfl (WL.valG (v := .bool false) rfl rfl rfl rfl (Yl.pickF rfl hb82 rfl) (WL.val (v := .bool false) rfl (Yl.pickF rfl rfl rfl) (Mv rfl rfl (WL.valG (v := .bool true) rfl rfl rfl rfl (Yl.move rfl) (WL.valG (v := .bool true) rfl rfl rfl rfl (Yl.move rfl) (WL.valG (v := .pointer (some ⟨g21, 1, none⟩)) rfl rfl rfl rfl (Yl.kern rfl rfl (fun _ => by kernel_rfl)) (WL.valG (v := .string ⟨List.toArray p0.xKey⟩) rfl rfl rfl rfl (Yl.load rfl (Lds.one Try.isAgg9 (Cls.of (H23.cls (i := 0) rfl) rfl))) (WL.valG (v := .bool (decide (p0.xKey ≠ ([])))) rfl rfl rfl rfl (Yl.strNe rfl rfl) (WL.valG (v := .bool (decide (p0.xKey ≠ ([])))) rfl rfl rfl rfl (Yl.pickT rfl rfl rfl) (WL.val (v := .bool (decide (p0.xKey ≠ ([])))) rfl (Yl.pickF rfl rfl rfl) (Mv rfl rfl ?_))))))))))))))))))
  by_cases h83 : p0.xKey ≠ ([])
  refine Sk rfl rfl (decide_eq_true h83) rfl (Sk rfl rfl (decide_eq_true h83) rfl (Sk rfl rfl (decide_eq_true h83) rfl (Sk rfl rfl (decide_eq_true h83) rfl (WL.skipU rfl rfl rfl (WL.skipU rfl rfl rfl (WL.skipU rfl rfl rfl (Sk rfl rfl (decide_eq_true h83) rfl (WL.val (v := .bool true) rfl (Yl.pickT rfl (decide_eq_true h83) rfl) (Mv rfl rfl (Sk rfl rfl rfl rfl (Sk rfl rfl rfl rfl (Sk rfl rfl rfl rfl (Sk rfl rfl rfl rfl (WL.skipU rfl rfl rfl (WL.skipU rfl rfl rfl (WL.skipU rfl rfl rfl (Sk rfl rfl rfl rfl (WL.val (v := .bool true) rfl (Yl.pickT rfl rfl rfl) (WL.nil (Fin.then (Wp.cond1 rfl rfl (Wp.seq (Wp.region (As rfl rfl (WL.nil (Fin.then (Wp.ret (Fin.thenR (Fin.res (res1 rfl rfl) ?_)))))))))))))))))))))))))))))
  have H84 := H23.pick [] (by decide) rfl
  have e : r04_CheckOp p0 = 40 := Eq.trans (if_neg h24) (Eq.trans (if_neg h53) (Eq.trans (if_pos h80) (if_pos h83)))
  obtain rfl := e.symm.trans hr
  exact ⟨rfl, H84, (by omega)⟩
  refine WL.valG (v := .pointer (some ⟨g21, 0, none⟩)) rfl rfl (decide_eq_false h83) rfl (Yl.kern rfl rfl (fun _ => by kernel_rfl)) (WL.valG (v := .int .i64 p0.xKind) rfl rfl (decide_eq_false h83) rfl (Yl.load rfl (Lds.one Try.isAgg3 (Cls.of (H23.cls (i := 0) rfl) rfl))) (WL.valG (v := .bool (decide (¬ (p0.xKind = 2)))) rfl rfl (decide_eq_false h83) rfl (Yl.bool (e := !(decide (p0.xKind = 2))) (Yl.kern rfl rfl (fun _ => by kernel_rfl)) decide_not.symm) (WL.valG (v := .bool (decide (¬ (p0.xKind = 2)))) rfl rfl (decide_eq_false h83) rfl (Yl.move rfl) ?_)))
  have hb85 : (decide (¬ (p0.xKind = 2))) = true := (decide_eq_true (by omega))
  refine WL.valG (v := .pointer (some ⟨g21, 2, none⟩)) rfl rfl hb85 rfl (Yl.kern rfl rfl (fun _ => by kernel_rfl)) (WL.valG (v := .string ⟨List.toArray p0.xValue⟩) rfl rfl hb85 rfl (Yl.load rfl (Lds.one Try.isAgg9 (Cls.of (H23.cls (i := 0) rfl) rfl))) (WL.valG (v := .bool (decide (p0.xValue ≠ ([])))) rfl rfl hb85 rfl (Yl.strNe rfl rfl) (WL.valG (v := .bool (decide (p0.xValue ≠ ([])))) rfl rfl (decide_eq_false h83) rfl (Yl.pickT rfl hb85 rfl) (WL.val (v := .bool (decide (p0.xValue ≠ ([])))) rfl (Yl.pickF rfl (decide_eq_false h83) rfl) (Mv rfl rfl ?_)))))
  by_cases h86 : p0.xValue ≠ ([])
  refine Sk rfl rfl (decide_eq_true h86) rfl (Sk rfl rfl (decide_eq_true h86) rfl (Sk rfl rfl (decide_eq_true h86) rfl (Sk rfl rfl (decide_eq_true h86) rfl (WL.skipU rfl rfl rfl (WL.skipU rfl rfl rfl (WL.skipU rfl rfl rfl (Sk rfl rfl (decide_eq_true h86) rfl (WL.val (v := .bool true) rfl (Yl.pickT rfl (decide_eq_true h86) rfl) (WL.nil (Fin.then (Wp.cond1 rfl rfl (Wp.seq (Wp.region (As rfl rfl (WL.nil (Fin.then (Wp.ret (Fin.thenR (Fin.res (res1 rfl rfl) ?_)))))))))))))))))))
  have H87 := H23.pick [] (by decide) rfl
  have e : r04_CheckOp p0 = 40 := Eq.trans (if_neg h24) (Eq.trans (if_neg h53) (Eq.trans (if_pos h80) (Eq.trans (if_neg h83) (if_pos h86))))
  obtain rfl := e.symm.trans hr
  exact ⟨rfl, H87, (by omega)⟩
  refine WL.valG (v := .pointer (some ⟨g21, 0, none⟩)) rfl rfl (decide_eq_false h86) rfl (Yl.kern rfl rfl (fun _ => by kernel_rfl)) (WL.valG (v := .int .i64 p0.xKind) rfl rfl (decide_eq_false h86) rfl (Yl.load rfl (Lds.one Try.isAgg3 (Cls.of (H23.cls (i := 0) rfl) rfl))) (WL.valG (v := .bool (decide (¬ (p0.xKind = 4)))) rfl rfl (decide_eq_false h86) rfl (Yl.bool (e := !(decide (p0.xKind = 4))) (Yl.kern rfl rfl (fun _ => by kernel_rfl)) decide_not.symm) (WL.valG (v := .bool (decide (¬ (p0.xKind = 4)))) rfl rfl (decide_eq_false h86) rfl (Yl.move rfl) ?_)))
  have hb88 : (decide (¬ (p0.xKind = 4))) = false := (decide_eq_false (by omega))
  refine Sk rfl rfl hb88 rfl (Sk rfl rfl hb88 rfl (Sk rfl rfl hb88 rfl (WL.valG (v := .bool false) rfl rfl (decide_eq_false h86) rfl (Yl.pickF rfl hb88 rfl) (WL.val (v := .bool false) rfl (Yl.pickF rfl (decide_eq_false h86) rfl) (WL.nil (Fin.then (Wp.cond0 rfl rfl (Wp.skip (Fin.then (Wp.seq (Wp.seq (Wp.region (Mv rfl rfl (Mv rfl rfl (Sk rfl rfl hb82 rfl (Sk rfl rfl hb82 rfl (Sk rfl rfl hb82 rfl (Sk rfl rfl hb82 rfl (WL.val (v := .bool false) rfl (Yl.pickF rfl hb82 rfl) (WL.nil (Fin.then (Wp.cond0 rfl rfl (Wp.skip (Fin.then (Wp.seq (Wp.seq (Wp.region (Kn (v := .pointer (some ⟨g21, 2, none⟩)) rfl rfl rfl (fun _ => by kernel_rfl) (WL.val (v := .string ⟨List.toArray p0.xValue⟩) rfl (Yl.load rfl (Lds.one Try.isAgg9 (Cls.of (H23.cls (i := 0) rfl) rfl))) (Kn (v := .int .i64 ((p0.xValue.length : Nat) : Int)) rfl rfl rfl (fun _ => by kernel_rfl) (Kn (v := .bool (decide (((p0.xValue.length : Nat) : Int) > 16))) rfl rfl rfl (fun _ => by kernel_rfl) (WL.nil (Fin.then ?_)))))))))))))))))))))))))))))))))
  by_cases h89 : ((p0.xValue.length : Nat) : Int) > 16
  refine Wp.cond1 rfl (decide_eq_true h89) (Wp.seq (Wp.region (As rfl rfl (WL.nil (Fin.then (Wp.ret (Fin.thenR (Fin.res (res1 rfl rfl) ?_))))))))
  have H90 := H23.pick [] (by decide) rfl
  have e : r04_CheckOp p0 = 2 := Eq.trans (if_neg h24) (Eq.trans (if_neg h53) (Eq.trans (if_pos h80) (Eq.trans (if_neg h83) (Eq.trans (if_neg h86) (if_pos h89)))))
  obtain rfl := e.symm.trans hr
  exact ⟨rfl, H90, (by omega)⟩
  refine Wp.cond0 rfl (decide_eq_false h89) (Wp.skip (Fin.then (Wp.seq (Wp.seq (Wp.region (Mv rfl rfl (Mv rfl rfl (WL.valG (v := .pointer (some ⟨g21, 3, none⟩)) rfl rfl rfl rfl (Yl.kern rfl rfl (fun _ => by kernel_rfl)) (WL.valG (v := .string ⟨List.toArray p0.xLo⟩) rfl rfl rfl rfl (Yl.load rfl (Lds.one Try.isAgg9 (Cls.of (H23.cls (i := 0) rfl) rfl))) (WL.valG (v := .pointer (some ⟨g21, 4, none⟩)) rfl rfl rfl rfl (Yl.kern rfl rfl (fun _ => by kernel_rfl)) (WL.valG (v := .string ⟨List.toArray p0.xHi⟩) rfl rfl rfl rfl (Yl.load rfl (Lds.one Try.isAgg9 (Cls.of (H23.cls (i := 0) rfl) rfl))) (WL.valG (v := .agg #[.string ⟨List.toArray p0.xLo⟩, .string ⟨List.toArray p0.xHi⟩]) rfl rfl rfl rfl (Yl.kern rfl rfl (fun _ => by kernel_rfl)) ?_))))))))))))
  obtain ⟨r96, hr97⟩ : ∃ q, r02_Check (RangeD.mk p0.xLo p0.xHi) = q := ⟨_, rfl⟩
  obtain ⟨D91, HP92, ro93, bk94, rr95⟩ := Own.enter0 H23
  refine WL.doG rfl rfl rfl rfl (Do.call Try.call47 rfl (r02_Check_ok _ _ (RangeD.mk p0.xLo p0.xHi) r96 HP92 hr97) ?_)
  rintro _ w98 ⟨rfl, HQ99⟩
  have H100 := bk94 _ _ HQ99
  refine WL.valG (v := .bool (decide (¬ (r96 = 0)))) rfl rfl rfl rfl (Yl.bool (e := !(decide (r96 = 0))) (Yl.kern rfl rfl (fun _ => by kernel_rfl)) decide_not.symm) (WL.val (v := .bool (decide (¬ (r96 = 0)))) rfl (Yl.pickT rfl rfl rfl) (WL.nil (Fin.then ?_)))
  by_cases h101 : r96 = 0
  refine Wp.cond0 rfl (decide_eq_false (not_not_intro h101)) (Wp.skip (Fin.then (Wp.seq (Wp.seq (Wp.region (Kn (v := .pointer (some ⟨g21, 0, none⟩)) rfl rfl rfl (fun _ => by kernel_rfl) (WL.val (v := .int .i64 p0.xKind) rfl (Yl.load rfl (Lds.one Try.isAgg3 (Cls.of (H100.cls (i := 0) rfl) rfl))) (Kn (v := .bool (decide (p0.xKind = 4))) rfl rfl rfl (fun _ => by kernel_rfl) (Mv rfl rfl (WL.valG (v := .pointer (some ⟨g21, 5, none⟩)) rfl rfl (decide_eq_true h80) rfl (Yl.kern rfl rfl (fun _ => by kernel_rfl)) (WL.valG (v := .int .i64 p0.xMost) rfl rfl (decide_eq_true h80) rfl (Yl.load rfl (Lds.one Try.isAgg3 (Cls.of (H100.cls (i := 0) rfl) rfl))) (WL.valG (v := .bool (decide (p0.xMost < 1))) rfl rfl (decide_eq_true h80) rfl (Yl.kern rfl rfl (fun _ => by kernel_rfl)) (WL.valG (v := .bool (decide (p0.xMost < 1))) rfl rfl (decide_eq_true h80) rfl (Yl.move rfl) ?_)))))))))))))
  by_cases h102 : p0.xMost < 1
  refine Sk rfl rfl (decide_eq_true h102) rfl (Sk rfl rfl (decide_eq_true h102) rfl (Sk rfl rfl (decide_eq_true h102) rfl (WL.valG (v := .bool true) rfl rfl (decide_eq_true h80) rfl (Yl.pickT rfl (decide_eq_true h102) rfl) (WL.val (v := .bool true) rfl (Yl.pickT rfl (decide_eq_true h80) rfl) (WL.nil (Fin.then (Wp.cond1 rfl rfl (Wp.seq (Wp.region (As rfl rfl (WL.nil (Fin.then (Wp.ret (Fin.thenR (Fin.res (res1 rfl rfl) ?_)))))))))))))))
  have H103 := H100.pick [] (by decide) rfl
  have e : r04_CheckOp p0 = 1 := Eq.trans (if_neg h24) (Eq.trans (if_neg h53) (Eq.trans (if_pos h80) (Eq.trans (if_neg h83) (Eq.trans (if_neg h86) (Eq.trans (if_neg h89) (Eq.trans (bnd_of hr97) (Eq.trans (if_pos h101) (if_pos h102))))))))
  obtain rfl := e.symm.trans hr
  exact ⟨rfl, H103, (by omega)⟩
  refine WL.valG (v := .pointer (some ⟨g21, 5, none⟩)) rfl rfl (decide_eq_false h102) rfl (Yl.kern rfl rfl (fun _ => by kernel_rfl)) (WL.valG (v := .int .i64 p0.xMost) rfl rfl (decide_eq_false h102) rfl (Yl.load rfl (Lds.one Try.isAgg3 (Cls.of (H100.cls (i := 0) rfl) rfl))) (WL.valG (v := .bool (decide (p0.xMost > 4))) rfl rfl (decide_eq_false h102) rfl (Yl.kern rfl rfl (fun _ => by kernel_rfl)) (WL.valG (v := .bool (decide (p0.xMost > 4))) rfl rfl (decide_eq_true h80) rfl (Yl.pickF rfl (decide_eq_false h102) rfl) (WL.val (v := .bool (decide (p0.xMost > 4))) rfl (Yl.pickT rfl (decide_eq_true h80) rfl) (WL.nil (Fin.then ?_))))))
  by_cases h104 : p0.xMost > 4
  refine Wp.cond1 rfl (decide_eq_true h104) (Wp.seq (Wp.region (As rfl rfl (WL.nil (Fin.then (Wp.ret (Fin.thenR (Fin.res (res1 rfl rfl) ?_))))))))
  have H105 := H100.pick [] (by decide) rfl
  have e : r04_CheckOp p0 = 1 := Eq.trans (if_neg h24) (Eq.trans (if_neg h53) (Eq.trans (if_pos h80) (Eq.trans (if_neg h83) (Eq.trans (if_neg h86) (Eq.trans (if_neg h89) (Eq.trans (bnd_of hr97) (Eq.trans (if_pos h101) (Eq.trans (if_neg h102) (if_pos h104)))))))))
  obtain rfl := e.symm.trans hr
  exact ⟨rfl, H105, (by omega)⟩
  refine Wp.cond0 rfl (decide_eq_false h104) (Wp.skip (Fin.then (Wp.seq (Wp.region (As rfl rfl (WL.nil (Fin.then (Wp.ret (Fin.res (res1 rfl rfl) ?_)))))))))
  have H106 := H100.pick [] (by decide) rfl
  have e : r04_CheckOp p0 = 0 := Eq.trans (if_neg h24) (Eq.trans (if_neg h53) (Eq.trans (if_pos h80) (Eq.trans (if_neg h83) (Eq.trans (if_neg h86) (Eq.trans (if_neg h89) (Eq.trans (bnd_of hr97) (Eq.trans (if_pos h101) (Eq.trans (if_neg h102) (if_neg h104)))))))))
  obtain rfl := e.symm.trans hr
  exact ⟨rfl, H106, (by omega)⟩
  refine Wp.cond1 rfl (decide_eq_true h101) (Wp.seq (Wp.region (As rfl rfl (WL.nil (Fin.then (Wp.ret (Fin.thenR (Fin.res (res1 rfl rfl) ?_))))))))
  have H107 := H100.pick [] (by decide) rfl
  have e : r04_CheckOp p0 = 21 := Eq.trans (if_neg h24) (Eq.trans (if_neg h53) (Eq.trans (if_pos h80) (Eq.trans (if_neg h83) (Eq.trans (if_neg h86) (Eq.trans (if_neg h89) (Eq.trans (bnd_of hr97) (if_neg h101)))))))
  obtain rfl := e.symm.trans hr
  exact ⟨rfl, H107, (by omega)⟩
  refine WL.valG (v := .pointer (some ⟨g21, 0, none⟩)) rfl rfl (decide_eq_false h80) rfl (Yl.kern rfl rfl (fun _ => by kernel_rfl)) (WL.valG (v := .int .i64 p0.xKind) rfl rfl (decide_eq_false h80) rfl (Yl.load rfl (Lds.one Try.isAgg3 (Cls.of (H23.cls (i := 0) rfl) rfl))) (WL.valG (v := .bool (decide (p0.xKind = 5))) rfl rfl (decide_eq_false h80) rfl (Yl.kern rfl rfl (fun _ => by kernel_rfl)) (WL.val (v := .bool (decide (p0.xKind = 5))) rfl (Yl.pickF rfl (decide_eq_false h80) rfl) (As rfl rfl (WL.nil (Fin.then (Wp.seq (Wp.seq (Wp.region (Mv rfl rfl (WL.val (v := .bool (decide (¬ (p0.xKind = 3)))) rfl (Yl.bool (e := !(decide (p0.xKind = 3))) (Yl.kern rfl rfl (fun _ => by kernel_rfl)) decide_not.symm) (Mv rfl rfl ?_))))))))))))
  by_cases h108 : p0.xKind = 3
  refine Sk rfl rfl (decide_eq_false (not_not_intro h108)) rfl (Sk rfl rfl (decide_eq_false (not_not_intro h108)) rfl (WL.val (v := .bool false) rfl (Yl.pickF rfl (decide_eq_false (not_not_intro h108)) rfl) (Mv rfl rfl (WL.valG (v := .bool (decide (p0.xKind = 3))) rfl rfl rfl rfl (Yl.move rfl) (WL.valG (v := .bool (decide (p0.xKind = 3))) rfl rfl rfl rfl (Yl.move rfl) (WL.valG (v := .pointer (some ⟨g21, 3, none⟩)) rfl rfl (decide_eq_true h108) rfl (Yl.kern rfl rfl (fun _ => by kernel_rfl)) (WL.valG (v := .string ⟨List.toArray p0.xLo⟩) rfl rfl (decide_eq_true h108) rfl (Yl.load rfl (Lds.one Try.isAgg9 (Cls.of (H23.cls (i := 0) rfl) rfl))) (WL.valG (v := .bool (decide (p0.xLo ≠ ([])))) rfl rfl (decide_eq_true h108) rfl (Yl.strNe rfl rfl) (WL.valG (v := .bool (decide (p0.xLo ≠ ([])))) rfl rfl (decide_eq_true h108) rfl (Yl.move rfl) ?_)))))))))
  by_cases h109 : p0.xLo ≠ ([])
  refine Sk rfl rfl (decide_eq_true h109) rfl (Sk rfl rfl (decide_eq_true h109) rfl (Sk rfl rfl (decide_eq_true h109) rfl (WL.valG (v := .bool true) rfl rfl (decide_eq_true h108) rfl (Yl.pickT rfl (decide_eq_true h109) rfl) (WL.valG (v := .bool true) rfl rfl rfl rfl (Yl.pickT rfl (decide_eq_true h108) rfl) (WL.val (v := .bool true) rfl (Yl.pickF rfl rfl rfl) (Mv rfl rfl (Sk rfl rfl rfl rfl (Sk rfl rfl rfl rfl (WL.skipU rfl rfl rfl (WL.skipU rfl rfl rfl (WL.skipU rfl rfl rfl (Sk rfl rfl rfl rfl (WL.val (v := .bool true) rfl (Yl.pickT rfl rfl rfl) (Mv rfl rfl (Sk rfl rfl rfl rfl (Sk rfl rfl rfl rfl (Sk rfl rfl rfl rfl (Sk rfl rfl rfl rfl (WL.skipU rfl rfl rfl (WL.skipU rfl rfl rfl (WL.skipU rfl rfl rfl (Sk rfl rfl rfl rfl (WL.val (v := .bool true) rfl (Yl.pickT rfl rfl rfl) (Mv rfl rfl (Sk rfl rfl rfl rfl (Sk rfl rfl rfl rfl (Sk rfl rfl rfl rfl (Sk rfl rfl rfl rfl (WL.skipU rfl rfl rfl (WL.skipU rfl rfl rfl (WL.skipU rfl rfl rfl (Sk rfl rfl rfl rfl (WL.val (v := .bool true) rfl (Yl.pickT rfl rfl rfl) (WL.nil (Fin.then (Wp.cond1 rfl rfl (Wp.seq (Wp.region (As rfl rfl ?_)))))))))))))))))))))))))))))))))))))))
  refine WL.nil (Fin.then (Wp.ret (Fin.thenR (Fin.res (res1 rfl rfl) ?_))))
  have H110 := H23.pick [] (by decide) rfl
  have e : r04_CheckOp p0 = 40 := Eq.trans (if_neg h24) (Eq.trans (if_neg h53) (Eq.trans (if_neg h80) (Eq.trans (if_pos h108) (if_pos h109))))
  obtain rfl := e.symm.trans hr
  exact ⟨rfl, H110, (by omega)⟩
  refine WL.valG (v := .pointer (some ⟨g21, 4, none⟩)) rfl rfl (decide_eq_false h109) rfl (Yl.kern rfl rfl (fun _ => by kernel_rfl)) (WL.valG (v := .string ⟨List.toArray p0.xHi⟩) rfl rfl (decide_eq_false h109) rfl (Yl.load rfl (Lds.one Try.isAgg9 (Cls.of (H23.cls (i := 0) rfl) rfl))) (WL.valG (v := .bool (decide (p0.xHi ≠ ([])))) rfl rfl (decide_eq_false h109) rfl (Yl.strNe rfl rfl) (WL.valG (v := .bool (decide (p0.xHi ≠ ([])))) rfl rfl (decide_eq_true h108) rfl (Yl.pickF rfl (decide_eq_false h109) rfl) (WL.valG (v := .bool (decide (p0.xHi ≠ ([])))) rfl rfl rfl rfl (Yl.pickT rfl (decide_eq_true h108) rfl) (WL.val (v := .bool (decide (p0.xHi ≠ ([])))) rfl (Yl.pickF rfl rfl rfl) (Mv rfl rfl ?_))))))
  by_cases h111 : p0.xHi ≠ ([])
  refine Sk rfl rfl (decide_eq_true h111) rfl (Sk rfl rfl (decide_eq_true h111) rfl (WL.skipU rfl rfl rfl (WL.skipU rfl rfl rfl (WL.skipU rfl rfl rfl (Sk rfl rfl (decide_eq_true h111) rfl (WL.val (v := .bool true) rfl (Yl.pickT rfl (decide_eq_true h111) rfl) (Mv rfl rfl (Sk rfl rfl rfl rfl (Sk rfl rfl rfl rfl (Sk rfl rfl rfl rfl (Sk rfl rfl rfl rfl (WL.skipU rfl rfl rfl (WL.skipU rfl rfl rfl (WL.skipU rfl rfl rfl (Sk rfl rfl rfl rfl (WL.val (v := .bool true) rfl (Yl.pickT rfl rfl rfl) (Mv rfl rfl (Sk rfl rfl rfl rfl (Sk rfl rfl rfl rfl (Sk rfl rfl rfl rfl (Sk rfl rfl rfl rfl (WL.skipU rfl rfl rfl (WL.skipU rfl rfl rfl (WL.skipU rfl rfl rfl (Sk rfl rfl rfl rfl (WL.val (v := .bool true) rfl (Yl.pickT rfl rfl rfl) (WL.nil (Fin.then (Wp.cond1 rfl rfl (Wp.seq (Wp.region (As rfl rfl (WL.nil (Fin.then (Wp.ret (Fin.thenR (Fin.res (res1 rfl rfl) ?_)))))))))))))))))))))))))))))))))))))
  have H112 := H23.pick [] (by decide) rfl
  have e : r04_CheckOp p0 = 40 := Eq.trans (if_neg h24) (Eq.trans (if_neg h53) (Eq.trans (if_neg h80) (Eq.trans (if_pos h108) (Eq.trans (if_neg h109) (if_pos h111)))))
  obtain rfl := e.symm.trans hr
  exact ⟨rfl, H112, (by omega)⟩
  refine WL.valG (v := .bool (decide (p0.xKind = 5))) rfl rfl (decide_eq_false h111) rfl (Yl.move rfl) (WL.valG (v := .bool (decide (p0.xKind = 5))) rfl rfl (decide_eq_false h111) rfl (Yl.move rfl) ?_)
  have hb113 : (decide (p0.xKind = 5)) = false := (decide_eq_false (by omega))
  refine Sk rfl rfl hb113 rfl (Sk rfl rfl hb113 rfl (Sk rfl rfl hb113 rfl (WL.valG (v := .bool false) rfl rfl (decide_eq_false h111) rfl (Yl.pickF rfl hb113 rfl) (WL.val (v := .bool false) rfl (Yl.pickF rfl (decide_eq_false h111) rfl) (Mv rfl rfl (WL.valG (v := .pointer (some ⟨g21, 0, none⟩)) rfl rfl rfl rfl (Yl.kern rfl rfl (fun _ => by kernel_rfl)) (WL.valG (v := .int .i64 p0.xKind) rfl rfl rfl rfl (Yl.load rfl (Lds.one Try.isAgg3 (Cls.of (H23.cls (i := 0) rfl) rfl))) (WL.valG (v := .bool (decide (¬ (p0.xKind = 2)))) rfl rfl rfl rfl (Yl.bool (e := !(decide (p0.xKind = 2))) (Yl.kern rfl rfl (fun _ => by kernel_rfl)) decide_not.symm) (WL.valG (v := .bool (decide (¬ (p0.xKind = 2)))) rfl rfl rfl rfl (Yl.move rfl) ?_)))))))))
  have hb114 : (decide (¬ (p0.xKind = 2))) = true := (decide_eq_true (by omega))
  refine WL.valG (v := .pointer (some ⟨g21, 2, none⟩)) rfl rfl hb114 rfl (Yl.kern rfl rfl (fun _ => by kernel_rfl)) (WL.valG (v := .string ⟨List.toArray p0.xValue⟩) rfl rfl hb114 rfl (Yl.load rfl (Lds.one Try.isAgg9 (Cls.of (H23.cls (i := 0) rfl) rfl))) (WL.valG (v := .bool (decide (p0.xValue ≠ ([])))) rfl rfl hb114 rfl (Yl.strNe rfl rfl) (WL.valG (v := .bool (decide (p0.xValue ≠ ([])))) rfl rfl rfl rfl (Yl.pickT rfl hb114 rfl) (WL.val (v := .bool (decide (p0.xValue ≠ ([])))) rfl (Yl.pickF rfl rfl rfl) (Mv rfl rfl ?_)))))
  by_cases h115 : p0.xValue ≠ ([])
  refine Sk rfl rfl (decide_eq_true h115) rfl (Sk rfl rfl (decide_eq_true h115) rfl (Sk rfl rfl (decide_eq_true h115) rfl (Sk rfl rfl (decide_eq_true h115) rfl (WL.skipU rfl rfl rfl (WL.skipU rfl rfl rfl (WL.skipU rfl rfl rfl (Sk rfl rfl (decide_eq_true h115) rfl (WL.val (v := .bool true) rfl (Yl.pickT rfl (decide_eq_true h115) rfl) (WL.nil (Fin.then (Wp.cond1 rfl rfl (Wp.seq (Wp.region (As rfl rfl (WL.nil (Fin.then (Wp.ret (Fin.thenR (Fin.res (res1 rfl rfl) ?_)))))))))))))))))))
  have H116 := H23.pick [] (by decide) rfl
  have e : r04_CheckOp p0 = 40 := Eq.trans (if_neg h24) (Eq.trans (if_neg h53) (Eq.trans (if_neg h80) (Eq.trans (if_pos h108) (Eq.trans (if_neg h109) (Eq.trans (if_neg h111) (if_pos h115))))))
  obtain rfl := e.symm.trans hr
  exact ⟨rfl, H116, (by omega)⟩
  refine WL.valG (v := .pointer (some ⟨g21, 0, none⟩)) rfl rfl (decide_eq_false h115) rfl (Yl.kern rfl rfl (fun _ => by kernel_rfl)) (WL.valG (v := .int .i64 p0.xKind) rfl rfl (decide_eq_false h115) rfl (Yl.load rfl (Lds.one Try.isAgg3 (Cls.of (H23.cls (i := 0) rfl) rfl))) (WL.valG (v := .bool (decide (¬ (p0.xKind = 4)))) rfl rfl (decide_eq_false h115) rfl (Yl.bool (e := !(decide (p0.xKind = 4))) (Yl.kern rfl rfl (fun _ => by kernel_rfl)) decide_not.symm) (WL.valG (v := .bool (decide (¬ (p0.xKind = 4)))) rfl rfl (decide_eq_false h115) rfl (Yl.move rfl) ?_)))
  have hb117 : (decide (¬ (p0.xKind = 4))) = true := (decide_eq_true (by omega))
  refine WL.valG (v := .pointer (some ⟨g21, 5, none⟩)) rfl rfl hb117 rfl (Yl.kern rfl rfl (fun _ => by kernel_rfl)) (WL.valG (v := .int .i64 p0.xMost) rfl rfl hb117 rfl (Yl.load rfl (Lds.one Try.isAgg3 (Cls.of (H23.cls (i := 0) rfl) rfl))) (WL.valG (v := .bool (decide (¬ (p0.xMost = 0)))) rfl rfl hb117 rfl (Yl.bool (e := !(decide (p0.xMost = 0))) (Yl.kern rfl rfl (fun _ => by kernel_rfl)) decide_not.symm) (WL.valG (v := .bool (decide (¬ (p0.xMost = 0)))) rfl rfl (decide_eq_false h115) rfl (Yl.pickT rfl hb117 rfl) (WL.val (v := .bool (decide (¬ (p0.xMost = 0)))) rfl (Yl.pickF rfl (decide_eq_false h115) rfl) (WL.nil (Fin.then ?_))))))
  by_cases h118 : p0.xMost = 0
  refine Wp.cond0 rfl (decide_eq_false (not_not_intro h118)) (Wp.skip (Fin.then (Wp.seq (Wp.seq (Wp.region (Mv rfl rfl (Mv rfl rfl (WL.valG (v := .pointer (some ⟨g21, 1, none⟩)) rfl rfl (decide_eq_true h108) rfl (Yl.kern rfl rfl (fun _ => by kernel_rfl)) (WL.valG (v := .string ⟨List.toArray p0.xKey⟩) rfl rfl (decide_eq_true h108) rfl (Yl.load rfl (Lds.one Try.isAgg9 (Cls.of (H23.cls (i := 0) rfl) rfl))) ?_)))))))))
  obtain ⟨r124, hr125⟩ : ∃ q, r02_CheckKey p0.xKey = q := ⟨_, rfl⟩
  obtain ⟨D119, HP120, ro121, bk122, rr123⟩ := Own.enter0 H23
  refine WL.doG rfl rfl (decide_eq_true h108) rfl (Do.call Try.call17 rfl (r02_CheckKey_ok _ _ p0.xKey r124 HP120 hr125) ?_)
  rintro _ w126 ⟨rfl, HQ127, hk129⟩
  have H128 := bk122 _ _ HQ127
  replace hk129 : ¬ (r124 = 0) ∨ (1 ≤ p0.xKey.length ∧ p0.xKey.length ≤ 12) := hk129
  refine WL.valG (v := .bool (decide (¬ (r124 = 0)))) rfl rfl (decide_eq_true h108) rfl (Yl.bool (e := !(decide (r124 = 0))) (Yl.kern rfl rfl (fun _ => by kernel_rfl)) decide_not.symm) (WL.val (v := .bool (decide (¬ (r124 = 0)))) rfl (Yl.pickT rfl (decide_eq_true h108) rfl) (WL.nil (Fin.then ?_)))
  by_cases h130 : r124 = 0
  refine Wp.cond0 rfl (decide_eq_false (not_not_intro h130)) (Wp.skip (Fin.then (Wp.seq (Wp.seq (Wp.region (Kn (v := .pointer (some ⟨g21, 2, none⟩)) rfl rfl rfl (fun _ => by kernel_rfl) (WL.val (v := .string ⟨List.toArray p0.xValue⟩) rfl (Yl.load rfl (Lds.one Try.isAgg9 (Cls.of (H128.cls (i := 0) rfl) rfl))) (Kn (v := .int .i64 ((p0.xValue.length : Nat) : Int)) rfl rfl rfl (fun _ => by kernel_rfl) (Kn (v := .bool (decide (((p0.xValue.length : Nat) : Int) > 16))) rfl rfl rfl (fun _ => by kernel_rfl) (WL.nil (Fin.then ?_)))))))))))
  by_cases h131 : ((p0.xValue.length : Nat) : Int) > 16
  refine Wp.cond1 rfl (decide_eq_true h131) (Wp.seq (Wp.region (As rfl rfl (WL.nil (Fin.then (Wp.ret (Fin.thenR (Fin.res (res1 rfl rfl) ?_))))))))
  have H132 := H128.pick [] (by decide) rfl
  have e : r04_CheckOp p0 = 2 := Eq.trans (if_neg h24) (Eq.trans (if_neg h53) (Eq.trans (if_neg h80) (Eq.trans (if_pos h108) (Eq.trans (if_neg h109) (Eq.trans (if_neg h111) (Eq.trans (if_neg h115) (Eq.trans (if_pos h118) (Eq.trans (bnd_of hr125) (Eq.trans (if_pos h130) (if_pos h131))))))))))
  obtain rfl := e.symm.trans hr
  exact ⟨rfl, H132, (by omega)⟩
  refine Wp.cond0 rfl (decide_eq_false h131) (Wp.skip (Fin.then (Wp.seq (Wp.seq (Wp.region (Mv rfl rfl (Mv rfl rfl (Sk rfl rfl hb113 rfl (Sk rfl rfl hb113 rfl (Sk rfl rfl hb113 rfl (Sk rfl rfl hb113 rfl (Sk rfl rfl hb113 rfl (Sk rfl rfl hb113 rfl (Sk rfl rfl hb113 rfl (WL.val (v := .bool false) rfl (Yl.pickF rfl hb113 rfl) (WL.nil (Fin.then (Wp.cond0 rfl rfl (Wp.skip (Fin.then (Wp.seq (Wp.seq (Wp.region (Kn (v := .pointer (some ⟨g21, 0, none⟩)) rfl rfl rfl (fun _ => by kernel_rfl) (WL.val (v := .int .i64 p0.xKind) rfl (Yl.load rfl (Lds.one Try.isAgg3 (Cls.of (H128.cls (i := 0) rfl) rfl))) (Kn (v := .bool (decide (p0.xKind = 4))) rfl rfl rfl (fun _ => by kernel_rfl) (Mv rfl rfl (Sk rfl rfl (decide_eq_false h80) rfl (Sk rfl rfl (decide_eq_false h80) rfl (Sk rfl rfl (decide_eq_false h80) rfl (Sk rfl rfl (decide_eq_false h80) rfl (WL.skipU rfl rfl rfl (WL.skipU rfl rfl rfl (WL.skipU rfl rfl rfl (Sk rfl rfl (decide_eq_false h80) rfl (WL.val (v := .bool false) rfl (Yl.pickF rfl (decide_eq_false h80) rfl) (WL.nil (Fin.then (Wp.cond0 rfl rfl ?_)))))))))))))))))))))))))))))))))))))))
  refine Wp.skip (Fin.then (Wp.seq (Wp.region (As rfl rfl (WL.nil (Fin.then (Wp.ret (Fin.res (res1 rfl rfl) ?_))))))))
  have H133 := H128.pick [] (by decide) rfl
  have e : r04_CheckOp p0 = 0 := Eq.trans (if_neg h24) (Eq.trans (if_neg h53) (Eq.trans (if_neg h80) (Eq.trans (if_pos h108) (Eq.trans (if_neg h109) (Eq.trans (if_neg h111) (Eq.trans (if_neg h115) (Eq.trans (if_pos h118) (Eq.trans (bnd_of hr125) (Eq.trans (if_pos h130) (if_neg h131))))))))))
  obtain rfl := e.symm.trans hr
  exact ⟨rfl, H133, (by omega)⟩
  refine Wp.cond1 rfl (decide_eq_true h130) (Wp.seq (Wp.region (As rfl rfl (WL.nil (Fin.then (Wp.ret (Fin.thenR (Fin.res (res1 rfl rfl) ?_))))))))
  have H134 := H128.pick [] (by decide) rfl
  have e : r04_CheckOp p0 = 20 := Eq.trans (if_neg h24) (Eq.trans (if_neg h53) (Eq.trans (if_neg h80) (Eq.trans (if_pos h108) (Eq.trans (if_neg h109) (Eq.trans (if_neg h111) (Eq.trans (if_neg h115) (Eq.trans (if_pos h118) (Eq.trans (bnd_of hr125) (if_neg h130)))))))))
  obtain rfl := e.symm.trans hr
  exact ⟨rfl, H134, (by omega)⟩
  refine Wp.cond1 rfl (decide_eq_true h118) (Wp.seq (Wp.region (As rfl rfl (WL.nil (Fin.then (Wp.ret (Fin.thenR (Fin.res (res1 rfl rfl) ?_))))))))
  have H135 := H23.pick [] (by decide) rfl
  have e : r04_CheckOp p0 = 40 := Eq.trans (if_neg h24) (Eq.trans (if_neg h53) (Eq.trans (if_neg h80) (Eq.trans (if_pos h108) (Eq.trans (if_neg h109) (Eq.trans (if_neg h111) (Eq.trans (if_neg h115) (if_neg h118)))))))
  obtain rfl := e.symm.trans hr
  exact ⟨rfl, H135, (by omega)⟩
  refine WL.valG (v := .bool (decide (p0.xKind = 5))) rfl rfl (decide_eq_true h108) rfl (Yl.move rfl) (WL.valG (v := .bool (decide (¬ (p0.xKind = 5)))) rfl rfl (decide_eq_true h108) rfl (Yl.bool (e := !(decide (p0.xKind = 5))) (Yl.kern rfl rfl (fun _ => by kernel_rfl)) decide_not.symm) (WL.val (v := .bool (decide (¬ (p0.xKind = 5)))) rfl (Yl.pickT rfl (decide_eq_true h108) rfl) (Mv rfl rfl ?_)))
  by_cases h136 : p0.xKind = 5
  refine WL.valG (v := .bool (decide (p0.xKind = 3))) rfl rfl (decide_eq_false (not_not_intro h136)) rfl (Yl.move rfl) (WL.valG (v := .bool (decide (p0.xKind = 3))) rfl rfl (decide_eq_false (not_not_intro h136)) rfl (Yl.move rfl) (Sk rfl rfl (decide_eq_false h108) rfl (Sk rfl rfl (decide_eq_false h108) rfl (Sk rfl rfl (decide_eq_false h108) rfl (Sk rfl rfl (decide_eq_false h108) rfl (WL.skipU rfl rfl rfl (WL.skipU rfl rfl rfl (WL.skipU rfl rfl rfl (Sk rfl rfl (decide_eq_false h108) rfl (WL.valG (v := .bool false) rfl rfl (decide_eq_false (not_not_intro h136)) rfl (Yl.pickF rfl (decide_eq_false h108) rfl) (WL.val (v := .bool false) rfl (Yl.pickF rfl (decide_eq_false (not_not_intro h136)) rfl) (Mv rfl rfl (WL.valG (v := .bool (decide (p0.xKind = 5))) rfl rfl rfl rfl (Yl.move rfl) (WL.valG (v := .bool (decide (p0.xKind = 5))) rfl rfl rfl rfl (Yl.move rfl) (WL.valG (v := .pointer (some ⟨g21, 1, none⟩)) rfl rfl (decide_eq_true h136) rfl (Yl.kern rfl rfl (fun _ => by kernel_rfl)) (WL.valG (v := .string ⟨List.toArray p0.xKey⟩) rfl rfl (decide_eq_true h136) rfl (Yl.load rfl (Lds.one Try.isAgg9 (Cls.of (H23.cls (i := 0) rfl) rfl))) (WL.valG (v := .bool (decide (p0.xKey ≠ ([])))) rfl rfl (decide_eq_true h136) rfl (Yl.strNe rfl rfl) (WL.valG (v := .bool (decide (p0.xKey ≠ ([])))) rfl rfl rfl rfl (Yl.pickT rfl (decide_eq_true h136) rfl) (WL.val (v := .bool (decide (p0.xKey ≠ ([])))) rfl (Yl.pickF rfl rfl rfl) (Mv rfl rfl ?_))))))))))))))))))))
  by_cases h137 : p0.xKey ≠ ([])
  refine Sk rfl rfl (decide_eq_true h137) rfl (Sk rfl rfl (decide_eq_true h137) rfl (Sk rfl rfl (decide_eq_true h137) rfl (Sk rfl rfl (decide_eq_true h137) rfl (WL.skipU rfl rfl rfl (WL.skipU rfl rfl rfl (WL.skipU rfl rfl rfl (Sk rfl rfl (decide_eq_true h137) rfl (WL.val (v := .bool true) rfl (Yl.pickT rfl (decide_eq_true h137) rfl) (Mv rfl rfl (Sk rfl rfl rfl rfl (Sk rfl rfl rfl rfl (Sk rfl rfl rfl rfl (Sk rfl rfl rfl rfl (WL.skipU rfl rfl rfl (WL.skipU rfl rfl rfl (WL.skipU rfl rfl rfl (Sk rfl rfl rfl rfl (WL.val (v := .bool true) rfl (Yl.pickT rfl rfl rfl) (WL.nil (Fin.then (Wp.cond1 rfl rfl (Wp.seq (Wp.region (As rfl rfl (WL.nil (Fin.then (Wp.ret (Fin.thenR (Fin.res (res1 rfl rfl) ?_)))))))))))))))))))))))))))))
  have H138 := H23.pick [] (by decide) rfl
  have e : r04_CheckOp p0 = 40 := Eq.trans (if_neg h24) (Eq.trans (if_neg h53) (Eq.trans (if_neg h80) (Eq.trans (if_neg h108) (Eq.trans (if_pos h136) (if_pos h137)))))
  obtain rfl := e.symm.trans hr
  exact ⟨rfl, H138, (by omega)⟩
  refine WL.valG (v := .pointer (some ⟨g21, 0, none⟩)) rfl rfl (decide_eq_false h137) rfl (Yl.kern rfl rfl (fun _ => by kernel_rfl)) (WL.valG (v := .int .i64 p0.xKind) rfl rfl (decide_eq_false h137) rfl (Yl.load rfl (Lds.one Try.isAgg3 (Cls.of (H23.cls (i := 0) rfl) rfl))) (WL.valG (v := .bool (decide (¬ (p0.xKind = 2)))) rfl rfl (decide_eq_false h137) rfl (Yl.bool (e := !(decide (p0.xKind = 2))) (Yl.kern rfl rfl (fun _ => by kernel_rfl)) decide_not.symm) (WL.valG (v := .bool (decide (¬ (p0.xKind = 2)))) rfl rfl (decide_eq_false h137) rfl (Yl.move rfl) ?_)))
  have hb139 : (decide (¬ (p0.xKind = 2))) = true := (decide_eq_true (by omega))
  refine WL.valG (v := .pointer (some ⟨g21, 2, none⟩)) rfl rfl hb139 rfl (Yl.kern rfl rfl (fun _ => by kernel_rfl)) (WL.valG (v := .string ⟨List.toArray p0.xValue⟩) rfl rfl hb139 rfl (Yl.load rfl (Lds.one Try.isAgg9 (Cls.of (H23.cls (i := 0) rfl) rfl))) (WL.valG (v := .bool (decide (p0.xValue ≠ ([])))) rfl rfl hb139 rfl (Yl.strNe rfl rfl) (WL.valG (v := .bool (decide (p0.xValue ≠ ([])))) rfl rfl (decide_eq_false h137) rfl (Yl.pickT rfl hb139 rfl) (WL.val (v := .bool (decide (p0.xValue ≠ ([])))) rfl (Yl.pickF rfl (decide_eq_false h137) rfl) (Mv rfl rfl ?_)))))
  by_cases h140 : p0.xValue ≠ ([])
  refine Sk rfl rfl (decide_eq_true h140) rfl (Sk rfl rfl (decide_eq_true h140) rfl (Sk rfl rfl (decide_eq_true h140) rfl (Sk rfl rfl (decide_eq_true h140) rfl (WL.skipU rfl rfl rfl (WL.skipU rfl rfl rfl (WL.skipU rfl rfl rfl (Sk rfl rfl (decide_eq_true h140) rfl (WL.val (v := .bool true) rfl (Yl.pickT rfl (decide_eq_true h140) rfl) (WL.nil (Fin.then (Wp.cond1 rfl rfl (Wp.seq (Wp.region (As rfl rfl (WL.nil (Fin.then (Wp.ret (Fin.thenR (Fin.res (res1 rfl rfl) ?_)))))))))))))))))))
  have H141 := H23.pick [] (by decide) rfl
  have e : r04_CheckOp p0 = 40 := Eq.trans (if_neg h24) (Eq.trans (if_neg h53) (Eq.trans (if_neg h80) (Eq.trans (if_neg h108) (Eq.trans (if_pos h136) (Eq.trans (if_neg h137) (if_pos h140))))))
  obtain rfl := e.symm.trans hr
  exact ⟨rfl, H141, (by omega)⟩
  refine WL.valG (v := .pointer (some ⟨g21, 0, none⟩)) rfl rfl (decide_eq_false h140) rfl (Yl.kern rfl rfl (fun _ => by kernel_rfl)) (WL.valG (v := .int .i64 p0.xKind) rfl rfl (decide_eq_false h140) rfl (Yl.load rfl (Lds.one Try.isAgg3 (Cls.of (H23.cls (i := 0) rfl) rfl))) (WL.valG (v := .bool (decide (¬ (p0.xKind = 4)))) rfl rfl (decide_eq_false h140) rfl (Yl.bool (e := !(decide (p0.xKind = 4))) (Yl.kern rfl rfl (fun _ => by kernel_rfl)) decide_not.symm) (WL.valG (v := .bool (decide (¬ (p0.xKind = 4)))) rfl rfl (decide_eq_false h140) rfl (Yl.move rfl) ?_)))
  have hb142 : (decide (¬ (p0.xKind = 4))) = true := (decide_eq_true (by omega))
  refine WL.valG (v := .pointer (some ⟨g21, 5, none⟩)) rfl rfl hb142 rfl (Yl.kern rfl rfl (fun _ => by kernel_rfl)) (WL.valG (v := .int .i64 p0.xMost) rfl rfl hb142 rfl (Yl.load rfl (Lds.one Try.isAgg3 (Cls.of (H23.cls (i := 0) rfl) rfl))) (WL.valG (v := .bool (decide (¬ (p0.xMost = 0)))) rfl rfl hb142 rfl (Yl.bool (e := !(decide (p0.xMost = 0))) (Yl.kern rfl rfl (fun _ => by kernel_rfl)) decide_not.symm) (WL.valG (v := .bool (decide (¬ (p0.xMost = 0)))) rfl rfl (decide_eq_false h140) rfl (Yl.pickT rfl hb142 rfl) (WL.val (v := .bool (decide (¬ (p0.xMost = 0)))) rfl (Yl.pickF rfl (decide_eq_false h140) rfl) (WL.nil (Fin.then ?_))))))
  by_cases h143 : p0.xMost = 0
  refine Wp.cond0 rfl (decide_eq_false (not_not_intro h143)) (Wp.skip (Fin.then (Wp.seq (Wp.seq (Wp.region (Mv rfl rfl (Mv rfl rfl (Sk rfl rfl (decide_eq_false h108) rfl (Sk rfl rfl (decide_eq_false h108) rfl (Sk rfl rfl (decide_eq_false h108) rfl (Sk rfl rfl (decide_eq_false h108) rfl (WL.val (v := .bool false) rfl (Yl.pickF rfl (decide_eq_false h108) rfl) (WL.nil (Fin.then (Wp.cond0 rfl rfl (Wp.skip (Fin.then (Wp.seq (Wp.seq (Wp.region (Kn (v := .pointer (some ⟨g21, 2, none⟩)) rfl rfl rfl (fun _ => by kernel_rfl) (WL.val (v := .string ⟨List.toArray p0.xValue⟩) rfl (Yl.load rfl (Lds.one Try.isAgg9 (Cls.of (H23.cls (i := 0) rfl) rfl))) (Kn (v := .int .i64 ((p0.xValue.length : Nat) : Int)) rfl rfl rfl (fun _ => by kernel_rfl) (Kn (v := .bool (decide (((p0.xValue.length : Nat) : Int) > 16))) rfl rfl rfl (fun _ => by kernel_rfl) (WL.nil (Fin.then ?_))))))))))))))))))))))))))
  by_cases h144 : ((p0.xValue.length : Nat) : Int) > 16
  refine Wp.cond1 rfl (decide_eq_true h144) (Wp.seq (Wp.region (As rfl rfl (WL.nil (Fin.then (Wp.ret (Fin.thenR (Fin.res (res1 rfl rfl) ?_))))))))
  have H145 := H23.pick [] (by decide) rfl
  have e : r04_CheckOp p0 = 2 := Eq.trans (if_neg h24) (Eq.trans (if_neg h53) (Eq.trans (if_neg h80) (Eq.trans (if_neg h108) (Eq.trans (if_pos h136) (Eq.trans (if_neg h137) (Eq.trans (if_neg h140) (Eq.trans (if_pos h143) (if_pos h144))))))))
  obtain rfl := e.symm.trans hr
  exact ⟨rfl, H145, (by omega)⟩
  refine Wp.cond0 rfl (decide_eq_false h144) (Wp.skip (Fin.then (Wp.seq (Wp.seq (Wp.region (Mv rfl rfl (Mv rfl rfl (WL.valG (v := .pointer (some ⟨g21, 3, none⟩)) rfl rfl (decide_eq_true h136) rfl (Yl.kern rfl rfl (fun _ => by kernel_rfl)) (WL.valG (v := .string ⟨List.toArray p0.xLo⟩) rfl rfl (decide_eq_true h136) rfl (Yl.load rfl (Lds.one Try.isAgg9 (Cls.of (H23.cls (i := 0) rfl) rfl))) (WL.valG (v := .pointer (some ⟨g21, 4, none⟩)) rfl rfl (decide_eq_true h136) rfl (Yl.kern rfl rfl (fun _ => by kernel_rfl)) (WL.valG (v := .string ⟨List.toArray p0.xHi⟩) rfl rfl (decide_eq_true h136) rfl (Yl.load rfl (Lds.one Try.isAgg9 (Cls.of (H23.cls (i := 0) rfl) rfl))) (WL.valG (v := .agg #[.string ⟨List.toArray p0.xLo⟩, .string ⟨List.toArray p0.xHi⟩]) rfl rfl (decide_eq_true h136) rfl (Yl.kern rfl rfl (fun _ => by kernel_rfl)) ?_))))))))))))
  obtain ⟨r151, hr152⟩ : ∃ q, r02_Check (RangeD.mk p0.xLo p0.xHi) = q := ⟨_, rfl⟩
  obtain ⟨D146, HP147, ro148, bk149, rr150⟩ := Own.enter0 H23
  refine WL.doG rfl rfl (decide_eq_true h136) rfl (Do.call Try.call47 rfl (r02_Check_ok _ _ (RangeD.mk p0.xLo p0.xHi) r151 HP147 hr152) ?_)
  rintro _ w153 ⟨rfl, HQ154⟩
  have H155 := bk149 _ _ HQ154
  refine WL.valG (v := .bool (decide (¬ (r151 = 0)))) rfl rfl (decide_eq_true h136) rfl (Yl.bool (e := !(decide (r151 = 0))) (Yl.kern rfl rfl (fun _ => by kernel_rfl)) decide_not.symm) (WL.val (v := .bool (decide (¬ (r151 = 0)))) rfl (Yl.pickT rfl (decide_eq_true h136) rfl) (WL.nil (Fin.then ?_)))
  by_cases h156 : r151 = 0
  refine Wp.cond0 rfl (decide_eq_false (not_not_intro h156)) (Wp.skip (Fin.then (Wp.seq (Wp.seq (Wp.region (Kn (v := .pointer (some ⟨g21, 0, none⟩)) rfl rfl rfl (fun _ => by kernel_rfl) (WL.val (v := .int .i64 p0.xKind) rfl (Yl.load rfl (Lds.one Try.isAgg3 (Cls.of (H155.cls (i := 0) rfl) rfl))) (Kn (v := .bool (decide (p0.xKind = 4))) rfl rfl rfl (fun _ => by kernel_rfl) (Mv rfl rfl (Sk rfl rfl (decide_eq_false h80) rfl (Sk rfl rfl (decide_eq_false h80) rfl (Sk rfl rfl (decide_eq_false h80) rfl (Sk rfl rfl (decide_eq_false h80) rfl (WL.skipU rfl rfl rfl (WL.skipU rfl rfl rfl (WL.skipU rfl rfl rfl (Sk rfl rfl (decide_eq_false h80) rfl (WL.val (v := .bool false) rfl (Yl.pickF rfl (decide_eq_false h80) rfl) (WL.nil (Fin.then (Wp.cond0 rfl rfl (Wp.skip (Fin.then (Wp.seq (Wp.region (As rfl rfl (WL.nil (Fin.then (Wp.ret (Fin.res (res1 rfl rfl) ?_))))))))))))))))))))))))))))))
  have H157 := H155.pick [] (by decide) rfl
  have e : r04_CheckOp p0 = 0 := Eq.trans (if_neg h24) (Eq.trans (if_neg h53) (Eq.trans (if_neg h80) (Eq.trans (if_neg h108) (Eq.trans (if_pos h136) (Eq.trans (if_neg h137) (Eq.trans (if_neg h140) (Eq.trans (if_pos h143) (Eq.trans (if_neg h144) (Eq.trans (bnd_of hr152) (if_pos h156))))))))))
  obtain rfl := e.symm.trans hr
  exact ⟨rfl, H157, (by omega)⟩
  refine Wp.cond1 rfl (decide_eq_true h156) (Wp.seq (Wp.region (As rfl rfl (WL.nil (Fin.then (Wp.ret (Fin.thenR (Fin.res (res1 rfl rfl) ?_))))))))
  have H158 := H155.pick [] (by decide) rfl
  have e : r04_CheckOp p0 = 21 := Eq.trans (if_neg h24) (Eq.trans (if_neg h53) (Eq.trans (if_neg h80) (Eq.trans (if_neg h108) (Eq.trans (if_pos h136) (Eq.trans (if_neg h137) (Eq.trans (if_neg h140) (Eq.trans (if_pos h143) (Eq.trans (if_neg h144) (Eq.trans (bnd_of hr152) (if_neg h156))))))))))
  obtain rfl := e.symm.trans hr
  exact ⟨rfl, H158, (by omega)⟩
  refine Wp.cond1 rfl (decide_eq_true h143) (Wp.seq (Wp.region (As rfl rfl (WL.nil (Fin.then (Wp.ret (Fin.thenR (Fin.res (res1 rfl rfl) ?_))))))))
  have H159 := H23.pick [] (by decide) rfl
  have e : r04_CheckOp p0 = 40 := Eq.trans (if_neg h24) (Eq.trans (if_neg h53) (Eq.trans (if_neg h80) (Eq.trans (if_neg h108) (Eq.trans (if_pos h136) (Eq.trans (if_neg h137) (Eq.trans (if_neg h140) (if_neg h143)))))))
  obtain rfl := e.symm.trans hr
  exact ⟨rfl, H159, (by omega)⟩
  refine Sk rfl rfl (decide_eq_true h136) rfl (Sk rfl rfl (decide_eq_true h136) rfl (WL.skipU rfl rfl rfl (WL.skipU rfl rfl rfl (WL.skipU rfl rfl rfl (WL.skipU rfl rfl rfl (WL.skipU rfl rfl rfl (WL.skipU rfl rfl rfl (WL.skipU rfl rfl rfl (WL.skipU rfl rfl rfl (Sk rfl rfl (decide_eq_true h136) rfl (WL.val (v := .bool true) rfl (Yl.pickT rfl (decide_eq_true h136) rfl) (Mv rfl rfl (Sk rfl rfl rfl rfl (Sk rfl rfl rfl rfl (WL.skipU rfl rfl rfl (WL.skipU rfl rfl rfl (WL.skipU rfl rfl rfl (Sk rfl rfl rfl rfl (WL.val (v := .bool true) rfl (Yl.pickT rfl rfl rfl) (Mv rfl rfl (Sk rfl rfl rfl rfl (Sk rfl rfl rfl rfl (Sk rfl rfl rfl rfl (Sk rfl rfl rfl rfl (WL.skipU rfl rfl rfl (WL.skipU rfl rfl rfl (WL.skipU rfl rfl rfl (Sk rfl rfl rfl rfl (WL.val (v := .bool true) rfl (Yl.pickT rfl rfl rfl) (Mv rfl rfl (Sk rfl rfl rfl rfl (Sk rfl rfl rfl rfl (Sk rfl rfl rfl rfl (Sk rfl rfl rfl rfl (WL.skipU rfl rfl rfl (WL.skipU rfl rfl rfl (WL.skipU rfl rfl rfl (Sk rfl rfl rfl rfl (WL.val (v := .bool true) rfl (Yl.pickT rfl rfl rfl) ?_)))))))))))))))))))))))))))))))))))))))
  refine WL.nil (Fin.then (Wp.cond1 rfl rfl (Wp.seq (Wp.region (As rfl rfl (WL.nil (Fin.then (Wp.ret (Fin.thenR (Fin.res (res1 rfl rfl) ?_))))))))))
  have H160 := H23.pick [] (by decide) rfl
  have e : r04_CheckOp p0 = 40 := Eq.trans (if_neg h24) (Eq.trans (if_neg h53) (Eq.trans (if_neg h80) (Eq.trans (if_neg h108) (if_neg h136))))
  obtain rfl := e.symm.trans hr
  exact ⟨rfl, H160, (by omega)⟩

def r04_Writes (p0 : OpD) : Bool :=
  if p0.xKind = 2 then true else if p0.xKind = 3 then true else decide (p0.xKind = 5)

set_option maxRecDepth 100000 in
theorem r04_Writes_ok (w : World) (D : Nat → Prop) (p0 : OpD) (r0 : Bool) (H : Own w D w [])  (hr : r04_Writes p0 = r0) :
    Calls Try.prog 30 #[.agg (OpD.cells p0).toArray] w (Ret fun v w' => v = .bool r0 ∧ Own w D w' []) := by
  refine Calls.body (args := [.agg (OpD.cells p0).toArray]) Try.func30 rfl rfl rfl ?_
  show Wp _ _ _ [(0, .agg (OpD.cells p0).toArray)] _ _
  refine Wp.seq (Wp.region ?_)
  refine WL.do rfl (Do.newP (cs := (OpD.cells p0)) (t := 50) H rfl rfl (fun _ => by kernel_rfl) ?_)
  intro g21 w22 H23
  refine As rfl rfl (WL.nil (Fin.then (Wp.seq (Wp.region (Kn (v := .pointer (some ⟨g21, 0, none⟩)) rfl rfl rfl (fun _ => by kernel_rfl) (WL.val (v := .int .i64 p0.xKind) rfl (Yl.load rfl (Lds.one Try.isAgg3 (Cls.of (H23.cls (i := 0) rfl) rfl))) (Kn (v := .bool (decide (p0.xKind = 2))) rfl rfl rfl (fun _ => by kernel_rfl) (Mv rfl rfl ?_))))))))
  by_cases h24 : p0.xKind = 2
  refine Sk rfl rfl (decide_eq_true h24) rfl (Sk rfl rfl (decide_eq_true h24) rfl (Sk rfl rfl (decide_eq_true h24) rfl (WL.val (v := .bool true) rfl (Yl.pickT rfl (decide_eq_true h24) rfl) (Mv rfl rfl (Sk rfl rfl rfl rfl (Sk rfl rfl rfl rfl (Sk rfl rfl rfl rfl (WL.val (v := .bool true) rfl (Yl.pickT rfl rfl rfl) (As rfl rfl (WL.nil (Fin.then (Wp.ret (Fin.res (res1 rfl rfl) ?_)))))))))))))
  have H25 := H23.pick [] (by decide) rfl
  have e : r04_Writes p0 = true := if_pos h24
  obtain rfl := e.symm.trans hr
  exact ⟨rfl, H25⟩
  refine WL.valG (v := .pointer (some ⟨g21, 0, none⟩)) rfl rfl (decide_eq_false h24) rfl (Yl.kern rfl rfl (fun _ => by kernel_rfl)) (WL.valG (v := .int .i64 p0.xKind) rfl rfl (decide_eq_false h24) rfl (Yl.load rfl (Lds.one Try.isAgg3 (Cls.of (H23.cls (i := 0) rfl) rfl))) (WL.valG (v := .bool (decide (p0.xKind = 3))) rfl rfl (decide_eq_false h24) rfl (Yl.kern rfl rfl (fun _ => by kernel_rfl)) (WL.val (v := .bool (decide (p0.xKind = 3))) rfl (Yl.pickF rfl (decide_eq_false h24) rfl) (Mv rfl rfl ?_))))
  by_cases h26 : p0.xKind = 3
  refine Sk rfl rfl (decide_eq_true h26) rfl (Sk rfl rfl (decide_eq_true h26) rfl (Sk rfl rfl (decide_eq_true h26) rfl (WL.val (v := .bool true) rfl (Yl.pickT rfl (decide_eq_true h26) rfl) (As rfl rfl (WL.nil (Fin.then (Wp.ret (Fin.res (res1 rfl rfl) ?_))))))))
  have H27 := H23.pick [] (by decide) rfl
  have e : r04_Writes p0 = true := Eq.trans (if_neg h24) (if_pos h26)
  obtain rfl := e.symm.trans hr
  exact ⟨rfl, H27⟩
  refine WL.valG (v := .pointer (some ⟨g21, 0, none⟩)) rfl rfl (decide_eq_false h26) rfl (Yl.kern rfl rfl (fun _ => by kernel_rfl)) (WL.valG (v := .int .i64 p0.xKind) rfl rfl (decide_eq_false h26) rfl (Yl.load rfl (Lds.one Try.isAgg3 (Cls.of (H23.cls (i := 0) rfl) rfl))) (WL.valG (v := .bool (decide (p0.xKind = 5))) rfl rfl (decide_eq_false h26) rfl (Yl.kern rfl rfl (fun _ => by kernel_rfl)) (WL.val (v := .bool (decide (p0.xKind = 5))) rfl (Yl.pickF rfl (decide_eq_false h26) rfl) (As rfl rfl (WL.nil (Fin.then (Wp.ret (Fin.res (res1 rfl rfl) ?_))))))))
  have H28 := H23.pick [] (by decide) rfl
  have e : r04_Writes p0 = decide (p0.xKind = 5) := Eq.trans (if_neg h24) (if_neg h26)
  obtain rfl := e.symm.trans hr
  exact ⟨rfl, H28⟩

def r12_Check_L0 (l0 : List EntryD) : List EntryD → Nat → Unit ⊕ Int
  | [], k21 => Sum.inl ()
  | x30 :: q22, k21 => bnd (r04_CheckOp x30.xOp) fun yr43 => if yr43 = 0 then bnd (r04_Writes x30.xOp) fun yr55 => if yr55 = true then if ((k21 : Nat) : Int) > 0 then bnd (List.getD l0 (k21 - 1) default) fun yx64 => if ((yx64.xSeq : Nat) : Int) ≥ ((x30.xSeq : Nat) : Int) then Sum.inr (1) else r12_Check_L0 l0 q22 (k21 + 1) else r12_Check_L0 l0 q22 (k21 + 1) else Sum.inr (40) else Sum.inr (yr43)

def r12_Check (l0 : List EntryD) : Int :=
  lp (r12_Check_L0 l0 l0 0) fun _ => 0

set_option maxRecDepth 100000 in
theorem r12_Check_ok (w : World) (D : Nat → Prop) (A0 : Option Addr) (n0 c0 : Nat) (l0 : List EntryD) (r0 : Int) (H : Own w D w []) (hx0 : Ro w D fun w' => Rds w' 7 A0 n0 (List.flatMap EntryD.cells l0)) (hn0 : n0 = l0.length) (hl0 : l0.length ≤ 9223372036854775807) (hr : r12_Check l0 = r0) :
    Calls Try.prog 11 #[.slice A0 n0 c0] w (Ret fun v w' => v = .int .i64 r0 ∧ Own w D w' []) := by
  subst hn0
  refine Calls.body (args := [.slice A0 l0.length c0]) Try.func11 rfl rfl rfl ?_
  show Wp _ _ _ [(0, .slice A0 l0.length c0)] _ _
  refine Wp.seq (Wp.region (As rfl rfl (WL.nil (Fin.then (Wp.seq (Wp.seq (Wp.region (Mv rfl rfl (Kn (v := .int .i64 ((l0.length : Nat) : Int)) rfl rfl rfl (fun _ => by kernel_rfl) (Mv rfl rfl (WL.nil (Fin.then (Wp.block ?_)))))))))))))
  have H23 : Own w D w [] := H.pick [] (by decide) rfl
  refine Wp.loop (ι := Nat) (fun i => [(2, .int .i64 0), (8, .int .i64 ((i : Nat) : Int)), (7, .int .i64 ((l0.length : Nat) : Int)), (6, .slice A0 l0.length c0), (0, .slice A0 l0.length c0)]) (fun (i : Nat) w' => Own w D w' [] ∧ (i ≤ l0.length ∧ r12_Check_L0 l0 l0 0 = r12_Check_L0 l0 (List.drop i l0) i)) (fun i => l0.length - i) 0 ⟨rfl, rfl, rfl, rfl, rfl, trivial⟩ ⟨H23, (show 0 ≤ l0.length ∧ r12_Check_L0 l0 l0 0 = r12_Check_L0 l0 (List.drop 0 l0) 0 from ⟨by omega, rfl⟩)⟩ ?_
  rintro k21 w24 ⟨H25, hf26⟩
  show Wp _ _ _ [(2, .int .i64 0), (8, .int .i64 ((k21 : Nat) : Int)), (7, .int .i64 ((l0.length : Nat) : Int)), (6, .slice A0 l0.length c0), (0, .slice A0 l0.length c0)] _ _
  replace hf26 : k21 ≤ l0.length ∧ r12_Check_L0 l0 l0 0 = r12_Check_L0 l0 (List.drop k21 l0) k21 := hf26
  obtain ⟨hi28, hq27⟩ := hf26
  refine Wp.seq (Wp.region (Kn (v := .bool (decide (((k21 : Nat) : Int) < ((l0.length : Nat) : Int)))) rfl rfl rfl (fun _ => by kernel_rfl) (WL.nil (Fin.then (Wp.seq ?_)))))
  by_cases h29 : ((k21 : Nat) : Int) < ((l0.length : Nat) : Int)
  obtain ⟨x30, hx31⟩ := rds_at (ls := l0) (i := k21) EntryD.len (by decide) (H25.ro hx0) (by first | omega | (simp; done) | (simp; omega))
  have hd32 := drop_at hx31
  refine Wp.cond1 rfl (decide_eq_true h29) (Wp.skip (Fin.then (Wp.seq (Wp.block (Wp.seq (Wp.region (Mv rfl rfl (WL.val (v := .pointer (some ⟨ab A0, ao A0 + k21 * 7, none⟩)) rfl (Yl.indexAddr (El22) rfl rfl ((H25.ro hx0).addr (i := k21) (by omega)) (by omega)) (WL.val (v := .agg (EntryD.cells x30).toArray) rfl (Yl.load rfl (Lds.agg (cs := (EntryD.cells x30)) Try.isAgg52 Try.sizeOf52 ((H25.ro hx0).elem EntryD.len hx31 (by decide)))) ?_)))))))))
  refine WL.do rfl (Do.newP (cs := [.int .u64 0, .int .i64 0, .string ⟨List.toArray ([])⟩, .string ⟨List.toArray ([])⟩, .string ⟨List.toArray ([])⟩, .string ⟨List.toArray ([])⟩, .int .i64 0]) (t := 52) H25 rfl rfl (fun _ => by kernel_rfl) ?_)
  intro g33 w34 H35
  refine As rfl rfl ?_
  refine WL.do0 (Do.store (vs := (EntryD.cells x30)) (o := 0) H35 rfl rfl Try.sizeOf52 rfl rfl rfl rfl ?_)
  intro w36 H37
  refine WL.nil (Fin.then (Wp.seq (Wp.seq (Wp.region (Kn (v := .pointer (some ⟨g33, 1, none⟩)) rfl rfl rfl (fun _ => by kernel_rfl) (WL.val (v := .agg (OpD.cells x30.xOp).toArray) rfl (Yl.load rfl (Lds.agg (cs := (OpD.cells x30.xOp)) Try.isAgg50 Try.sizeOf50 ((H37.cls (i := 0) rfl).lit (k := 1) (m := 6) rfl))) ?_))))))
  obtain ⟨r43, hr44⟩ : ∃ q, r04_CheckOp x30.xOp = q := ⟨_, rfl⟩
  obtain ⟨D38, HP39, ro40, bk41, rr42⟩ := Own.enter0 H37
  refine WL.do rfl (Do.call Try.call29 rfl (r04_CheckOp_ok _ _ x30.xOp r43 HP39 hr44) ?_)
  rintro _ w45 ⟨rfl, HQ46, hk48⟩
  have H47 := bk41 _ _ HQ46
  replace hk48 : ¬ (r43 = 0) ∨ (1 ≤ x30.xOp.xKind ∧ x30.xOp.xKind ≤ 5) := hk48
  refine As rfl rfl (WL.nil (Fin.then (Wp.seq (Wp.region (Mv rfl rfl (WL.val (v := .bool (decide (¬ (r43 = 0)))) rfl (Yl.bool (e := !(decide (r43 = 0))) (Yl.kern rfl rfl (fun _ => by kernel_rfl)) decide_not.symm) (WL.nil (Fin.then ?_))))))))
  by_cases h49 : r43 = 0
  refine Wp.cond0 rfl (decide_eq_false (not_not_intro h49)) (Wp.skip (Fin.then (Wp.seq (Wp.seq (Wp.region (Kn (v := .pointer (some ⟨g33, 1, none⟩)) rfl rfl rfl (fun _ => by kernel_rfl) (WL.val (v := .agg (OpD.cells x30.xOp).toArray) rfl (Yl.load rfl (Lds.agg (cs := (OpD.cells x30.xOp)) Try.isAgg50 Try.sizeOf50 ((H47.cls (i := 0) rfl).lit (k := 1) (m := 6) rfl))) ?_)))))))
  obtain ⟨r55, hr56⟩ : ∃ q, r04_Writes x30.xOp = q := ⟨_, rfl⟩
  obtain ⟨D50, HP51, ro52, bk53, rr54⟩ := Own.enter0 H47
  refine WL.do rfl (Do.call Try.call30 rfl (r04_Writes_ok _ _ x30.xOp r55 HP51 hr56) ?_)
  rintro _ w57 ⟨rfl, HQ58⟩
  have H59 := bk53 _ _ HQ58
  refine Kn (v := .bool (!r55)) rfl rfl rfl (fun _ => by kernel_rfl) (WL.nil (Fin.then ?_))
  rcases Bool.eq_false_or_eq_true (r55) with h60 | h60
  refine Wp.cond0 rfl (congrArg not h60) (Wp.skip (Fin.then (Wp.seq ?_)))
  have H62 := H59.drew
  refine Wp.drawnX [] (fun W => ∃ L', Own w D W ([blk g33 (EntryD.cells x30) 52] ++ L')) (by kernel_rfl) (by kernel_rfl) (NoP.then (NoP.block (NoP.then (NoP.then (NoP.block (NoP.then NoP.base)))))) ⟨_, H62⟩ ?_
  revert H62
  generalize World.drew w57 = w61
  intro H62
  refine GX.take (v := .int .i64 ((k21 : Nat) : Int)) (rs := []) 0 rfl (by kernel_rfl) (fun _ _ => Yl.move rfl) (GX.take (v := .bool (decide (((k21 : Nat) : Int) > 0))) (rs := []) 1 rfl (by kernel_rfl) (fun _ _ => Yl.kern rfl rfl (fun _ => by kernel_rfl)) (GX.take (v := .bool (decide (((k21 : Nat) : Int) > 0))) (rs := []) 2 rfl (by kernel_rfl) (fun _ _ => Yl.move rfl) ?_))
  by_cases h63 : ((k21 : Nat) : Int) > 0
  refine GX.takeG (v := .slice A0 l0.length c0) (rs := []) 3 rfl rfl rfl (decide_eq_true h63) (by kernel_rfl) (fun _ _ => Yl.move rfl) (GX.takeG (v := .int .i64 ((k21 : Nat) : Int)) (rs := []) 4 rfl rfl rfl (decide_eq_true h63) (by kernel_rfl) (fun _ _ => Yl.move rfl) (GX.takeG (v := .int .i64 ((k21 - 1 : Nat) : Int)) (rs := []) 5 rfl rfl rfl (decide_eq_true h63) (by kernel_rfl) (fun _ _ => Yl.int (e := IntKind.i64.wrap (((k21 : Nat) : Int) - 1)) (Yl.kern rfl rfl (fun _ => by kernel_rfl)) (by rw [IntWalk.i64_in _ (by omega)]; omega)) ?_))
  obtain ⟨x64, hx65⟩ := at_of (ls := l0) (i := k21 - 1) (by first | omega | (simp; done) | (simp; omega))
  refine GX.takeG (v := .pointer (some ⟨ab A0, ao A0 + (k21 - 1) * 7, none⟩)) (rs := []) 6 rfl rfl rfl (decide_eq_true h63) (by kernel_rfl) (fun _ ⟨_, H9⟩ => Yl.indexAddr (El22) rfl rfl ((H9.ro hx0).addr (i := k21 - 1) (by omega)) (by omega)) (GX.takeG (v := .pointer (some ⟨ab A0, ao A0 + (k21 - 1) * 7, none⟩)) (rs := []) 7 rfl rfl rfl (decide_eq_true h63) (by kernel_rfl) (fun _ _ => Yl.kern rfl rfl (fun _ => by kernel_rfl)) (GX.takeG (v := .int .u64 ((x64.xSeq : Nat) : Int)) (rs := []) 8 rfl rfl rfl (decide_eq_true h63) (by kernel_rfl) (fun _ ⟨_, H9⟩ => Yl.load rfl (Lds.one Try.isAgg48 (((H9.ro hx0).elem EntryD.len hx65 (by decide)).at_ (k := 0) rfl))) (GX.takeG (v := .pointer (some ⟨g33, 0, none⟩)) (rs := []) 9 rfl rfl rfl (decide_eq_true h63) (by kernel_rfl) (fun _ _ => Yl.kern rfl rfl (fun _ => by kernel_rfl)) (GX.takeG (v := .int .u64 ((x30.xSeq : Nat) : Int)) (rs := []) 10 rfl rfl rfl (decide_eq_true h63) (by kernel_rfl) (fun _ ⟨_, H9⟩ => Yl.load rfl (Lds.one Try.isAgg48 (Cls.of (H9.cls (i := 0) rfl) rfl))) (GX.takeG (v := .bool (decide (((x64.xSeq : Nat) : Int) ≥ ((x30.xSeq : Nat) : Int)))) (rs := []) 11 rfl rfl rfl (decide_eq_true h63) (by kernel_rfl) (fun _ _ => Yl.kern rfl rfl (fun _ => by kernel_rfl)) (GX.take (v := .bool (decide (((x64.xSeq : Nat) : Int) ≥ ((x30.xSeq : Nat) : Int)))) (rs := []) 12 rfl (by kernel_rfl) (fun _ _ => Yl.pickT rfl (decide_eq_true h63) rfl) (GX.done (by kernel_rfl) (Fin.then ?_))))))))
  by_cases h66 : ((x64.xSeq : Nat) : Int) ≥ ((x30.xSeq : Nat) : Int)
  refine Wp.cond1 rfl (decide_eq_true h66) (Wp.seq (Wp.region (As rfl rfl (WL.nil (Fin.then (Wp.ret (Fin.blockR (Fin.thenR (Fin.thenR (Fin.blockR (Fin.thenR (Fin.res (res1 rfl rfl) ?_))))))))))))
  have H67 := H62.pick [] (by decide) rfl
  have e : r12_Check l0 = 1 := lp_r (Eq.trans (hq27) (Eq.trans (congrArg (fun q => r12_Check_L0 l0 q k21) hd32) (Eq.trans (bnd_of hr44) (Eq.trans (if_pos h49) (Eq.trans (bnd_of hr56) (Eq.trans (if_pos h60) (Eq.trans (if_pos h63) (Eq.trans (bnd_of (getD_of hx65)) (if_pos h66)))))))))
  obtain rfl := e.symm.trans hr
  exact ⟨rfl, H67⟩
  refine Wp.cond0 rfl (decide_eq_false h66) (Wp.skip (Fin.blockN (Fin.then (Wp.region (WL.val (v := .int .i64 ((k21 + 1 : Nat) : Int)) rfl (Yl.int (e := IntKind.i64.wrap (((k21 : Nat) : Int) + 1)) (Yl.kern rfl rfl (fun _ => by kernel_rfl)) (by rw [IntWalk.i64_in _ (by omega)]; omega)) (Mv rfl rfl (WL.nil ?_)))))))
  have H68 := H62.pick [] (by decide) rfl
  exact Fin.round (k21 + 1) ⟨rfl, rfl, rfl, rfl, rfl, trivial⟩ ⟨H68, (show (k21 + 1) ≤ l0.length ∧ r12_Check_L0 l0 l0 0 = r12_Check_L0 l0 (List.drop (k21 + 1) l0) (k21 + 1) from ⟨by omega, Eq.trans (hq27) (Eq.trans (congrArg (fun q => r12_Check_L0 l0 q k21) hd32) (Eq.trans (bnd_of hr44) (Eq.trans (if_pos h49) (Eq.trans (bnd_of hr56) (Eq.trans (if_pos h60) (Eq.trans (if_pos h63) (Eq.trans (bnd_of (getD_of hx65)) (if_neg h66))))))))⟩)⟩ (by show l0.length - (k21 + 1) < l0.length - k21; omega)
  refine GX.skipG (rs := []) 3 rfl rfl rfl (decide_eq_false h63) (by kernel_rfl) (GX.skipG (rs := []) 4 rfl rfl rfl (decide_eq_false h63) (by kernel_rfl) (GX.skipG (rs := []) 5 rfl rfl rfl (decide_eq_false h63) (by kernel_rfl) (GX.skipG (rs := []) 6 rfl rfl rfl (decide_eq_false h63) (by kernel_rfl) (GX.skipG (rs := []) 7 rfl rfl rfl (decide_eq_false h63) (by kernel_rfl) (GX.skipG (rs := []) 8 rfl rfl rfl (decide_eq_false h63) (by kernel_rfl) (GX.skipG (rs := []) 9 rfl rfl rfl (decide_eq_false h63) (by kernel_rfl) (GX.skipG (rs := []) 10 rfl rfl rfl (decide_eq_false h63) (by kernel_rfl) (GX.skipG (rs := []) 11 rfl rfl rfl (decide_eq_false h63) (by kernel_rfl) (GX.take (v := .bool false) (rs := []) 12 rfl (by kernel_rfl) (fun _ _ => Yl.pickF rfl (decide_eq_false h63) rfl) (GX.done (by kernel_rfl) (Fin.then (Wp.cond0 rfl rfl (Wp.skip (Fin.blockN (Fin.then (Wp.region (WL.val (v := .int .i64 ((k21 + 1 : Nat) : Int)) rfl (Yl.int (e := IntKind.i64.wrap (((k21 : Nat) : Int) + 1)) (Yl.kern rfl rfl (fun _ => by kernel_rfl)) (by rw [IntWalk.i64_in _ (by omega)]; omega)) (Mv rfl rfl (WL.nil ?_)))))))))))))))))))
  have H69 := H62.pick [] (by decide) rfl
  exact Fin.round (k21 + 1) ⟨rfl, rfl, rfl, rfl, rfl, trivial⟩ ⟨H69, (show (k21 + 1) ≤ l0.length ∧ r12_Check_L0 l0 l0 0 = r12_Check_L0 l0 (List.drop (k21 + 1) l0) (k21 + 1) from ⟨by omega, Eq.trans (hq27) (Eq.trans (congrArg (fun q => r12_Check_L0 l0 q k21) hd32) (Eq.trans (bnd_of hr44) (Eq.trans (if_pos h49) (Eq.trans (bnd_of hr56) (Eq.trans (if_pos h60) (if_neg h63))))))⟩)⟩ (by show l0.length - (k21 + 1) < l0.length - k21; omega)
  refine Wp.cond1 rfl (congrArg not h60) (Wp.seq (Wp.region (As rfl rfl (WL.nil (Fin.then (Wp.ret (Fin.thenR (Fin.blockR (Fin.thenR (Fin.thenR (Fin.blockR (Fin.thenR (Fin.res (res1 rfl rfl) ?_)))))))))))))
  have H70 := H59.pick [] (by decide) rfl
  have e : r12_Check l0 = 40 := lp_r (Eq.trans (hq27) (Eq.trans (congrArg (fun q => r12_Check_L0 l0 q k21) hd32) (Eq.trans (bnd_of hr44) (Eq.trans (if_pos h49) (Eq.trans (bnd_of hr56) (ifF h60))))))
  obtain rfl := e.symm.trans hr
  exact ⟨rfl, H70⟩
  refine Wp.cond1 rfl (decide_eq_true h49) (Wp.seq (Wp.region (Mv rfl rfl (As rfl rfl (WL.nil (Fin.then (Wp.ret (Fin.thenR (Fin.blockR (Fin.thenR (Fin.thenR (Fin.blockR (Fin.thenR (Fin.res (res1 rfl rfl) ?_))))))))))))))
  have H71 := H47.pick [] (by decide) rfl
  have e : r12_Check l0 = r43 := lp_r (Eq.trans (hq27) (Eq.trans (congrArg (fun q => r12_Check_L0 l0 q k21) hd32) (Eq.trans (bnd_of hr44) (if_neg h49))))
  obtain rfl := e.symm.trans hr
  exact ⟨rfl, H71⟩
  refine Wp.cond0 rfl (decide_eq_false h29) (Wp.exit (Fin.thenX ?_))
  have hL72 : r12_Check_L0 l0 l0 0 = Sum.inl () := Eq.trans (hq27) (Eq.trans (congrArg (fun q => r12_Check_L0 l0 q k21) (drop_end (ls := l0) (i := k21) (by omega))) rfl)
  refine Fin.thenX (Fin.blockX (Fin.then (Wp.seq (Wp.region (As rfl rfl (WL.nil (Fin.then (Wp.ret (Fin.res (res1 rfl rfl) ?_)))))))))
  have H73 := H25.pick [] (by decide) rfl
  have e : r12_Check l0 = 0 := lp_l hL72
  obtain rfl := e.symm.trans hr
  exact ⟨rfl, H73⟩

def r02_Has (p0 : RangeD) (p1 : List UInt8) : Bool :=
  bnd (r02_Check p0) fun yr29 => if yr29 = 0 then bnd (r02_CheckKey p1) fun yr40 => if yr40 = 0 then if p0.xLo ≤ p1 then if p0.xHi = ([]) then true else decide (p1 < p0.xHi) else false else false else false

set_option maxRecDepth 100000 in
theorem r02_Has_ok (w : World) (D : Nat → Prop) (p0 : RangeD) (p1 : List UInt8) (r0 : Bool) (H : Own w D w [])  (hr : r02_Has p0 p1 = r0) :
    Calls Try.prog 38 #[.agg (RangeD.cells p0).toArray, .string ⟨List.toArray p1⟩] w (Ret fun v w' => v = .bool r0 ∧ Own w D w' []) := by
  refine Calls.body (args := [.agg (RangeD.cells p0).toArray, .string ⟨List.toArray p1⟩]) Try.func38 rfl rfl rfl ?_
  show Wp _ _ _ [(0, .agg (RangeD.cells p0).toArray), (1, .string ⟨List.toArray p1⟩)] _ _
  refine Wp.seq (Wp.region ?_)
  refine WL.do rfl (Do.newP (cs := (RangeD.cells p0)) (t := 38) H rfl rfl (fun _ => by kernel_rfl) ?_)
  intro g21 w22 H23
  refine As rfl rfl (WL.nil (Fin.then (Wp.seq (Wp.region (WL.val (v := .agg (RangeD.cells p0).toArray) rfl (Yl.load rfl (Lds.agg (cs := (RangeD.cells p0)) Try.isAgg38 Try.sizeOf38 ((H23.cls (i := 0) rfl).lit (k := 0) (m := 2) rfl))) ?_)))))
  obtain ⟨r29, hr30⟩ : ∃ q, r02_Check p0 = q := ⟨_, rfl⟩
  obtain ⟨D24, HP25, ro26, bk27, rr28⟩ := Own.enter0 H23
  refine WL.do rfl (Do.call Try.call47 rfl (r02_Check_ok _ _ p0 r29 HP25 hr30) ?_)
  rintro _ w31 ⟨rfl, HQ32⟩
  have H33 := bk27 _ _ HQ32
  refine Kn (v := .bool (decide (r29 = 0))) rfl rfl rfl (fun _ => by kernel_rfl) (Mv rfl rfl ?_)
  by_cases h34 : r29 = 0
  refine WL.valG (v := .string ⟨List.toArray p1⟩) rfl rfl (decide_eq_true h34) rfl (Yl.move rfl) ?_
  obtain ⟨r40, hr41⟩ : ∃ q, r02_CheckKey p1 = q := ⟨_, rfl⟩
  obtain ⟨D35, HP36, ro37, bk38, rr39⟩ := Own.enter0 H33
  refine WL.doG rfl rfl (decide_eq_true h34) rfl (Do.call Try.call17 rfl (r02_CheckKey_ok _ _ p1 r40 HP36 hr41) ?_)
  rintro _ w42 ⟨rfl, HQ43, hk45⟩
  have H44 := bk38 _ _ HQ43
  replace hk45 : ¬ (r40 = 0) ∨ (1 ≤ p1.length ∧ p1.length ≤ 12) := hk45
  refine WL.valG (v := .bool (decide (r40 = 0))) rfl rfl (decide_eq_true h34) rfl (Yl.kern rfl rfl (fun _ => by kernel_rfl)) (WL.val (v := .bool (decide (r40 = 0))) rfl (Yl.pickT rfl (decide_eq_true h34) rfl) (Mv rfl rfl ?_))
  by_cases h46 : r40 = 0
  refine WL.valG (v := .string ⟨List.toArray p1⟩) rfl rfl (decide_eq_true h46) rfl (Yl.move rfl) (WL.valG (v := .pointer (some ⟨g21, 0, none⟩)) rfl rfl (decide_eq_true h46) rfl (Yl.kern rfl rfl (fun _ => by kernel_rfl)) (WL.valG (v := .string ⟨List.toArray p0.xLo⟩) rfl rfl (decide_eq_true h46) rfl (Yl.load rfl (Lds.one Try.isAgg9 (Cls.of (H44.cls (i := 0) rfl) rfl))) (WL.valG (v := .bool (decide (p0.xLo ≤ p1))) rfl rfl (decide_eq_true h46) rfl (Yl.bool (e := !(Op.bytesLess p1 p0.xLo)) (Yl.strGe rfl rfl) (bl_ge _ _)) (WL.val (v := .bool (decide (p0.xLo ≤ p1))) rfl (Yl.pickT rfl (decide_eq_true h46) rfl) (Mv rfl rfl ?_)))))
  by_cases h47 : p0.xLo ≤ p1
  refine WL.valG (v := .pointer (some ⟨g21, 1, none⟩)) rfl rfl (decide_eq_true h47) rfl (Yl.kern rfl rfl (fun _ => by kernel_rfl)) (WL.valG (v := .string ⟨List.toArray p0.xHi⟩) rfl rfl (decide_eq_true h47) rfl (Yl.load rfl (Lds.one Try.isAgg9 (Cls.of (H44.cls (i := 0) rfl) rfl))) (WL.valG (v := .bool (decide (p0.xHi = ([])))) rfl rfl (decide_eq_true h47) rfl (Yl.strEq rfl rfl) (WL.valG (v := .bool (decide (p0.xHi = ([])))) rfl rfl (decide_eq_true h47) rfl (Yl.move rfl) ?_)))
  by_cases h48 : p0.xHi = ([])
  refine Sk rfl rfl (decide_eq_true h48) rfl (Sk rfl rfl (decide_eq_true h48) rfl (Sk rfl rfl (decide_eq_true h48) rfl (Sk rfl rfl (decide_eq_true h48) rfl (WL.valG (v := .bool true) rfl rfl (decide_eq_true h47) rfl (Yl.pickT rfl (decide_eq_true h48) rfl) (WL.val (v := .bool true) rfl (Yl.pickT rfl (decide_eq_true h47) rfl) (As rfl rfl (WL.nil (Fin.then (Wp.ret (Fin.res (res1 rfl rfl) ?_))))))))))
  have H49 := H44.pick [] (by decide) rfl
  have e : r02_Has p0 p1 = true := Eq.trans (bnd_of hr30) (Eq.trans (if_pos h34) (Eq.trans (bnd_of hr41) (Eq.trans (if_pos h46) (Eq.trans (if_pos h47) (if_pos h48)))))
  obtain rfl := e.symm.trans hr
  exact ⟨rfl, H49⟩
  refine WL.valG (v := .string ⟨List.toArray p1⟩) rfl rfl (decide_eq_false h48) rfl (Yl.move rfl) (WL.valG (v := .pointer (some ⟨g21, 1, none⟩)) rfl rfl (decide_eq_false h48) rfl (Yl.kern rfl rfl (fun _ => by kernel_rfl)) (WL.valG (v := .string ⟨List.toArray p0.xHi⟩) rfl rfl (decide_eq_false h48) rfl (Yl.load rfl (Lds.one Try.isAgg9 (Cls.of (H44.cls (i := 0) rfl) rfl))) (WL.valG (v := .bool (decide (p1 < p0.xHi))) rfl rfl (decide_eq_false h48) rfl (Yl.bool (e := Op.bytesLess p1 p0.xHi) (Yl.strLt rfl rfl) (bl_lt _ _)) (WL.valG (v := .bool (decide (p1 < p0.xHi))) rfl rfl (decide_eq_true h47) rfl (Yl.pickF rfl (decide_eq_false h48) rfl) (WL.val (v := .bool (decide (p1 < p0.xHi))) rfl (Yl.pickT rfl (decide_eq_true h47) rfl) (As rfl rfl (WL.nil (Fin.then (Wp.ret (Fin.res (res1 rfl rfl) ?_))))))))))
  have H50 := H44.pick [] (by decide) rfl
  have e : r02_Has p0 p1 = decide (p1 < p0.xHi) := Eq.trans (bnd_of hr30) (Eq.trans (if_pos h34) (Eq.trans (bnd_of hr41) (Eq.trans (if_pos h46) (Eq.trans (if_pos h47) (if_neg h48)))))
  obtain rfl := e.symm.trans hr
  exact ⟨rfl, H50⟩
  refine Sk rfl rfl (decide_eq_false h47) rfl (Sk rfl rfl (decide_eq_false h47) rfl (Sk rfl rfl (decide_eq_false h47) rfl (Sk rfl rfl (decide_eq_false h47) rfl (WL.skipU rfl rfl rfl (WL.skipU rfl rfl rfl (WL.skipU rfl rfl rfl (WL.skipU rfl rfl rfl (Sk rfl rfl (decide_eq_false h47) rfl (WL.val (v := .bool false) rfl (Yl.pickF rfl (decide_eq_false h47) rfl) (As rfl rfl (WL.nil (Fin.then (Wp.ret (Fin.res (res1 rfl rfl) ?_))))))))))))))
  have H51 := H44.pick [] (by decide) rfl
  have e : r02_Has p0 p1 = false := Eq.trans (bnd_of hr30) (Eq.trans (if_pos h34) (Eq.trans (bnd_of hr41) (Eq.trans (if_pos h46) (if_neg h47))))
  obtain rfl := e.symm.trans hr
  exact ⟨rfl, H51⟩
  refine Sk rfl rfl (decide_eq_false h46) rfl (Sk rfl rfl (decide_eq_false h46) rfl (Sk rfl rfl (decide_eq_false h46) rfl (Sk rfl rfl (decide_eq_false h46) rfl (WL.val (v := .bool false) rfl (Yl.pickF rfl (decide_eq_false h46) rfl) (Mv rfl rfl (Sk rfl rfl rfl rfl (Sk rfl rfl rfl rfl (Sk rfl rfl rfl rfl (Sk rfl rfl rfl rfl (WL.skipU rfl rfl rfl (WL.skipU rfl rfl rfl (WL.skipU rfl rfl rfl (WL.skipU rfl rfl rfl (Sk rfl rfl rfl rfl (WL.val (v := .bool false) rfl (Yl.pickF rfl rfl rfl) (As rfl rfl (WL.nil (Fin.then (Wp.ret (Fin.res (res1 rfl rfl) ?_))))))))))))))))))))
  have H52 := H44.pick [] (by decide) rfl
  have e : r02_Has p0 p1 = false := Eq.trans (bnd_of hr30) (Eq.trans (if_pos h34) (Eq.trans (bnd_of hr41) (if_neg h46)))
  obtain rfl := e.symm.trans hr
  exact ⟨rfl, H52⟩
  refine Sk rfl rfl (decide_eq_false h34) rfl (Sk rfl rfl (decide_eq_false h34) rfl (Sk rfl rfl (decide_eq_false h34) rfl (WL.val (v := .bool false) rfl (Yl.pickF rfl (decide_eq_false h34) rfl) (Mv rfl rfl (Sk rfl rfl rfl rfl (Sk rfl rfl rfl rfl (Sk rfl rfl rfl rfl (Sk rfl rfl rfl rfl (WL.val (v := .bool false) rfl (Yl.pickF rfl rfl rfl) (Mv rfl rfl (Sk rfl rfl rfl rfl (Sk rfl rfl rfl rfl (Sk rfl rfl rfl rfl (Sk rfl rfl rfl rfl (WL.skipU rfl rfl rfl (WL.skipU rfl rfl rfl (WL.skipU rfl rfl rfl (WL.skipU rfl rfl rfl (Sk rfl rfl rfl rfl (WL.val (v := .bool false) rfl (Yl.pickF rfl rfl rfl) (As rfl rfl (WL.nil (Fin.then (Wp.ret (Fin.res (res1 rfl rfl) ?_)))))))))))))))))))))))))
  have H53 := H33.pick [] (by decide) rfl
  have e : r02_Has p0 p1 = false := Eq.trans (bnd_of hr30) (if_neg h34)
  obtain rfl := e.symm.trans hr
  exact ⟨rfl, H53⟩

def r12_Touches (p0 : OpD) (p1 : List UInt8) : Bool :=
  if p0.xKind = 5 then bnd (r02_Has (RangeD.mk p0.xLo p0.xHi) p1) fun yr30 => yr30 else if p0.xKind = 2 then decide (p0.xKey = p1) else if p0.xKind = 3 then decide (p0.xKey = p1) else false

set_option maxRecDepth 100000 in
theorem r12_Touches_ok (w : World) (D : Nat → Prop) (p0 : OpD) (p1 : List UInt8) (r0 : Bool) (H : Own w D w [])  (hr : r12_Touches p0 p1 = r0) :
    Calls Try.prog 26 #[.agg (OpD.cells p0).toArray, .string ⟨List.toArray p1⟩] w (Ret fun v w' => v = .bool r0 ∧ Own w D w' []) := by
  refine Calls.body (args := [.agg (OpD.cells p0).toArray, .string ⟨List.toArray p1⟩]) Try.func26 rfl rfl rfl ?_
  show Wp _ _ _ [(0, .agg (OpD.cells p0).toArray), (1, .string ⟨List.toArray p1⟩)] _ _
  refine Wp.seq (Wp.region ?_)
  refine WL.do rfl (Do.newP (cs := (OpD.cells p0)) (t := 50) H rfl rfl (fun _ => by kernel_rfl) ?_)
  intro g21 w22 H23
  refine As rfl rfl (WL.nil (Fin.then (Wp.seq (Wp.seq (Wp.region (Kn (v := .pointer (some ⟨g21, 0, none⟩)) rfl rfl rfl (fun _ => by kernel_rfl) (WL.val (v := .int .i64 p0.xKind) rfl (Yl.load rfl (Lds.one Try.isAgg3 (Cls.of (H23.cls (i := 0) rfl) rfl))) (Kn (v := .bool (decide (p0.xKind = 5))) rfl rfl rfl (fun _ => by kernel_rfl) (WL.nil (Fin.then ?_))))))))))
  by_cases h24 : p0.xKind = 5
  refine Wp.cond1 rfl (decide_eq_true h24) (Wp.seq (Wp.region (Kn (v := .pointer (some ⟨g21, 3, none⟩)) rfl rfl rfl (fun _ => by kernel_rfl) (WL.val (v := .string ⟨List.toArray p0.xLo⟩) rfl (Yl.load rfl (Lds.one Try.isAgg9 (Cls.of (H23.cls (i := 0) rfl) rfl))) (Kn (v := .pointer (some ⟨g21, 4, none⟩)) rfl rfl rfl (fun _ => by kernel_rfl) (WL.val (v := .string ⟨List.toArray p0.xHi⟩) rfl (Yl.load rfl (Lds.one Try.isAgg9 (Cls.of (H23.cls (i := 0) rfl) rfl))) (Kn (v := .agg #[.string ⟨List.toArray p0.xLo⟩, .string ⟨List.toArray p0.xHi⟩]) rfl rfl rfl (fun _ => by kernel_rfl) (Mv rfl rfl ?_))))))))
  obtain ⟨r30, hr31⟩ : ∃ q, r02_Has (RangeD.mk p0.xLo p0.xHi) p1 = q := ⟨_, rfl⟩
  obtain ⟨D25, HP26, ro27, bk28, rr29⟩ := Own.enter0 H23
  refine WL.do rfl (Do.call Try.call38 rfl (r02_Has_ok _ _ (RangeD.mk p0.xLo p0.xHi) p1 r30 HP26 hr31) ?_)
  rintro _ w32 ⟨rfl, HQ33⟩
  have H34 := bk28 _ _ HQ33
  refine As rfl rfl (WL.nil (Fin.then (Wp.ret (Fin.thenR (Fin.res (res1 rfl rfl) ?_)))))
  have H35 := H34.pick [] (by decide) rfl
  have e : r12_Touches p0 p1 = r30 := Eq.trans (if_pos h24) (bnd_of hr31)
  obtain rfl := e.symm.trans hr
  exact ⟨rfl, H35⟩
  refine Wp.cond0 rfl (decide_eq_false h24) (Wp.skip (Fin.then (Wp.seq (Wp.region (Kn (v := .pointer (some ⟨g21, 0, none⟩)) rfl rfl rfl (fun _ => by kernel_rfl) (WL.val (v := .int .i64 p0.xKind) rfl (Yl.load rfl (Lds.one Try.isAgg3 (Cls.of (H23.cls (i := 0) rfl) rfl))) (Kn (v := .bool (decide (p0.xKind = 2))) rfl rfl rfl (fun _ => by kernel_rfl) (Mv rfl rfl ?_))))))))
  by_cases h36 : p0.xKind = 2
  refine Sk rfl rfl (decide_eq_true h36) rfl (Sk rfl rfl (decide_eq_true h36) rfl (Sk rfl rfl (decide_eq_true h36) rfl (WL.val (v := .bool true) rfl (Yl.pickT rfl (decide_eq_true h36) rfl) (Mv rfl rfl (WL.valG (v := .pointer (some ⟨g21, 1, none⟩)) rfl rfl rfl rfl (Yl.kern rfl rfl (fun _ => by kernel_rfl)) (WL.valG (v := .string ⟨List.toArray p0.xKey⟩) rfl rfl rfl rfl (Yl.load rfl (Lds.one Try.isAgg9 (Cls.of (H23.cls (i := 0) rfl) rfl))) (WL.valG (v := .string ⟨List.toArray p1⟩) rfl rfl rfl rfl (Yl.move rfl) (WL.valG (v := .bool (decide (p0.xKey = p1))) rfl rfl rfl rfl (Yl.strEq rfl rfl) (WL.val (v := .bool (decide (p0.xKey = p1))) rfl (Yl.pickT rfl rfl rfl) (As rfl rfl (WL.nil (Fin.then (Wp.ret (Fin.res (res1 rfl rfl) ?_))))))))))))))
  have H37 := H23.pick [] (by decide) rfl
  have e : r12_Touches p0 p1 = decide (p0.xKey = p1) := Eq.trans (if_neg h24) (if_pos h36)
  obtain rfl := e.symm.trans hr
  exact ⟨rfl, H37⟩
  refine WL.valG (v := .pointer (some ⟨g21, 0, none⟩)) rfl rfl (decide_eq_false h36) rfl (Yl.kern rfl rfl (fun _ => by kernel_rfl)) (WL.valG (v := .int .i64 p0.xKind) rfl rfl (decide_eq_false h36) rfl (Yl.load rfl (Lds.one Try.isAgg3 (Cls.of (H23.cls (i := 0) rfl) rfl))) (WL.valG (v := .bool (decide (p0.xKind = 3))) rfl rfl (decide_eq_false h36) rfl (Yl.kern rfl rfl (fun _ => by kernel_rfl)) (WL.val (v := .bool (decide (p0.xKind = 3))) rfl (Yl.pickF rfl (decide_eq_false h36) rfl) (Mv rfl rfl ?_))))
  by_cases h38 : p0.xKind = 3
  refine WL.valG (v := .pointer (some ⟨g21, 1, none⟩)) rfl rfl (decide_eq_true h38) rfl (Yl.kern rfl rfl (fun _ => by kernel_rfl)) (WL.valG (v := .string ⟨List.toArray p0.xKey⟩) rfl rfl (decide_eq_true h38) rfl (Yl.load rfl (Lds.one Try.isAgg9 (Cls.of (H23.cls (i := 0) rfl) rfl))) (WL.valG (v := .string ⟨List.toArray p1⟩) rfl rfl (decide_eq_true h38) rfl (Yl.move rfl) (WL.valG (v := .bool (decide (p0.xKey = p1))) rfl rfl (decide_eq_true h38) rfl (Yl.strEq rfl rfl) (WL.val (v := .bool (decide (p0.xKey = p1))) rfl (Yl.pickT rfl (decide_eq_true h38) rfl) (As rfl rfl (WL.nil (Fin.then (Wp.ret (Fin.res (res1 rfl rfl) ?_)))))))))
  have H39 := H23.pick [] (by decide) rfl
  have e : r12_Touches p0 p1 = decide (p0.xKey = p1) := Eq.trans (if_neg h24) (Eq.trans (if_neg h36) (if_pos h38))
  obtain rfl := e.symm.trans hr
  exact ⟨rfl, H39⟩
  refine Sk rfl rfl (decide_eq_false h38) rfl (Sk rfl rfl (decide_eq_false h38) rfl (Sk rfl rfl (decide_eq_false h38) rfl (Sk rfl rfl (decide_eq_false h38) rfl (WL.val (v := .bool false) rfl (Yl.pickF rfl (decide_eq_false h38) rfl) (As rfl rfl (WL.nil (Fin.then (Wp.ret (Fin.res (res1 rfl rfl) ?_)))))))))
  have H40 := H23.pick [] (by decide) rfl
  have e : r12_Touches p0 p1 = false := Eq.trans (if_neg h24) (Eq.trans (if_neg h36) (if_neg h38))
  obtain rfl := e.symm.trans hr
  exact ⟨rfl, H40⟩

def r12_Find_L0 (p1 : List UInt8) : List EntryD → List UInt8 → Bool → Bool → (List UInt8) × Bool × Bool
  | [], s21, b22, b23 => (s21, b22, b23)
  | x33 :: q25, s21, b22, b23 => bnd (r12_Touches x33.xOp p1) fun yr46 => if yr46 = true then if x33.xOp.xKind = 2 then r12_Find_L0 p1 q25 x33.xOp.xValue (decide (x33.xOp.xKind = 2)) true else r12_Find_L0 p1 q25 ([]) (decide (x33.xOp.xKind = 2)) true else r12_Find_L0 p1 q25 s21 b22 b23

def r12_Find (l0 : List EntryD) (p1 : List UInt8) : (List UInt8) × Bool × Bool :=
  bnd (r12_Find_L0 p1 l0 ([]) false false) fun sLrL => (sLrL.1, sLrL.2.1, sLrL.2.2)

set_option maxRecDepth 100000 in
theorem r12_Find_ok (w : World) (D : Nat → Prop) (A0 : Option Addr) (n0 c0 : Nat) (l0 : List EntryD) (p1 : List UInt8) (r0 : List UInt8) (r1 : Bool) (r2 : Bool) (H : Own w D w []) (hx0 : Ro w D fun w' => Rds w' 7 A0 n0 (List.flatMap EntryD.cells l0)) (hn0 : n0 = l0.length) (hl0 : l0.length ≤ 9223372036854775807) (hr : r12_Find l0 p1 = (r0, r1, r2)) :
    Calls Try.prog 9 #[.slice A0 n0 c0, .string ⟨List.toArray p1⟩] w (Ret fun v w' => v = .tuple #[.string ⟨List.toArray r0⟩, .bool r1, .bool r2] ∧ Own w D w' []) := by
  subst hn0
  refine Calls.body (args := [.slice A0 l0.length c0, .string ⟨List.toArray p1⟩]) Try.func9 rfl rfl rfl ?_
  show Wp _ _ _ [(0, .slice A0 l0.length c0), (1, .string ⟨List.toArray p1⟩)] _ _
  refine Wp.seq (Wp.region (As rfl rfl (As rfl rfl (As rfl rfl (WL.nil (Fin.then (Wp.seq (Wp.seq (Wp.region (Mv rfl rfl (Kn (v := .int .i64 ((l0.length : Nat) : Int)) rfl rfl rfl (fun _ => by kernel_rfl) (Mv rfl rfl (WL.nil (Fin.then (Wp.block ?_)))))))))))))))
  have H26 : Own w D w [] := H.pick [] (by decide) rfl
  refine Wp.loop (ι := (List UInt8) × Bool × Bool × Nat) (fun i => [(4, .string ⟨List.toArray i.1⟩), (5, .bool i.2.1), (6, .bool i.2.2.1), (11, .int .i64 ((i.2.2.2 : Nat) : Int)), (10, .int .i64 ((l0.length : Nat) : Int)), (9, .slice A0 l0.length c0), (1, .string ⟨List.toArray p1⟩)]) (fun (i : (List UInt8) × Bool × Bool × Nat) w' => Own w D w' [] ∧ (i.2.2.2 ≤ l0.length ∧ r12_Find_L0 p1 l0 ([]) false false = r12_Find_L0 p1 (List.drop i.2.2.2 l0) i.1 i.2.1 i.2.2.1)) (fun i => l0.length - i.2.2.2) ([], false, false, 0) ⟨rfl, rfl, rfl, rfl, rfl, rfl, rfl, trivial⟩ ⟨H26, (show 0 ≤ l0.length ∧ r12_Find_L0 p1 l0 ([]) false false = r12_Find_L0 p1 (List.drop 0 l0) ([]) false false from ⟨by omega, rfl⟩)⟩ ?_
  rintro ⟨s21, b22, b23, k24⟩ w27 ⟨H28, hf29⟩
  show Wp _ _ _ [(4, .string ⟨List.toArray s21⟩), (5, .bool b22), (6, .bool b23), (11, .int .i64 ((k24 : Nat) : Int)), (10, .int .i64 ((l0.length : Nat) : Int)), (9, .slice A0 l0.length c0), (1, .string ⟨List.toArray p1⟩)] _ _
  replace hf29 : k24 ≤ l0.length ∧ r12_Find_L0 p1 l0 ([]) false false = r12_Find_L0 p1 (List.drop k24 l0) s21 b22 b23 := hf29
  obtain ⟨hi31, hq30⟩ := hf29
  refine Wp.seq (Wp.region (Kn (v := .bool (decide (((k24 : Nat) : Int) < ((l0.length : Nat) : Int)))) rfl rfl rfl (fun _ => by kernel_rfl) (WL.nil (Fin.then (Wp.seq ?_)))))
  by_cases h32 : ((k24 : Nat) : Int) < ((l0.length : Nat) : Int)
  obtain ⟨x33, hx34⟩ := rds_at (ls := l0) (i := k24) EntryD.len (by decide) (H28.ro hx0) (by first | omega | (simp; done) | (simp; omega))
  have hd35 := drop_at hx34
  refine Wp.cond1 rfl (decide_eq_true h32) (Wp.skip (Fin.then (Wp.seq (Wp.block (Wp.seq (Wp.region (WL.val (v := .pointer (some ⟨ab A0, ao A0 + k24 * 7, none⟩)) rfl (Yl.indexAddr (El22) rfl rfl ((H28.ro hx0).addr (i := k24) (by omega)) (by omega)) (WL.val (v := .agg (EntryD.cells x33).toArray) rfl (Yl.load rfl (Lds.agg (cs := (EntryD.cells x33)) Try.isAgg52 Try.sizeOf52 ((H28.ro hx0).elem EntryD.len hx34 (by decide)))) ?_))))))))
  refine WL.do rfl (Do.newP (cs := [.int .u64 0, .int .i64 0, .string ⟨List.toArray ([])⟩, .string ⟨List.toArray ([])⟩, .string ⟨List.toArray ([])⟩, .string ⟨List.toArray ([])⟩, .int .i64 0]) (t := 52) H28 rfl rfl (fun _ => by kernel_rfl) ?_)
  intro g36 w37 H38
  refine WL.do0 (Do.store (vs := (EntryD.cells x33)) (o := 0) H38 rfl rfl Try.sizeOf52 rfl rfl rfl rfl ?_)
  intro w39 H40
  refine WL.nil (Fin.then (Wp.seq (Wp.region (Kn (v := .pointer (some ⟨g36, 1, none⟩)) rfl rfl rfl (fun _ => by kernel_rfl) (WL.val (v := .agg (OpD.cells x33.xOp).toArray) rfl (Yl.load rfl (Lds.agg (cs := (OpD.cells x33.xOp)) Try.isAgg50 Try.sizeOf50 ((H40.cls (i := 0) rfl).lit (k := 1) (m := 6) rfl))) (Mv rfl rfl ?_))))))
  obtain ⟨r46, hr47⟩ : ∃ q, r12_Touches x33.xOp p1 = q := ⟨_, rfl⟩
  obtain ⟨D41, HP42, ro43, bk44, rr45⟩ := Own.enter0 H40
  refine WL.do rfl (Do.call Try.call26 rfl (r12_Touches_ok _ _ x33.xOp p1 r46 HP42 hr47) ?_)
  rintro _ w48 ⟨rfl, HQ49⟩
  have H50 := bk44 _ _ HQ49
  refine WL.nil (Fin.then ?_)
  rcases Bool.eq_false_or_eq_true (r46) with h51 | h51
  refine Wp.cond1 rfl h51 (Wp.seq (Wp.region (As rfl rfl (WL.nil (Fin.then (Wp.seq (Wp.region (Kn (v := .pointer (some ⟨g36, 1, none⟩)) rfl rfl rfl (fun _ => by kernel_rfl) (Kn (v := .pointer (some ⟨g36, 1, none⟩)) rfl rfl rfl (fun _ => by kernel_rfl) (WL.val (v := .int .i64 x33.xOp.xKind) rfl (Yl.load rfl (Lds.one Try.isAgg3 (Cls.of (H50.cls (i := 0) rfl) rfl))) (Kn (v := .bool (decide (x33.xOp.xKind = 2))) rfl rfl rfl (fun _ => by kernel_rfl) (As rfl rfl (WL.nil (Fin.then (Wp.seq (Wp.region (As rfl rfl (WL.nil (Fin.then (Wp.seq (Wp.region (Mv rfl rfl (WL.nil (Fin.then ?_))))))))))))))))))))))))
  by_cases h52 : x33.xOp.xKind = 2
  refine Wp.cond1 rfl (decide_eq_true h52) (Wp.region (Kn (v := .pointer (some ⟨g36, 1, none⟩)) rfl rfl rfl (fun _ => by kernel_rfl) (Kn (v := .pointer (some ⟨g36, 3, none⟩)) rfl rfl rfl (fun _ => by kernel_rfl) (WL.val (v := .string ⟨List.toArray x33.xOp.xValue⟩) rfl (Yl.load rfl (Lds.one Try.isAgg9 (Cls.of (H50.cls (i := 0) rfl) rfl))) (As rfl rfl (WL.nil (Fin.blockN (Fin.then (Wp.region (WL.val (v := .int .i64 ((k24 + 1 : Nat) : Int)) rfl (Yl.int (e := IntKind.i64.wrap (((k24 : Nat) : Int) + 1)) (Yl.kern rfl rfl (fun _ => by kernel_rfl)) (by rw [IntWalk.i64_in _ (by omega)]; omega)) (Mv rfl rfl (WL.nil ?_))))))))))))
  have H53 := H50.pick [] (by decide) rfl
  exact Fin.round (x33.xOp.xValue, decide (x33.xOp.xKind = 2), true, k24 + 1) ⟨rfl, rfl, rfl, rfl, rfl, rfl, rfl, trivial⟩ ⟨H53, (show (k24 + 1) ≤ l0.length ∧ r12_Find_L0 p1 l0 ([]) false false = r12_Find_L0 p1 (List.drop (k24 + 1) l0) x33.xOp.xValue (decide (x33.xOp.xKind = 2)) true from ⟨by omega, Eq.trans (hq30) (Eq.trans (congrArg (fun q => r12_Find_L0 p1 q s21 b22 b23) hd35) (Eq.trans (bnd_of hr47) (Eq.trans (if_pos h51) (if_pos h52))))⟩)⟩ (by show l0.length - (k24 + 1) < l0.length - k24; omega)
  refine Wp.cond0 rfl (decide_eq_false h52) (Wp.skip (Fin.blockN (Fin.then (Wp.region (WL.val (v := .int .i64 ((k24 + 1 : Nat) : Int)) rfl (Yl.int (e := IntKind.i64.wrap (((k24 : Nat) : Int) + 1)) (Yl.kern rfl rfl (fun _ => by kernel_rfl)) (by rw [IntWalk.i64_in _ (by omega)]; omega)) (Mv rfl rfl (WL.nil ?_)))))))
  have H54 := H50.pick [] (by decide) rfl
  exact Fin.round ([], decide (x33.xOp.xKind = 2), true, k24 + 1) ⟨rfl, rfl, rfl, rfl, rfl, rfl, rfl, trivial⟩ ⟨H54, (show (k24 + 1) ≤ l0.length ∧ r12_Find_L0 p1 l0 ([]) false false = r12_Find_L0 p1 (List.drop (k24 + 1) l0) ([]) (decide (x33.xOp.xKind = 2)) true from ⟨by omega, Eq.trans (hq30) (Eq.trans (congrArg (fun q => r12_Find_L0 p1 q s21 b22 b23) hd35) (Eq.trans (bnd_of hr47) (Eq.trans (if_pos h51) (if_neg h52))))⟩)⟩ (by show l0.length - (k24 + 1) < l0.length - k24; omega)
  refine Wp.cond0 rfl h51 (Wp.skip (Fin.blockN (Fin.then (Wp.region (WL.val (v := .int .i64 ((k24 + 1 : Nat) : Int)) rfl (Yl.int (e := IntKind.i64.wrap (((k24 : Nat) : Int) + 1)) (Yl.kern rfl rfl (fun _ => by kernel_rfl)) (by rw [IntWalk.i64_in _ (by omega)]; omega)) (Mv rfl rfl (WL.nil ?_)))))))
  have H55 := H50.pick [] (by decide) rfl
  exact Fin.round (s21, b22, b23, k24 + 1) ⟨rfl, rfl, rfl, rfl, rfl, rfl, rfl, trivial⟩ ⟨H55, (show (k24 + 1) ≤ l0.length ∧ r12_Find_L0 p1 l0 ([]) false false = r12_Find_L0 p1 (List.drop (k24 + 1) l0) s21 b22 b23 from ⟨by omega, Eq.trans (hq30) (Eq.trans (congrArg (fun q => r12_Find_L0 p1 q s21 b22 b23) hd35) (Eq.trans (bnd_of hr47) (ifF h51)))⟩)⟩ (by show l0.length - (k24 + 1) < l0.length - k24; omega)
  refine Wp.cond0 rfl (decide_eq_false h32) (Wp.exit (Fin.thenX ?_))
  have hL56 : r12_Find_L0 p1 l0 ([]) false false = (s21, b22, b23) := Eq.trans (hq30) (Eq.trans (congrArg (fun q => r12_Find_L0 p1 q s21 b22 b23) (drop_end (ls := l0) (i := k24) (by omega))) rfl)
  refine Fin.thenX (Fin.blockX (Fin.then (Wp.seq (Wp.region (Mv rfl rfl (Mv rfl rfl (Mv rfl rfl (As rfl rfl (As rfl rfl (As rfl rfl (WL.nil (Fin.then (Wp.ret (Fin.res (res3 rfl rfl rfl rfl) ?_))))))))))))))
  have H57 := H28.pick [] (by decide) rfl
  have e : r12_Find l0 p1 = (s21, b22, b23) := bnd_of hL56
  obtain ⟨rfl, rfl, rfl⟩ := pj3 (e.symm.trans hr)
  exact ⟨rfl, H57⟩
end Go.Proofs.Ytblpdbnklopchaa
