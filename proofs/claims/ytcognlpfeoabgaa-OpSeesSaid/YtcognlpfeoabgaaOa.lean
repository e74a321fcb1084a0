/-
  op: which operations may be, what they touch; the library's slices.
-/
import Derived.Test.YtcognlpfeoabgaaKm
namespace Go.Proofs.Ytcognlpfeoabgaa
open Go.RowKit
set_option linter.unusedVariables false
set_option linter.unusedSectionVars false

structure OpD where
  xKind : Int
  xKey : List UInt8
  xValue : List UInt8
  xLo : List UInt8
  xHi : List UInt8
  xMost : Int

def OpD.cells (x : OpD) : List Value := [.int .i64 x.xKind, .string ⟨List.toArray x.xKey⟩, .string ⟨List.toArray x.xValue⟩, .string ⟨List.toArray x.xLo⟩, .string ⟨List.toArray x.xHi⟩, .int .i64 x.xMost]

theorem OpD.len : ∀ x, (OpD.cells x).length = 6 := fun _ => rfl

theorem OpD.one : ∀ x, ∀ u ∈ OpD.cells x, u.oneCell' = true := fun x u hu => by
  simp only [OpD.cells, List.mem_cons, List.not_mem_nil, or_false] at hu
  rcases hu with rfl | rfl | rfl | rfl | rfl | rfl <;> rfl

def OpD.Ok (w : World) (x : OpD) : Prop := ((-9223372036854775808) ≤ x.xKind ∧ x.xKind ≤ 9223372036854775807) ∧ (List.length x.xKey ≤ 140737488351232) ∧ (List.length x.xValue ≤ 140737488351232) ∧ (List.length x.xLo ≤ 140737488351232) ∧ (List.length x.xHi ≤ 140737488351232) ∧ ((-9223372036854775808) ≤ x.xMost ∧ x.xMost ≤ 9223372036854775807)

theorem opens_OpD (w : World) : Opens Try.prog w 23 6 OpD.cells (OpD.Ok w) :=
  (opens_struct (sz := 6) Try.underlying23 (by kernel_rfl) (OpensF.cons (i := 0) (off := 0) (s := 1) rfl rfl (opens_int (k := .i64) (lo := -9223372036854775808) (hi := 9223372036854775807) Try.underlying3 (by kernel_rfl) (by decide) (by decide)) (OpensF.cons (i := 1) (off := 1) (s := 1) rfl rfl (opens_string Try.underlying9 (by kernel_rfl)) (OpensF.cons (i := 2) (off := 2) (s := 1) rfl rfl (opens_string Try.underlying9 (by kernel_rfl)) (OpensF.cons (i := 3) (off := 3) (s := 1) rfl rfl (opens_string Try.underlying9 (by kernel_rfl)) (OpensF.cons (i := 4) (off := 4) (s := 1) rfl rfl (opens_string Try.underlying9 (by kernel_rfl)) (OpensF.cons (i := 5) (off := 5) (s := 1) rfl rfl (opens_int (k := .i64) (lo := -9223372036854775808) (hi := 9223372036854775807) Try.underlying3 (by kernel_rfl) (by decide) (by decide)) OpensF.nil))))))).map (fun p => ⟨p.1, p.2.1, p.2.2.1, p.2.2.2.1, p.2.2.2.2.1, p.2.2.2.2.2.1⟩) OpD.len (fun _ => rfl) fun _ h => ⟨h.1, h.2.1, h.2.2.1, h.2.2.2.1, h.2.2.2.2.1, h.2.2.2.2.2.1⟩

instance : Inhabited OpD := ⟨⟨default, default, default, default, default, default⟩⟩

set_option maxRecDepth 100000 in
theorem op_kindOf_1_ok (w : World) (D : Nat → Prop) (p0 : Int) (H : Own w D w []) (hp0 : p0 = 1) :
    Calls Try.prog 30 #[.int .i64 p0] w (Ret fun v w' => v = .tuple #[.agg #[.bool false, .func (.func 43) #[] #[], .func (.func 44) #[] #[], .func (.func 45) #[] #[], .func (.func 46) #[] #[]], .bool true] ∧ Own w D w' []) := by
  subst hp0
  refine Calls.body (args := [.int .i64 1]) Try.func30 rfl rfl rfl ?_
  show Wp _ _ _ [(0, .int .i64 1)] _ _
  refine Wp.seq (Wp.region ?_)
  refine WL.do rfl (Do.newP (cs := [.bool false, .nilFunc, .nilFunc, .nilFunc, .nilFunc]) (t := 65) H rfl rfl (fun _ => by kernel_rfl) ?_)
  intro g21 w22 H23
  replace H23 : Own w D w22 [blk g21 [.bool false, .nilFunc, .nilFunc, .nilFunc, .nilFunc] 65] := H23
  refine As rfl rfl (WL.nil (Fin.then (Wp.seq (Wp.region (Kn (v := .agg #[.bool false, .func (.func 43) #[] #[], .func (.func 44) #[] #[], .func (.func 45) #[] #[], .func (.func 46) #[] #[]]) rfl rfl rfl (fun _ => by kernel_rfl) (Kn (v := .agg #[.bool true, .func (.func 47) #[] #[], .func (.func 48) #[] #[], .func (.func 45) #[] #[], .func (.func 49) #[] #[]]) rfl rfl rfl (fun _ => by kernel_rfl) (Kn (v := .agg #[.bool true, .func (.func 43) #[] #[], .func (.func 44) #[] #[], .func (.func 45) #[] #[], .func (.func 50) #[] #[]]) rfl rfl rfl (fun _ => by kernel_rfl) (Kn (v := .agg #[.bool false, .func (.func 51) #[] #[], .func (.func 52) #[] #[], .func (.func 53) #[] #[], .func (.func 54) #[] #[]]) rfl rfl rfl (fun _ => by kernel_rfl) (Kn (v := .agg #[.bool true, .func (.func 55) #[] #[], .func (.func 56) #[] #[], .func (.func 53) #[] #[], .func (.func 57) #[] #[]]) rfl rfl rfl (fun _ => by kernel_rfl) (Kn (v := .agg #[.bool false, .nilFunc, .nilFunc, .nilFunc, .nilFunc, .bool false, .func (.func 43) #[] #[], .func (.func 44) #[] #[], .func (.func 45) #[] #[], .func (.func 46) #[] #[], .bool true, .func (.func 47) #[] #[], .func (.func 48) #[] #[], .func (.func 45) #[] #[], .func (.func 49) #[] #[], .bool true, .func (.func 43) #[] #[], .func (.func 44) #[] #[], .func (.func 45) #[] #[], .func (.func 50) #[] #[], .bool false, .func (.func 51) #[] #[], .func (.func 52) #[] #[], .func (.func 53) #[] #[], .func (.func 54) #[] #[], .bool true, .func (.func 55) #[] #[], .func (.func 56) #[] #[], .func (.func 53) #[] #[], .func (.func 57) #[] #[]]) rfl rfl rfl (fun _ => by kernel_rfl) ?_))))))))))
  refine WL.do rfl (Do.newP (cs := [.bool false, .nilFunc, .nilFunc, .nilFunc, .nilFunc, .bool false, .nilFunc, .nilFunc, .nilFunc, .nilFunc, .bool false, .nilFunc, .nilFunc, .nilFunc, .nilFunc, .bool false, .nilFunc, .nilFunc, .nilFunc, .nilFunc, .bool false, .nilFunc, .nilFunc, .nilFunc, .nilFunc, .bool false, .nilFunc, .nilFunc, .nilFunc, .nilFunc]) (t := 75) H23 rfl rfl (fun _ => by kernel_rfl) ?_)
  intro g24 w25 H26
  replace H26 : Own w D w25 [blk g24 [.bool false, .nilFunc, .nilFunc, .nilFunc, .nilFunc, .bool false, .nilFunc, .nilFunc, .nilFunc, .nilFunc, .bool false, .nilFunc, .nilFunc, .nilFunc, .nilFunc, .bool false, .nilFunc, .nilFunc, .nilFunc, .nilFunc, .bool false, .nilFunc, .nilFunc, .nilFunc, .nilFunc, .bool false, .nilFunc, .nilFunc, .nilFunc, .nilFunc] 75, blk g21 [.bool false, .nilFunc, .nilFunc, .nilFunc, .nilFunc] 65] := H26
  refine WL.do0 (Do.store (vs := [.bool false, .nilFunc, .nilFunc, .nilFunc, .nilFunc, .bool false, .func (.func 43) #[] #[], .func (.func 44) #[] #[], .func (.func 45) #[] #[], .func (.func 46) #[] #[], .bool true, .func (.func 47) #[] #[], .func (.func 48) #[] #[], .func (.func 45) #[] #[], .func (.func 49) #[] #[], .bool true, .func (.func 43) #[] #[], .func (.func 44) #[] #[], .func (.func 45) #[] #[], .func (.func 50) #[] #[], .bool false, .func (.func 51) #[] #[], .func (.func 52) #[] #[], .func (.func 53) #[] #[], .func (.func 54) #[] #[], .bool true, .func (.func 55) #[] #[], .func (.func 56) #[] #[], .func (.func 53) #[] #[], .func (.func 57) #[] #[]]) (o := 0) H26 rfl rfl Try.sizeOf75 rfl rfl rfl rfl ?_)
  intro w27 H28
  replace H28 : Own w D w27 [blk g24 [.bool false, .nilFunc, .nilFunc, .nilFunc, .nilFunc, .bool false, .func (.func 43) #[] #[], .func (.func 44) #[] #[], .func (.func 45) #[] #[], .func (.func 46) #[] #[], .bool true, .func (.func 47) #[] #[], .func (.func 48) #[] #[], .func (.func 45) #[] #[], .func (.func 49) #[] #[], .bool true, .func (.func 43) #[] #[], .func (.func 44) #[] #[], .func (.func 45) #[] #[], .func (.func 50) #[] #[], .bool false, .func (.func 51) #[] #[], .func (.func 52) #[] #[], .func (.func 53) #[] #[], .func (.func 54) #[] #[], .bool true, .func (.func 55) #[] #[], .func (.func 56) #[] #[], .func (.func 53) #[] #[], .func (.func 57) #[] #[]] 75, blk g21 [.bool false, .nilFunc, .nilFunc, .nilFunc, .nilFunc] 65] := H28
  refine WL.nil (Fin.then (Wp.seq (Wp.seq (Wp.region (Mv rfl rfl (Kn (v := .bool false) rfl rfl rfl (fun _ => by kernel_rfl) (Mv rfl rfl (WL.valG (v := .int .i64 1) rfl rfl rfl rfl (Yl.move rfl) (WL.valG (v := .bool false) rfl rfl rfl rfl (Yl.kern rfl rfl (fun _ => by kernel_rfl)) (WL.val (v := .bool false) rfl (Yl.pickF rfl rfl rfl) (WL.nil (Fin.then (Wp.cond0 rfl rfl (Wp.skip (Fin.then (Wp.seq (Wp.region (Mv rfl rfl (Kn (v := .pointer (some ⟨g24, 5, none⟩)) rfl rfl rfl (fun _ => by kernel_rfl) (WL.val (v := .agg #[.bool false, .func (.func 43) #[] #[], .func (.func 44) #[] #[], .func (.func 45) #[] #[], .func (.func 46) #[] #[]]) rfl (Yl.load rfl (Lds.agg (cs := [.bool false, .func (.func 43) #[] #[], .func (.func 44) #[] #[], .func (.func 45) #[] #[], .func (.func 46) #[] #[]]) Try.isAgg65 Try.sizeOf65 ((H28.cls (i := 0) rfl).lit (k := 5) (m := 5) rfl))) ?_))))))))))))))))))))
  have H29 : Own w D w27 [blk g21 [.bool false, .nilFunc, .nilFunc, .nilFunc, .nilFunc] 65, blk g24 [.bool false, .nilFunc, .nilFunc, .nilFunc, .nilFunc, .bool false, .func (.func 43) #[] #[], .func (.func 44) #[] #[], .func (.func 45) #[] #[], .func (.func 46) #[] #[], .bool true, .func (.func 47) #[] #[], .func (.func 48) #[] #[], .func (.func 45) #[] #[], .func (.func 49) #[] #[], .bool true, .func (.func 43) #[] #[], .func (.func 44) #[] #[], .func (.func 45) #[] #[], .func (.func 50) #[] #[], .bool false, .func (.func 51) #[] #[], .func (.func 52) #[] #[], .func (.func 53) #[] #[], .func (.func 54) #[] #[], .bool true, .func (.func 55) #[] #[], .func (.func 56) #[] #[], .func (.func 53) #[] #[], .func (.func 57) #[] #[]] 75] := H28.pick [1, 0] (by decide) rfl
  refine WL.do0 (Do.store (vs := [.bool false, .func (.func 43) #[] #[], .func (.func 44) #[] #[], .func (.func 45) #[] #[], .func (.func 46) #[] #[]]) (o := 0) H29 rfl rfl Try.sizeOf65 rfl rfl rfl rfl ?_)
  intro w30 H31
  replace H31 : Own w D w30 [blk g21 [.bool false, .func (.func 43) #[] #[], .func (.func 44) #[] #[], .func (.func 45) #[] #[], .func (.func 46) #[] #[]] 65, blk g24 [.bool false, .nilFunc, .nilFunc, .nilFunc, .nilFunc, .bool false, .func (.func 43) #[] #[], .func (.func 44) #[] #[], .func (.func 45) #[] #[], .func (.func 46) #[] #[], .bool true, .func (.func 47) #[] #[], .func (.func 48) #[] #[], .func (.func 45) #[] #[], .func (.func 49) #[] #[], .bool true, .func (.func 43) #[] #[], .func (.func 44) #[] #[], .func (.func 45) #[] #[], .func (.func 50) #[] #[], .bool false, .func (.func 51) #[] #[], .func (.func 52) #[] #[], .func (.func 53) #[] #[], .func (.func 54) #[] #[], .bool true, .func (.func 55) #[] #[], .func (.func 56) #[] #[], .func (.func 53) #[] #[], .func (.func 57) #[] #[]] 75] := H31
  refine As rfl rfl (WL.nil (Fin.then (Wp.ret (Fin.res (resN (vs := [.agg #[.bool false, .func (.func 43) #[] #[], .func (.func 44) #[] #[], .func (.func 45) #[] #[], .func (.func 46) #[] #[]], .bool true]) rfl (ResV.cell rfl (Lds.agg (cs := [.bool false, .func (.func 43) #[] #[], .func (.func 44) #[] #[], .func (.func 45) #[] #[], .func (.func 46) #[] #[]]) Try.isAgg65 Try.sizeOf65 ((H31.cls (i := 0) rfl).lit (k := 0) (m := 5) rfl)) (ResV.tmp rfl ResV.nil)) (Nat.le_of_ble_eq_true rfl)) ?_))))
  have H32 : Own w D w30 [] := H31.pick [] (by decide) rfl
  exact ⟨rfl, H32⟩

def op_ownKey (p0 : OpD) : OpD :=
  OpD.mk p0.xKind p0.xKey ([]) ([]) ([]) 0

set_option maxRecDepth 100000 in
theorem op_ownKey_ok (w : World) (D : Nat → Prop) (p0 : OpD) (r0 : OpD) (H : Own w D w [])  (hr : op_ownKey p0 = r0) :
    Calls Try.prog 43 #[.agg (OpD.cells p0).toArray] w (Ret fun v w' => v = .agg (OpD.cells r0).toArray ∧ Own w D w' []) := by
  refine Calls.body (args := [.agg (OpD.cells p0).toArray]) Try.func43 rfl rfl rfl ?_
  show Wp _ _ _ [(0, .agg (OpD.cells p0).toArray)] _ _
  refine Wp.seq (Wp.region ?_)
  refine WL.do rfl (Do.newP (cs := (OpD.cells p0)) (t := 23) H rfl rfl (fun _ => by kernel_rfl) ?_)
  intro g21 w22 H23
  replace H23 : Own w D w22 [blk g21 (OpD.cells p0) 23] := H23
  refine WL.do rfl (Do.newP (cs := [.int .i64 0, .string ⟨List.toArray ([])⟩, .string ⟨List.toArray ([])⟩, .string ⟨List.toArray ([])⟩, .string ⟨List.toArray ([])⟩, .int .i64 0]) (t := 23) H23 rfl rfl (fun _ => by kernel_rfl) ?_)
  intro g24 w25 H26
  replace H26 : Own w D w25 [blk g24 [.int .i64 0, .string ⟨List.toArray ([])⟩, .string ⟨List.toArray ([])⟩, .string ⟨List.toArray ([])⟩, .string ⟨List.toArray ([])⟩, .int .i64 0] 23, blk g21 (OpD.cells p0) 23] := H26
  refine WL.nil (Fin.then (Wp.seq (Wp.region (Kn (v := .pointer (some ⟨g21, 0, none⟩)) rfl rfl rfl (fun _ => by kernel_rfl) (WL.val (v := .int .i64 p0.xKind) rfl (Yl.load rfl (Lds.one Try.isAgg3 (Cls.of (H26.cls (i := 1) rfl) rfl))) (Kn (v := .pointer (some ⟨g21, 1, none⟩)) rfl rfl rfl (fun _ => by kernel_rfl) (WL.val (v := .string ⟨List.toArray p0.xKey⟩) rfl (Yl.load rfl (Lds.one Try.isAgg9 (Cls.of (H26.cls (i := 1) rfl) rfl))) (Kn (v := .agg #[.int .i64 p0.xKind, .string ⟨List.toArray p0.xKey⟩, .string ⟨List.toArray ([])⟩, .string ⟨List.toArray ([])⟩, .string ⟨List.toArray ([])⟩, .int .i64 0]) rfl rfl rfl (fun _ => by kernel_rfl) ?_))))))))
  refine WL.do0 (Do.store (vs := [.int .i64 p0.xKind, .string ⟨List.toArray p0.xKey⟩, .string ⟨List.toArray ([])⟩, .string ⟨List.toArray ([])⟩, .string ⟨List.toArray ([])⟩, .int .i64 0]) (o := 0) H26 rfl rfl Try.sizeOf23 rfl rfl rfl rfl ?_)
  intro w27 H28
  replace H28 : Own w D w27 [blk g24 [.int .i64 p0.xKind, .string ⟨List.toArray p0.xKey⟩, .string ⟨List.toArray ([])⟩, .string ⟨List.toArray ([])⟩, .string ⟨List.toArray ([])⟩, .int .i64 0] 23, blk g21 (OpD.cells p0) 23] := H28
  refine WL.nil (Fin.then (Wp.ret (Fin.res (resC rfl rfl (Lds.agg (cs := [.int .i64 p0.xKind, .string ⟨List.toArray p0.xKey⟩, .string ⟨List.toArray ([])⟩, .string ⟨List.toArray ([])⟩, .string ⟨List.toArray ([])⟩, .int .i64 0]) Try.isAgg23 Try.sizeOf23 ((H28.cls (i := 0) rfl).lit (k := 0) (m := 6) rfl))) ?_)))
  have H29 : Own w D w27 [] := H28.pick [] (by decide) rfl
  have e : op_ownKey p0 = OpD.mk p0.xKind p0.xKey ([]) ([]) ([]) 0 := rfl
  obtain rfl := e.symm.trans hr
  exact ⟨rfl, H29⟩

def span_CheckKey (p0 : List UInt8) : Int :=
  if ((List.length p0 : Nat) : Int) < 1 then 20 else if ((List.length p0 : Nat) : Int) > 12 then 20 else 0

set_option maxRecDepth 100000 in
theorem span_CheckKey_ok (w : World) (D : Nat → Prop) (p0 : List UInt8) (r0 : Int) (H : Own w D w [])  (hr : span_CheckKey p0 = r0) :
    Calls Try.prog 36 #[.string ⟨List.toArray p0⟩] w (Ret fun v w' => v = .int .i64 r0 ∧ Own w D w' [] ∧ (¬ (r0 = 0) ∨ (1 ≤ List.length p0 ∧ List.length p0 ≤ 12))) := by
  refine Calls.body (args := [.string ⟨List.toArray p0⟩]) Try.func36 rfl rfl rfl ?_
  show Wp _ _ _ [(0, .string ⟨List.toArray p0⟩)] _ _
  refine Wp.seq (Wp.region (As rfl rfl (WL.nil (Fin.then (Wp.seq (Wp.seq (Wp.region (Mv rfl rfl (Kn (v := .int .i64 ((List.length p0 : Nat) : Int)) rfl rfl rfl (fun _ => by kernel_rfl) (Kn (v := .bool (decide (((List.length p0 : Nat) : Int) < 1))) rfl rfl rfl (fun _ => by kernel_rfl) (Mv rfl rfl ?_)))))))))))
  by_cases h21 : ((List.length p0 : Nat) : Int) < 1
  refine Sk rfl rfl (decide_eq_true h21) rfl (Sk rfl rfl (decide_eq_true h21) rfl (Sk rfl rfl (decide_eq_true h21) rfl (WL.val (v := .bool true) rfl (Yl.pickT rfl (decide_eq_true h21) rfl) (WL.nil (Fin.then (Wp.cond1 rfl rfl (Wp.seq (Wp.region (As rfl rfl (WL.nil (Fin.then (Wp.ret (Fin.thenR (Fin.res (res1 rfl rfl) ?_))))))))))))))
  have H22 : Own w D w [] := H.pick [] (by decide) rfl
  have e : span_CheckKey p0 = 20 := if_pos h21
  obtain rfl := e.symm.trans hr
  exact ⟨rfl, H22, (by omega)⟩
  refine WL.valG (v := .string ⟨List.toArray p0⟩) rfl rfl (decide_eq_false h21) rfl (Yl.move rfl) (WL.valG (v := .int .i64 ((List.length p0 : Nat) : Int)) rfl rfl (decide_eq_false h21) rfl (Yl.kern rfl rfl (fun _ => by kernel_rfl)) (WL.valG (v := .bool (decide (((List.length p0 : Nat) : Int) > 12))) rfl rfl (decide_eq_false h21) rfl (Yl.kern rfl rfl (fun _ => by kernel_rfl)) (WL.val (v := .bool (decide (((List.length p0 : Nat) : Int) > 12))) rfl (Yl.pickF rfl (decide_eq_false h21) rfl) (WL.nil (Fin.then ?_)))))
  by_cases h23 : ((List.length p0 : Nat) : Int) > 12
  refine Wp.cond1 rfl (decide_eq_true h23) (Wp.seq (Wp.region (As rfl rfl (WL.nil (Fin.then (Wp.ret (Fin.thenR (Fin.res (res1 rfl rfl) ?_))))))))
  have H24 : Own w D w [] := H.pick [] (by decide) rfl
  have e : span_CheckKey p0 = 20 := Eq.trans (if_neg h21) (if_pos h23)
  obtain rfl := e.symm.trans hr
  exact ⟨rfl, H24, (by omega)⟩
  refine Wp.cond0 rfl (decide_eq_false h23) (Wp.skip (Fin.then (Wp.seq (Wp.region (As rfl rfl (WL.nil (Fin.then (Wp.ret (Fin.res (res1 rfl rfl) ?_)))))))))
  have H25 : Own w D w [] := H.pick [] (by decide) rfl
  have e : span_CheckKey p0 = 0 := Eq.trans (if_neg h21) (if_neg h23)
  obtain rfl := e.symm.trans hr
  exact ⟨rfl, H25, (by omega)⟩

def op_checkKey (p0 : OpD) : Int :=
  bnd (span_CheckKey p0.xKey) fun yr29 => yr29

set_option maxRecDepth 100000 in
theorem op_checkKey_ok (w : World) (D : Nat → Prop) (p0 : OpD) (r0 : Int) (H : Own w D w [])  (hr : op_checkKey p0 = r0) :
    Calls Try.prog 44 #[.agg (OpD.cells p0).toArray] w (Ret fun v w' => v = .int .i64 r0 ∧ Own w D w' []) := by
  refine Calls.body (args := [.agg (OpD.cells p0).toArray]) Try.func44 rfl rfl rfl ?_
  show Wp _ _ _ [(0, .agg (OpD.cells p0).toArray)] _ _
  refine Wp.seq (Wp.region ?_)
  refine WL.do rfl (Do.newP (cs := (OpD.cells p0)) (t := 23) H rfl rfl (fun _ => by kernel_rfl) ?_)
  intro g21 w22 H23
  replace H23 : Own w D w22 [blk g21 (OpD.cells p0) 23] := H23
  refine As rfl rfl (WL.nil (Fin.then (Wp.seq (Wp.region (Kn (v := .pointer (some ⟨g21, 1, none⟩)) rfl rfl rfl (fun _ => by kernel_rfl) (WL.val (v := .string ⟨List.toArray p0.xKey⟩) rfl (Yl.load rfl (Lds.one Try.isAgg9 (Cls.of (H23.cls (i := 0) rfl) rfl))) ?_))))))
  obtain ⟨r29, hr30⟩ : ∃ q, span_CheckKey p0.xKey = q := ⟨_, rfl⟩
  obtain ⟨D24, HP25, ro26, bk27, rr28⟩ := Own.enter0 H23
  refine WL.do rfl (Do.call Try.call36 rfl (span_CheckKey_ok _ _ p0.xKey r29 HP25 hr30) ?_)
  rintro _ w31 ⟨rfl, HQ32, hk34⟩
  have H33 : Own w D w31 [blk g21 (OpD.cells p0) 23] := bk27 _ _ HQ32
  replace hk34 : ¬ (r29 = 0) ∨ (1 ≤ List.length p0.xKey ∧ List.length p0.xKey ≤ 12) := hk34
  refine As rfl rfl (WL.nil (Fin.then (Wp.ret (Fin.res (res1 rfl rfl) ?_))))
  have H35 : Own w D w31 [] := H33.pick [] (by decide) rfl
  have e : op_checkKey p0 = r29 := bnd_of hr30
  obtain rfl := e.symm.trans hr
  exact ⟨rfl, H35⟩

set_option maxRecDepth 100000 in
theorem op_kindOf_2_ok (w : World) (D : Nat → Prop) (p0 : Int) (H : Own w D w []) (hp0 : p0 = 2) :
    Calls Try.prog 30 #[.int .i64 p0] w (Ret fun v w' => v = .tuple #[.agg #[.bool true, .func (.func 47) #[] #[], .func (.func 48) #[] #[], .func (.func 45) #[] #[], .func (.func 49) #[] #[]], .bool true] ∧ Own w D w' []) := by
  subst hp0
  refine Calls.body (args := [.int .i64 2]) Try.func30 rfl rfl rfl ?_
  show Wp _ _ _ [(0, .int .i64 2)] _ _
  refine Wp.seq (Wp.region ?_)
  refine WL.do rfl (Do.newP (cs := [.bool false, .nilFunc, .nilFunc, .nilFunc, .nilFunc]) (t := 65) H rfl rfl (fun _ => by kernel_rfl) ?_)
  intro g21 w22 H23
  replace H23 : Own w D w22 [blk g21 [.bool false, .nilFunc, .nilFunc, .nilFunc, .nilFunc] 65] := H23
  refine As rfl rfl (WL.nil (Fin.then (Wp.seq (Wp.region (Kn (v := .agg #[.bool false, .func (.func 43) #[] #[], .func (.func 44) #[] #[], .func (.func 45) #[] #[], .func (.func 46) #[] #[]]) rfl rfl rfl (fun _ => by kernel_rfl) (Kn (v := .agg #[.bool true, .func (.func 47) #[] #[], .func (.func 48) #[] #[], .func (.func 45) #[] #[], .func (.func 49) #[] #[]]) rfl rfl rfl (fun _ => by kernel_rfl) (Kn (v := .agg #[.bool true, .func (.func 43) #[] #[], .func (.func 44) #[] #[], .func (.func 45) #[] #[], .func (.func 50) #[] #[]]) rfl rfl rfl (fun _ => by kernel_rfl) (Kn (v := .agg #[.bool false, .func (.func 51) #[] #[], .func (.func 52) #[] #[], .func (.func 53) #[] #[], .func (.func 54) #[] #[]]) rfl rfl rfl (fun _ => by kernel_rfl) (Kn (v := .agg #[.bool true, .func (.func 55) #[] #[], .func (.func 56) #[] #[], .func (.func 53) #[] #[], .func (.func 57) #[] #[]]) rfl rfl rfl (fun _ => by kernel_rfl) (Kn (v := .agg #[.bool false, .nilFunc, .nilFunc, .nilFunc, .nilFunc, .bool false, .func (.func 43) #[] #[], .func (.func 44) #[] #[], .func (.func 45) #[] #[], .func (.func 46) #[] #[], .bool true, .func (.func 47) #[] #[], .func (.func 48) #[] #[], .func (.func 45) #[] #[], .func (.func 49) #[] #[], .bool true, .func (.func 43) #[] #[], .func (.func 44) #[] #[], .func (.func 45) #[] #[], .func (.func 50) #[] #[], .bool false, .func (.func 51) #[] #[], .func (.func 52) #[] #[], .func (.func 53) #[] #[], .func (.func 54) #[] #[], .bool true, .func (.func 55) #[] #[], .func (.func 56) #[] #[], .func (.func 53) #[] #[], .func (.func 57) #[] #[]]) rfl rfl rfl (fun _ => by kernel_rfl) ?_))))))))))
  refine WL.do rfl (Do.newP (cs := [.bool false, .nilFunc, .nilFunc, .nilFunc, .nilFunc, .bool false, .nilFunc, .nilFunc, .nilFunc, .nilFunc, .bool false, .nilFunc, .nilFunc, .nilFunc, .nilFunc, .bool false, .nilFunc, .nilFunc, .nilFunc, .nilFunc, .bool false, .nilFunc, .nilFunc, .nilFunc, .nilFunc, .bool false, .nilFunc, .nilFunc, .nilFunc, .nilFunc]) (t := 75) H23 rfl rfl (fun _ => by kernel_rfl) ?_)
  intro g24 w25 H26
  replace H26 : Own w D w25 [blk g24 [.bool false, .nilFunc, .nilFunc, .nilFunc, .nilFunc, .bool false, .nilFunc, .nilFunc, .nilFunc, .nilFunc, .bool false, .nilFunc, .nilFunc, .nilFunc, .nilFunc, .bool false, .nilFunc, .nilFunc, .nilFunc, .nilFunc, .bool false, .nilFunc, .nilFunc, .nilFunc, .nilFunc, .bool false, .nilFunc, .nilFunc, .nilFunc, .nilFunc] 75, blk g21 [.bool false, .nilFunc, .nilFunc, .nilFunc, .nilFunc] 65] := H26
  refine WL.do0 (Do.store (vs := [.bool false, .nilFunc, .nilFunc, .nilFunc, .nilFunc, .bool false, .func (.func 43) #[] #[], .func (.func 44) #[] #[], .func (.func 45) #[] #[], .func (.func 46) #[] #[], .bool true, .func (.func 47) #[] #[], .func (.func 48) #[] #[], .func (.func 45) #[] #[], .func (.func 49) #[] #[], .bool true, .func (.func 43) #[] #[], .func (.func 44) #[] #[], .func (.func 45) #[] #[], .func (.func 50) #[] #[], .bool false, .func (.func 51) #[] #[], .func (.func 52) #[] #[], .func (.func 53) #[] #[], .func (.func 54) #[] #[], .bool true, .func (.func 55) #[] #[], .func (.func 56) #[] #[], .func (.func 53) #[] #[], .func (.func 57) #[] #[]]) (o := 0) H26 rfl rfl Try.sizeOf75 rfl rfl rfl rfl ?_)
  intro w27 H28
  replace H28 : Own w D w27 [blk g24 [.bool false, .nilFunc, .nilFunc, .nilFunc, .nilFunc, .bool false, .func (.func 43) #[] #[], .func (.func 44) #[] #[], .func (.func 45) #[] #[], .func (.func 46) #[] #[], .bool true, .func (.func 47) #[] #[], .func (.func 48) #[] #[], .func (.func 45) #[] #[], .func (.func 49) #[] #[], .bool true, .func (.func 43) #[] #[], .func (.func 44) #[] #[], .func (.func 45) #[] #[], .func (.func 50) #[] #[], .bool false, .func (.func 51) #[] #[], .func (.func 52) #[] #[], .func (.func 53) #[] #[], .func (.func 54) #[] #[], .bool true, .func (.func 55) #[] #[], .func (.func 56) #[] #[], .func (.func 53) #[] #[], .func (.func 57) #[] #[]] 75, blk g21 [.bool false, .nilFunc, .nilFunc, .nilFunc, .nilFunc] 65] := H28
  refine WL.nil (Fin.then (Wp.seq (Wp.seq (Wp.region (Mv rfl rfl (Kn (v := .bool false) rfl rfl rfl (fun _ => by kernel_rfl) (Mv rfl rfl (WL.valG (v := .int .i64 2) rfl rfl rfl rfl (Yl.move rfl) (WL.valG (v := .bool false) rfl rfl rfl rfl (Yl.kern rfl rfl (fun _ => by kernel_rfl)) (WL.val (v := .bool false) rfl (Yl.pickF rfl rfl rfl) (WL.nil (Fin.then (Wp.cond0 rfl rfl (Wp.skip (Fin.then (Wp.seq (Wp.region (Mv rfl rfl (Kn (v := .pointer (some ⟨g24, 10, none⟩)) rfl rfl rfl (fun _ => by kernel_rfl) (WL.val (v := .agg #[.bool true, .func (.func 47) #[] #[], .func (.func 48) #[] #[], .func (.func 45) #[] #[], .func (.func 49) #[] #[]]) rfl (Yl.load rfl (Lds.agg (cs := [.bool true, .func (.func 47) #[] #[], .func (.func 48) #[] #[], .func (.func 45) #[] #[], .func (.func 49) #[] #[]]) Try.isAgg65 Try.sizeOf65 ((H28.cls (i := 0) rfl).lit (k := 10) (m := 5) rfl))) ?_))))))))))))))))))))
  have H29 : Own w D w27 [blk g21 [.bool false, .nilFunc, .nilFunc, .nilFunc, .nilFunc] 65, blk g24 [.bool false, .nilFunc, .nilFunc, .nilFunc, .nilFunc, .bool false, .func (.func 43) #[] #[], .func (.func 44) #[] #[], .func (.func 45) #[] #[], .func (.func 46) #[] #[], .bool true, .func (.func 47) #[] #[], .func (.func 48) #[] #[], .func (.func 45) #[] #[], .func (.func 49) #[] #[], .bool true, .func (.func 43) #[] #[], .func (.func 44) #[] #[], .func (.func 45) #[] #[], .func (.func 50) #[] #[], .bool false, .func (.func 51) #[] #[], .func (.func 52) #[] #[], .func (.func 53) #[] #[], .func (.func 54) #[] #[], .bool true, .func (.func 55) #[] #[], .func (.func 56) #[] #[], .func (.func 53) #[] #[], .func (.func 57) #[] #[]] 75] := H28.pick [1, 0] (by decide) rfl
  refine WL.do0 (Do.store (vs := [.bool true, .func (.func 47) #[] #[], .func (.func 48) #[] #[], .func (.func 45) #[] #[], .func (.func 49) #[] #[]]) (o := 0) H29 rfl rfl Try.sizeOf65 rfl rfl rfl rfl ?_)
  intro w30 H31
  replace H31 : Own w D w30 [blk g21 [.bool true, .func (.func 47) #[] #[], .func (.func 48) #[] #[], .func (.func 45) #[] #[], .func (.func 49) #[] #[]] 65, blk g24 [.bool false, .nilFunc, .nilFunc, .nilFunc, .nilFunc, .bool false, .func (.func 43) #[] #[], .func (.func 44) #[] #[], .func (.func 45) #[] #[], .func (.func 46) #[] #[], .bool true, .func (.func 47) #[] #[], .func (.func 48) #[] #[], .func (.func 45) #[] #[], .func (.func 49) #[] #[], .bool true, .func (.func 43) #[] #[], .func (.func 44) #[] #[], .func (.func 45) #[] #[], .func (.func 50) #[] #[], .bool false, .func (.func 51) #[] #[], .func (.func 52) #[] #[], .func (.func 53) #[] #[], .func (.func 54) #[] #[], .bool true, .func (.func 55) #[] #[], .func (.func 56) #[] #[], .func (.func 53) #[] #[], .func (.func 57) #[] #[]] 75] := H31
  refine As rfl rfl (WL.nil (Fin.then (Wp.ret (Fin.res (resN (vs := [.agg #[.bool true, .func (.func 47) #[] #[], .func (.func 48) #[] #[], .func (.func 45) #[] #[], .func (.func 49) #[] #[]], .bool true]) rfl (ResV.cell rfl (Lds.agg (cs := [.bool true, .func (.func 47) #[] #[], .func (.func 48) #[] #[], .func (.func 45) #[] #[], .func (.func 49) #[] #[]]) Try.isAgg65 Try.sizeOf65 ((H31.cls (i := 0) rfl).lit (k := 0) (m := 5) rfl)) (ResV.tmp rfl ResV.nil)) (Nat.le_of_ble_eq_true rfl)) ?_))))
  have H32 : Own w D w30 [] := H31.pick [] (by decide) rfl
  exact ⟨rfl, H32⟩

def op_ownPair (p0 : OpD) : OpD :=
  OpD.mk p0.xKind p0.xKey p0.xValue ([]) ([]) 0

set_option maxRecDepth 100000 in
theorem op_ownPair_ok (w : World) (D : Nat → Prop) (p0 : OpD) (r0 : OpD) (H : Own w D w [])  (hr : op_ownPair p0 = r0) :
    Calls Try.prog 47 #[.agg (OpD.cells p0).toArray] w (Ret fun v w' => v = .agg (OpD.cells r0).toArray ∧ Own w D w' []) := by
  refine Calls.body (args := [.agg (OpD.cells p0).toArray]) Try.func47 rfl rfl rfl ?_
  show Wp _ _ _ [(0, .agg (OpD.cells p0).toArray)] _ _
  refine Wp.seq (Wp.region ?_)
  refine WL.do rfl (Do.newP (cs := (OpD.cells p0)) (t := 23) H rfl rfl (fun _ => by kernel_rfl) ?_)
  intro g21 w22 H23
  replace H23 : Own w D w22 [blk g21 (OpD.cells p0) 23] := H23
  refine WL.do rfl (Do.newP (cs := [.int .i64 0, .string ⟨List.toArray ([])⟩, .string ⟨List.toArray ([])⟩, .string ⟨List.toArray ([])⟩, .string ⟨List.toArray ([])⟩, .int .i64 0]) (t := 23) H23 rfl rfl (fun _ => by kernel_rfl) ?_)
  intro g24 w25 H26
  replace H26 : Own w D w25 [blk g24 [.int .i64 0, .string ⟨List.toArray ([])⟩, .string ⟨List.toArray ([])⟩, .string ⟨List.toArray ([])⟩, .string ⟨List.toArray ([])⟩, .int .i64 0] 23, blk g21 (OpD.cells p0) 23] := H26
  refine WL.nil (Fin.then (Wp.seq (Wp.region (Kn (v := .pointer (some ⟨g21, 0, none⟩)) rfl rfl rfl (fun _ => by kernel_rfl) (WL.val (v := .int .i64 p0.xKind) rfl (Yl.load rfl (Lds.one Try.isAgg3 (Cls.of (H26.cls (i := 1) rfl) rfl))) (Kn (v := .pointer (some ⟨g21, 1, none⟩)) rfl rfl rfl (fun _ => by kernel_rfl) (WL.val (v := .string ⟨List.toArray p0.xKey⟩) rfl (Yl.load rfl (Lds.one Try.isAgg9 (Cls.of (H26.cls (i := 1) rfl) rfl))) (Kn (v := .pointer (some ⟨g21, 2, none⟩)) rfl rfl rfl (fun _ => by kernel_rfl) (WL.val (v := .string ⟨List.toArray p0.xValue⟩) rfl (Yl.load rfl (Lds.one Try.isAgg9 (Cls.of (H26.cls (i := 1) rfl) rfl))) (Kn (v := .agg #[.int .i64 p0.xKind, .string ⟨List.toArray p0.xKey⟩, .string ⟨List.toArray p0.xValue⟩, .string ⟨List.toArray ([])⟩, .string ⟨List.toArray ([])⟩, .int .i64 0]) rfl rfl rfl (fun _ => by kernel_rfl) ?_))))))))))
  refine WL.do0 (Do.store (vs := [.int .i64 p0.xKind, .string ⟨List.toArray p0.xKey⟩, .string ⟨List.toArray p0.xValue⟩, .string ⟨List.toArray ([])⟩, .string ⟨List.toArray ([])⟩, .int .i64 0]) (o := 0) H26 rfl rfl Try.sizeOf23 rfl rfl rfl rfl ?_)
  intro w27 H28
  replace H28 : Own w D w27 [blk g24 [.int .i64 p0.xKind, .string ⟨List.toArray p0.xKey⟩, .string ⟨List.toArray p0.xValue⟩, .string ⟨List.toArray ([])⟩, .string ⟨List.toArray ([])⟩, .int .i64 0] 23, blk g21 (OpD.cells p0) 23] := H28
  refine WL.nil (Fin.then (Wp.ret (Fin.res (resC rfl rfl (Lds.agg (cs := [.int .i64 p0.xKind, .string ⟨List.toArray p0.xKey⟩, .string ⟨List.toArray p0.xValue⟩, .string ⟨List.toArray ([])⟩, .string ⟨List.toArray ([])⟩, .int .i64 0]) Try.isAgg23 Try.sizeOf23 ((H28.cls (i := 0) rfl).lit (k := 0) (m := 6) rfl))) ?_)))
  have H29 : Own w D w27 [] := H28.pick [] (by decide) rfl
  have e : op_ownPair p0 = OpD.mk p0.xKind p0.xKey p0.xValue ([]) ([]) 0 := rfl
  obtain rfl := e.symm.trans hr
  exact ⟨rfl, H29⟩

def op_checkValue (p0 : List UInt8) : Int :=
  if ((List.length p0 : Nat) : Int) > 16 then 2 else 0

set_option maxRecDepth 100000 in
theorem op_checkValue_ok (w : World) (D : Nat → Prop) (p0 : List UInt8) (r0 : Int) (H : Own w D w [])  (hr : op_checkValue p0 = r0) :
    Calls Try.prog 37 #[.string ⟨List.toArray p0⟩] w (Ret fun v w' => v = .int .i64 r0 ∧ Own w D w' []) := by
  refine Calls.body (args := [.string ⟨List.toArray p0⟩]) Try.func37 rfl rfl rfl ?_
  show Wp _ _ _ [(0, .string ⟨List.toArray p0⟩)] _ _
  refine Wp.seq (Wp.region (As rfl rfl (WL.nil (Fin.then (Wp.seq (Wp.seq (Wp.region (Mv rfl rfl (Kn (v := .int .i64 ((List.length p0 : Nat) : Int)) rfl rfl rfl (fun _ => by kernel_rfl) (Kn (v := .bool (decide (((List.length p0 : Nat) : Int) > 16))) rfl rfl rfl (fun _ => by kernel_rfl) (WL.nil (Fin.then ?_))))))))))))
  by_cases h21 : ((List.length p0 : Nat) : Int) > 16
  refine Wp.cond1 rfl (decide_eq_true h21) (Wp.seq (Wp.region (As rfl rfl (WL.nil (Fin.then (Wp.ret (Fin.thenR (Fin.res (res1 rfl rfl) ?_))))))))
  have H22 : Own w D w [] := H.pick [] (by decide) rfl
  have e : op_checkValue p0 = 2 := if_pos h21
  obtain rfl := e.symm.trans hr
  exact ⟨rfl, H22⟩
  refine Wp.cond0 rfl (decide_eq_false h21) (Wp.skip (Fin.then (Wp.seq (Wp.region (As rfl rfl (WL.nil (Fin.then (Wp.ret (Fin.res (res1 rfl rfl) ?_)))))))))
  have H23 : Own w D w [] := H.pick [] (by decide) rfl
  have e : op_checkValue p0 = 0 := if_neg h21
  obtain rfl := e.symm.trans hr
  exact ⟨rfl, H23⟩

def op_checkPair (p0 : OpD) : Int :=
  bnd (span_CheckKey p0.xKey) fun yr29 => if yr29 = 0 then bnd (op_checkValue p0.xValue) fun yr41 => yr41 else yr29

set_option maxRecDepth 100000 in
theorem op_checkPair_ok (w : World) (D : Nat → Prop) (p0 : OpD) (r0 : Int) (H : Own w D w [])  (hr : op_checkPair p0 = r0) :
    Calls Try.prog 48 #[.agg (OpD.cells p0).toArray] w (Ret fun v w' => v = .int .i64 r0 ∧ Own w D w' []) := by
  refine Calls.body (args := [.agg (OpD.cells p0).toArray]) Try.func48 rfl rfl rfl ?_
  show Wp _ _ _ [(0, .agg (OpD.cells p0).toArray)] _ _
  refine Wp.seq (Wp.region ?_)
  refine WL.do rfl (Do.newP (cs := (OpD.cells p0)) (t := 23) H rfl rfl (fun _ => by kernel_rfl) ?_)
  intro g21 w22 H23
  replace H23 : Own w D w22 [blk g21 (OpD.cells p0) 23] := H23
  refine As rfl rfl (WL.nil (Fin.then (Wp.seq (Wp.seq (Wp.region (Kn (v := .pointer (some ⟨g21, 1, none⟩)) rfl rfl rfl (fun _ => by kernel_rfl) (WL.val (v := .string ⟨List.toArray p0.xKey⟩) rfl (Yl.load rfl (Lds.one Try.isAgg9 (Cls.of (H23.cls (i := 0) rfl) rfl))) ?_)))))))
  obtain ⟨r29, hr30⟩ : ∃ q, span_CheckKey p0.xKey = q := ⟨_, rfl⟩
  obtain ⟨D24, HP25, ro26, bk27, rr28⟩ := Own.enter0 H23
  refine WL.do rfl (Do.call Try.call36 rfl (span_CheckKey_ok _ _ p0.xKey r29 HP25 hr30) ?_)
  rintro _ w31 ⟨rfl, HQ32, hk34⟩
  have H33 : Own w D w31 [blk g21 (OpD.cells p0) 23] := bk27 _ _ HQ32
  replace hk34 : ¬ (r29 = 0) ∨ (1 ≤ List.length p0.xKey ∧ List.length p0.xKey ≤ 12) := hk34
  refine As rfl rfl (WL.nil (Fin.then (Wp.seq (Wp.region (Mv rfl rfl (WL.val (v := .bool (decide (¬ (r29 = 0)))) rfl (Yl.bool (e := !(decide (r29 = 0))) (Yl.kern rfl rfl (fun _ => by kernel_rfl)) decide_not.symm) (WL.nil (Fin.then ?_))))))))
  by_cases h35 : r29 = 0
  refine Wp.cond0 rfl (decide_eq_false (not_not_intro h35)) (Wp.skip (Fin.then (Wp.seq (Wp.region (Kn (v := .pointer (some ⟨g21, 2, none⟩)) rfl rfl rfl (fun _ => by kernel_rfl) (WL.val (v := .string ⟨List.toArray p0.xValue⟩) rfl (Yl.load rfl (Lds.one Try.isAgg9 (Cls.of (H33.cls (i := 0) rfl) rfl))) ?_))))))
  obtain ⟨r41, hr42⟩ : ∃ q, op_checkValue p0.xValue = q := ⟨_, rfl⟩
  obtain ⟨D36, HP37, ro38, bk39, rr40⟩ := Own.enter0 H33
  refine WL.do rfl (Do.call Try.call37 rfl (op_checkValue_ok _ _ p0.xValue r41 HP37 hr42) ?_)
  rintro _ w43 ⟨rfl, HQ44⟩
  have H45 : Own w D w43 [blk g21 (OpD.cells p0) 23] := bk39 _ _ HQ44
  refine As rfl rfl (WL.nil (Fin.then (Wp.ret (Fin.res (res1 rfl rfl) ?_))))
  have H46 : Own w D w43 [] := H45.pick [] (by decide) rfl
  have e : op_checkPair p0 = r41 := Eq.trans (bnd_of hr30) (Eq.trans (if_pos h35) (bnd_of hr42))
  obtain rfl := e.symm.trans hr
  exact ⟨rfl, H46⟩
  refine Wp.cond1 rfl (decide_eq_true h35) (Wp.seq (Wp.region (Mv rfl rfl (As rfl rfl (WL.nil (Fin.then (Wp.ret (Fin.thenR (Fin.res (res1 rfl rfl) ?_)))))))))
  have H47 : Own w D w31 [] := H33.pick [] (by decide) rfl
  have e : op_checkPair p0 = r29 := Eq.trans (bnd_of hr30) (if_neg h35)
  obtain rfl := e.symm.trans hr
  exact ⟨rfl, H47⟩

set_option maxRecDepth 100000 in
theorem op_kindOf_3_ok (w : World) (D : Nat → Prop) (p0 : Int) (H : Own w D w []) (hp0 : p0 = 3) :
    Calls Try.prog 30 #[.int .i64 p0] w (Ret fun v w' => v = .tuple #[.agg #[.bool true, .func (.func 43) #[] #[], .func (.func 44) #[] #[], .func (.func 45) #[] #[], .func (.func 50) #[] #[]], .bool true] ∧ Own w D w' []) := by
  subst hp0
  refine Calls.body (args := [.int .i64 3]) Try.func30 rfl rfl rfl ?_
  show Wp _ _ _ [(0, .int .i64 3)] _ _
  refine Wp.seq (Wp.region ?_)
  refine WL.do rfl (Do.newP (cs := [.bool false, .nilFunc, .nilFunc, .nilFunc, .nilFunc]) (t := 65) H rfl rfl (fun _ => by kernel_rfl) ?_)
  intro g21 w22 H23
  replace H23 : Own w D w22 [blk g21 [.bool false, .nilFunc, .nilFunc, .nilFunc, .nilFunc] 65] := H23
  refine As rfl rfl (WL.nil (Fin.then (Wp.seq (Wp.region (Kn (v := .agg #[.bool false, .func (.func 43) #[] #[], .func (.func 44) #[] #[], .func (.func 45) #[] #[], .func (.func 46) #[] #[]]) rfl rfl rfl (fun _ => by kernel_rfl) (Kn (v := .agg #[.bool true, .func (.func 47) #[] #[], .func (.func 48) #[] #[], .func (.func 45) #[] #[], .func (.func 49) #[] #[]]) rfl rfl rfl (fun _ => by kernel_rfl) (Kn (v := .agg #[.bool true, .func (.func 43) #[] #[], .func (.func 44) #[] #[], .func (.func 45) #[] #[], .func (.func 50) #[] #[]]) rfl rfl rfl (fun _ => by kernel_rfl) (Kn (v := .agg #[.bool false, .func (.func 51) #[] #[], .func (.func 52) #[] #[], .func (.func 53) #[] #[], .func (.func 54) #[] #[]]) rfl rfl rfl (fun _ => by kernel_rfl) (Kn (v := .agg #[.bool true, .func (.func 55) #[] #[], .func (.func 56) #[] #[], .func (.func 53) #[] #[], .func (.func 57) #[] #[]]) rfl rfl rfl (fun _ => by kernel_rfl) (Kn (v := .agg #[.bool false, .nilFunc, .nilFunc, .nilFunc, .nilFunc, .bool false, .func (.func 43) #[] #[], .func (.func 44) #[] #[], .func (.func 45) #[] #[], .func (.func 46) #[] #[], .bool true, .func (.func 47) #[] #[], .func (.func 48) #[] #[], .func (.func 45) #[] #[], .func (.func 49) #[] #[], .bool true, .func (.func 43) #[] #[], .func (.func 44) #[] #[], .func (.func 45) #[] #[], .func (.func 50) #[] #[], .bool false, .func (.func 51) #[] #[], .func (.func 52) #[] #[], .func (.func 53) #[] #[], .func (.func 54) #[] #[], .bool true, .func (.func 55) #[] #[], .func (.func 56) #[] #[], .func (.func 53) #[] #[], .func (.func 57) #[] #[]]) rfl rfl rfl (fun _ => by kernel_rfl) ?_))))))))))
  refine WL.do rfl (Do.newP (cs := [.bool false, .nilFunc, .nilFunc, .nilFunc, .nilFunc, .bool false, .nilFunc, .nilFunc, .nilFunc, .nilFunc, .bool false, .nilFunc, .nilFunc, .nilFunc, .nilFunc, .bool false, .nilFunc, .nilFunc, .nilFunc, .nilFunc, .bool false, .nilFunc, .nilFunc, .nilFunc, .nilFunc, .bool false, .nilFunc, .nilFunc, .nilFunc, .nilFunc]) (t := 75) H23 rfl rfl (fun _ => by kernel_rfl) ?_)
  intro g24 w25 H26
  replace H26 : Own w D w25 [blk g24 [.bool false, .nilFunc, .nilFunc, .nilFunc, .nilFunc, .bool false, .nilFunc, .nilFunc, .nilFunc, .nilFunc, .bool false, .nilFunc, .nilFunc, .nilFunc, .nilFunc, .bool false, .nilFunc, .nilFunc, .nilFunc, .nilFunc, .bool false, .nilFunc, .nilFunc, .nilFunc, .nilFunc, .bool false, .nilFunc, .nilFunc, .nilFunc, .nilFunc] 75, blk g21 [.bool false, .nilFunc, .nilFunc, .nilFunc, .nilFunc] 65] := H26
  refine WL.do0 (Do.store (vs := [.bool false, .nilFunc, .nilFunc, .nilFunc, .nilFunc, .bool false, .func (.func 43) #[] #[], .func (.func 44) #[] #[], .func (.func 45) #[] #[], .func (.func 46) #[] #[], .bool true, .func (.func 47) #[] #[], .func (.func 48) #[] #[], .func (.func 45) #[] #[], .func (.func 49) #[] #[], .bool true, .func (.func 43) #[] #[], .func (.func 44) #[] #[], .func (.func 45) #[] #[], .func (.func 50) #[] #[], .bool false, .func (.func 51) #[] #[], .func (.func 52) #[] #[], .func (.func 53) #[] #[], .func (.func 54) #[] #[], .bool true, .func (.func 55) #[] #[], .func (.func 56) #[] #[], .func (.func 53) #[] #[], .func (.func 57) #[] #[]]) (o := 0) H26 rfl rfl Try.sizeOf75 rfl rfl rfl rfl ?_)
  intro w27 H28
  replace H28 : Own w D w27 [blk g24 [.bool false, .nilFunc, .nilFunc, .nilFunc, .nilFunc, .bool false, .func (.func 43) #[] #[], .func (.func 44) #[] #[], .func (.func 45) #[] #[], .func (.func 46) #[] #[], .bool true, .func (.func 47) #[] #[], .func (.func 48) #[] #[], .func (.func 45) #[] #[], .func (.func 49) #[] #[], .bool true, .func (.func 43) #[] #[], .func (.func 44) #[] #[], .func (.func 45) #[] #[], .func (.func 50) #[] #[], .bool false, .func (.func 51) #[] #[], .func (.func 52) #[] #[], .func (.func 53) #[] #[], .func (.func 54) #[] #[], .bool true, .func (.func 55) #[] #[], .func (.func 56) #[] #[], .func (.func 53) #[] #[], .func (.func 57) #[] #[]] 75, blk g21 [.bool false, .nilFunc, .nilFunc, .nilFunc, .nilFunc] 65] := H28
  refine WL.nil (Fin.then (Wp.seq (Wp.seq (Wp.region (Mv rfl rfl (Kn (v := .bool false) rfl rfl rfl (fun _ => by kernel_rfl) (Mv rfl rfl (WL.valG (v := .int .i64 3) rfl rfl rfl rfl (Yl.move rfl) (WL.valG (v := .bool false) rfl rfl rfl rfl (Yl.kern rfl rfl (fun _ => by kernel_rfl)) (WL.val (v := .bool false) rfl (Yl.pickF rfl rfl rfl) (WL.nil (Fin.then (Wp.cond0 rfl rfl (Wp.skip (Fin.then (Wp.seq (Wp.region (Mv rfl rfl (Kn (v := .pointer (some ⟨g24, 15, none⟩)) rfl rfl rfl (fun _ => by kernel_rfl) (WL.val (v := .agg #[.bool true, .func (.func 43) #[] #[], .func (.func 44) #[] #[], .func (.func 45) #[] #[], .func (.func 50) #[] #[]]) rfl (Yl.load rfl (Lds.agg (cs := [.bool true, .func (.func 43) #[] #[], .func (.func 44) #[] #[], .func (.func 45) #[] #[], .func (.func 50) #[] #[]]) Try.isAgg65 Try.sizeOf65 ((H28.cls (i := 0) rfl).lit (k := 15) (m := 5) rfl))) ?_))))))))))))))))))))
  have H29 : Own w D w27 [blk g21 [.bool false, .nilFunc, .nilFunc, .nilFunc, .nilFunc] 65, blk g24 [.bool false, .nilFunc, .nilFunc, .nilFunc, .nilFunc, .bool false, .func (.func 43) #[] #[], .func (.func 44) #[] #[], .func (.func 45) #[] #[], .func (.func 46) #[] #[], .bool true, .func (.func 47) #[] #[], .func (.func 48) #[] #[], .func (.func 45) #[] #[], .func (.func 49) #[] #[], .bool true, .func (.func 43) #[] #[], .func (.func 44) #[] #[], .func (.func 45) #[] #[], .func (.func 50) #[] #[], .bool false, .func (.func 51) #[] #[], .func (.func 52) #[] #[], .func (.func 53) #[] #[], .func (.func 54) #[] #[], .bool true, .func (.func 55) #[] #[], .func (.func 56) #[] #[], .func (.func 53) #[] #[], .func (.func 57) #[] #[]] 75] := H28.pick [1, 0] (by decide) rfl
  refine WL.do0 (Do.store (vs := [.bool true, .func (.func 43) #[] #[], .func (.func 44) #[] #[], .func (.func 45) #[] #[], .func (.func 50) #[] #[]]) (o := 0) H29 rfl rfl Try.sizeOf65 rfl rfl rfl rfl ?_)
  intro w30 H31
  replace H31 : Own w D w30 [blk g21 [.bool true, .func (.func 43) #[] #[], .func (.func 44) #[] #[], .func (.func 45) #[] #[], .func (.func 50) #[] #[]] 65, blk g24 [.bool false, .nilFunc, .nilFunc, .nilFunc, .nilFunc, .bool false, .func (.func 43) #[] #[], .func (.func 44) #[] #[], .func (.func 45) #[] #[], .func (.func 46) #[] #[], .bool true, .func (.func 47) #[] #[], .func (.func 48) #[] #[], .func (.func 45) #[] #[], .func (.func 49) #[] #[], .bool true, .func (.func 43) #[] #[], .func (.func 44) #[] #[], .func (.func 45) #[] #[], .func (.func 50) #[] #[], .bool false, .func (.func 51) #[] #[], .func (.func 52) #[] #[], .func (.func 53) #[] #[], .func (.func 54) #[] #[], .bool true, .func (.func 55) #[] #[], .func (.func 56) #[] #[], .func (.func 53) #[] #[], .func (.func 57) #[] #[]] 75] := H31
  refine As rfl rfl (WL.nil (Fin.then (Wp.ret (Fin.res (resN (vs := [.agg #[.bool true, .func (.func 43) #[] #[], .func (.func 44) #[] #[], .func (.func 45) #[] #[], .func (.func 50) #[] #[]], .bool true]) rfl (ResV.cell rfl (Lds.agg (cs := [.bool true, .func (.func 43) #[] #[], .func (.func 44) #[] #[], .func (.func 45) #[] #[], .func (.func 50) #[] #[]]) Try.isAgg65 Try.sizeOf65 ((H31.cls (i := 0) rfl).lit (k := 0) (m := 5) rfl)) (ResV.tmp rfl ResV.nil)) (Nat.le_of_ble_eq_true rfl)) ?_))))
  have H32 : Own w D w30 [] := H31.pick [] (by decide) rfl
  exact ⟨rfl, H32⟩

set_option maxRecDepth 100000 in
theorem op_kindOf_4_ok (w : World) (D : Nat → Prop) (p0 : Int) (H : Own w D w []) (hp0 : p0 = 4) :
    Calls Try.prog 30 #[.int .i64 p0] w (Ret fun v w' => v = .tuple #[.agg #[.bool false, .func (.func 51) #[] #[], .func (.func 52) #[] #[], .func (.func 53) #[] #[], .func (.func 54) #[] #[]], .bool true] ∧ Own w D w' []) := by
  subst hp0
  refine Calls.body (args := [.int .i64 4]) Try.func30 rfl rfl rfl ?_
  show Wp _ _ _ [(0, .int .i64 4)] _ _
  refine Wp.seq (Wp.region ?_)
  refine WL.do rfl (Do.newP (cs := [.bool false, .nilFunc, .nilFunc, .nilFunc, .nilFunc]) (t := 65) H rfl rfl (fun _ => by kernel_rfl) ?_)
  intro g21 w22 H23
  replace H23 : Own w D w22 [blk g21 [.bool false, .nilFunc, .nilFunc, .nilFunc, .nilFunc] 65] := H23
  refine As rfl rfl (WL.nil (Fin.then (Wp.seq (Wp.region (Kn (v := .agg #[.bool false, .func (.func 43) #[] #[], .func (.func 44) #[] #[], .func (.func 45) #[] #[], .func (.func 46) #[] #[]]) rfl rfl rfl (fun _ => by kernel_rfl) (Kn (v := .agg #[.bool true, .func (.func 47) #[] #[], .func (.func 48) #[] #[], .func (.func 45) #[] #[], .func (.func 49) #[] #[]]) rfl rfl rfl (fun _ => by kernel_rfl) (Kn (v := .agg #[.bool true, .func (.func 43) #[] #[], .func (.func 44) #[] #[], .func (.func 45) #[] #[], .func (.func 50) #[] #[]]) rfl rfl rfl (fun _ => by kernel_rfl) (Kn (v := .agg #[.bool false, .func (.func 51) #[] #[], .func (.func 52) #[] #[], .func (.func 53) #[] #[], .func (.func 54) #[] #[]]) rfl rfl rfl (fun _ => by kernel_rfl) (Kn (v := .agg #[.bool true, .func (.func 55) #[] #[], .func (.func 56) #[] #[], .func (.func 53) #[] #[], .func (.func 57) #[] #[]]) rfl rfl rfl (fun _ => by kernel_rfl) (Kn (v := .agg #[.bool false, .nilFunc, .nilFunc, .nilFunc, .nilFunc, .bool false, .func (.func 43) #[] #[], .func (.func 44) #[] #[], .func (.func 45) #[] #[], .func (.func 46) #[] #[], .bool true, .func (.func 47) #[] #[], .func (.func 48) #[] #[], .func (.func 45) #[] #[], .func (.func 49) #[] #[], .bool true, .func (.func 43) #[] #[], .func (.func 44) #[] #[], .func (.func 45) #[] #[], .func (.func 50) #[] #[], .bool false, .func (.func 51) #[] #[], .func (.func 52) #[] #[], .func (.func 53) #[] #[], .func (.func 54) #[] #[], .bool true, .func (.func 55) #[] #[], .func (.func 56) #[] #[], .func (.func 53) #[] #[], .func (.func 57) #[] #[]]) rfl rfl rfl (fun _ => by kernel_rfl) ?_))))))))))
  refine WL.do rfl (Do.newP (cs := [.bool false, .nilFunc, .nilFunc, .nilFunc, .nilFunc, .bool false, .nilFunc, .nilFunc, .nilFunc, .nilFunc, .bool false, .nilFunc, .nilFunc, .nilFunc, .nilFunc, .bool false, .nilFunc, .nilFunc, .nilFunc, .nilFunc, .bool false, .nilFunc, .nilFunc, .nilFunc, .nilFunc, .bool false, .nilFunc, .nilFunc, .nilFunc, .nilFunc]) (t := 75) H23 rfl rfl (fun _ => by kernel_rfl) ?_)
  intro g24 w25 H26
  replace H26 : Own w D w25 [blk g24 [.bool false, .nilFunc, .nilFunc, .nilFunc, .nilFunc, .bool false, .nilFunc, .nilFunc, .nilFunc, .nilFunc, .bool false, .nilFunc, .nilFunc, .nilFunc, .nilFunc, .bool false, .nilFunc, .nilFunc, .nilFunc, .nilFunc, .bool false, .nilFunc, .nilFunc, .nilFunc, .nilFunc, .bool false, .nilFunc, .nilFunc, .nilFunc, .nilFunc] 75, blk g21 [.bool false, .nilFunc, .nilFunc, .nilFunc, .nilFunc] 65] := H26
  refine WL.do0 (Do.store (vs := [.bool false, .nilFunc, .nilFunc, .nilFunc, .nilFunc, .bool false, .func (.func 43) #[] #[], .func (.func 44) #[] #[], .func (.func 45) #[] #[], .func (.func 46) #[] #[], .bool true, .func (.func 47) #[] #[], .func (.func 48) #[] #[], .func (.func 45) #[] #[], .func (.func 49) #[] #[], .bool true, .func (.func 43) #[] #[], .func (.func 44) #[] #[], .func (.func 45) #[] #[], .func (.func 50) #[] #[], .bool false, .func (.func 51) #[] #[], .func (.func 52) #[] #[], .func (.func 53) #[] #[], .func (.func 54) #[] #[], .bool true, .func (.func 55) #[] #[], .func (.func 56) #[] #[], .func (.func 53) #[] #[], .func (.func 57) #[] #[]]) (o := 0) H26 rfl rfl Try.sizeOf75 rfl rfl rfl rfl ?_)
  intro w27 H28
  replace H28 : Own w D w27 [blk g24 [.bool false, .nilFunc, .nilFunc, .nilFunc, .nilFunc, .bool false, .func (.func 43) #[] #[], .func (.func 44) #[] #[], .func (.func 45) #[] #[], .func (.func 46) #[] #[], .bool true, .func (.func 47) #[] #[], .func (.func 48) #[] #[], .func (.func 45) #[] #[], .func (.func 49) #[] #[], .bool true, .func (.func 43) #[] #[], .func (.func 44) #[] #[], .func (.func 45) #[] #[], .func (.func 50) #[] #[], .bool false, .func (.func 51) #[] #[], .func (.func 52) #[] #[], .func (.func 53) #[] #[], .func (.func 54) #[] #[], .bool true, .func (.func 55) #[] #[], .func (.func 56) #[] #[], .func (.func 53) #[] #[], .func (.func 57) #[] #[]] 75, blk g21 [.bool false, .nilFunc, .nilFunc, .nilFunc, .nilFunc] 65] := H28
  refine WL.nil (Fin.then (Wp.seq (Wp.seq (Wp.region (Mv rfl rfl (Kn (v := .bool false) rfl rfl rfl (fun _ => by kernel_rfl) (Mv rfl rfl (WL.valG (v := .int .i64 4) rfl rfl rfl rfl (Yl.move rfl) (WL.valG (v := .bool false) rfl rfl rfl rfl (Yl.kern rfl rfl (fun _ => by kernel_rfl)) (WL.val (v := .bool false) rfl (Yl.pickF rfl rfl rfl) (WL.nil (Fin.then (Wp.cond0 rfl rfl (Wp.skip (Fin.then (Wp.seq (Wp.region (Mv rfl rfl (Kn (v := .pointer (some ⟨g24, 20, none⟩)) rfl rfl rfl (fun _ => by kernel_rfl) (WL.val (v := .agg #[.bool false, .func (.func 51) #[] #[], .func (.func 52) #[] #[], .func (.func 53) #[] #[], .func (.func 54) #[] #[]]) rfl (Yl.load rfl (Lds.agg (cs := [.bool false, .func (.func 51) #[] #[], .func (.func 52) #[] #[], .func (.func 53) #[] #[], .func (.func 54) #[] #[]]) Try.isAgg65 Try.sizeOf65 ((H28.cls (i := 0) rfl).lit (k := 20) (m := 5) rfl))) ?_))))))))))))))))))))
  have H29 : Own w D w27 [blk g21 [.bool false, .nilFunc, .nilFunc, .nilFunc, .nilFunc] 65, blk g24 [.bool false, .nilFunc, .nilFunc, .nilFunc, .nilFunc, .bool false, .func (.func 43) #[] #[], .func (.func 44) #[] #[], .func (.func 45) #[] #[], .func (.func 46) #[] #[], .bool true, .func (.func 47) #[] #[], .func (.func 48) #[] #[], .func (.func 45) #[] #[], .func (.func 49) #[] #[], .bool true, .func (.func 43) #[] #[], .func (.func 44) #[] #[], .func (.func 45) #[] #[], .func (.func 50) #[] #[], .bool false, .func (.func 51) #[] #[], .func (.func 52) #[] #[], .func (.func 53) #[] #[], .func (.func 54) #[] #[], .bool true, .func (.func 55) #[] #[], .func (.func 56) #[] #[], .func (.func 53) #[] #[], .func (.func 57) #[] #[]] 75] := H28.pick [1, 0] (by decide) rfl
  refine WL.do0 (Do.store (vs := [.bool false, .func (.func 51) #[] #[], .func (.func 52) #[] #[], .func (.func 53) #[] #[], .func (.func 54) #[] #[]]) (o := 0) H29 rfl rfl Try.sizeOf65 rfl rfl rfl rfl ?_)
  intro w30 H31
  replace H31 : Own w D w30 [blk g21 [.bool false, .func (.func 51) #[] #[], .func (.func 52) #[] #[], .func (.func 53) #[] #[], .func (.func 54) #[] #[]] 65, blk g24 [.bool false, .nilFunc, .nilFunc, .nilFunc, .nilFunc, .bool false, .func (.func 43) #[] #[], .func (.func 44) #[] #[], .func (.func 45) #[] #[], .func (.func 46) #[] #[], .bool true, .func (.func 47) #[] #[], .func (.func 48) #[] #[], .func (.func 45) #[] #[], .func (.func 49) #[] #[], .bool true, .func (.func 43) #[] #[], .func (.func 44) #[] #[], .func (.func 45) #[] #[], .func (.func 50) #[] #[], .bool false, .func (.func 51) #[] #[], .func (.func 52) #[] #[], .func (.func 53) #[] #[], .func (.func 54) #[] #[], .bool true, .func (.func 55) #[] #[], .func (.func 56) #[] #[], .func (.func 53) #[] #[], .func (.func 57) #[] #[]] 75] := H31
  refine As rfl rfl (WL.nil (Fin.then (Wp.ret (Fin.res (resN (vs := [.agg #[.bool false, .func (.func 51) #[] #[], .func (.func 52) #[] #[], .func (.func 53) #[] #[], .func (.func 54) #[] #[]], .bool true]) rfl (ResV.cell rfl (Lds.agg (cs := [.bool false, .func (.func 51) #[] #[], .func (.func 52) #[] #[], .func (.func 53) #[] #[], .func (.func 54) #[] #[]]) Try.isAgg65 Try.sizeOf65 ((H31.cls (i := 0) rfl).lit (k := 0) (m := 5) rfl)) (ResV.tmp rfl ResV.nil)) (Nat.le_of_ble_eq_true rfl)) ?_))))
  have H32 : Own w D w30 [] := H31.pick [] (by decide) rfl
  exact ⟨rfl, H32⟩

def op_ownScan (p0 : OpD) : OpD :=
  OpD.mk p0.xKind ([]) ([]) p0.xLo p0.xHi p0.xMost

set_option maxRecDepth 100000 in
theorem op_ownScan_ok (w : World) (D : Nat → Prop) (p0 : OpD) (r0 : OpD) (H : Own w D w [])  (hr : op_ownScan p0 = r0) :
    Calls Try.prog 51 #[.agg (OpD.cells p0).toArray] w (Ret fun v w' => v = .agg (OpD.cells r0).toArray ∧ Own w D w' []) := by
  refine Calls.body (args := [.agg (OpD.cells p0).toArray]) Try.func51 rfl rfl rfl ?_
  show Wp _ _ _ [(0, .agg (OpD.cells p0).toArray)] _ _
  refine Wp.seq (Wp.region ?_)
  refine WL.do rfl (Do.newP (cs := (OpD.cells p0)) (t := 23) H rfl rfl (fun _ => by kernel_rfl) ?_)
  intro g21 w22 H23
  replace H23 : Own w D w22 [blk g21 (OpD.cells p0) 23] := H23
  refine WL.do rfl (Do.newP (cs := [.int .i64 0, .string ⟨List.toArray ([])⟩, .string ⟨List.toArray ([])⟩, .string ⟨List.toArray ([])⟩, .string ⟨List.toArray ([])⟩, .int .i64 0]) (t := 23) H23 rfl rfl (fun _ => by kernel_rfl) ?_)
  intro g24 w25 H26
  replace H26 : Own w D w25 [blk g24 [.int .i64 0, .string ⟨List.toArray ([])⟩, .string ⟨List.toArray ([])⟩, .string ⟨List.toArray ([])⟩, .string ⟨List.toArray ([])⟩, .int .i64 0] 23, blk g21 (OpD.cells p0) 23] := H26
  refine WL.nil (Fin.then (Wp.seq (Wp.region (Kn (v := .pointer (some ⟨g21, 0, none⟩)) rfl rfl rfl (fun _ => by kernel_rfl) (WL.val (v := .int .i64 p0.xKind) rfl (Yl.load rfl (Lds.one Try.isAgg3 (Cls.of (H26.cls (i := 1) rfl) rfl))) (Kn (v := .pointer (some ⟨g21, 3, none⟩)) rfl rfl rfl (fun _ => by kernel_rfl) (WL.val (v := .string ⟨List.toArray p0.xLo⟩) rfl (Yl.load rfl (Lds.one Try.isAgg9 (Cls.of (H26.cls (i := 1) rfl) rfl))) (Kn (v := .pointer (some ⟨g21, 4, none⟩)) rfl rfl rfl (fun _ => by kernel_rfl) (WL.val (v := .string ⟨List.toArray p0.xHi⟩) rfl (Yl.load rfl (Lds.one Try.isAgg9 (Cls.of (H26.cls (i := 1) rfl) rfl))) (Kn (v := .pointer (some ⟨g21, 5, none⟩)) rfl rfl rfl (fun _ => by kernel_rfl) (WL.val (v := .int .i64 p0.xMost) rfl (Yl.load rfl (Lds.one Try.isAgg3 (Cls.of (H26.cls (i := 1) rfl) rfl))) (Kn (v := .agg #[.int .i64 p0.xKind, .string ⟨List.toArray ([])⟩, .string ⟨List.toArray ([])⟩, .string ⟨List.toArray p0.xLo⟩, .string ⟨List.toArray p0.xHi⟩, .int .i64 p0.xMost]) rfl rfl rfl (fun _ => by kernel_rfl) ?_))))))))))))
  refine WL.do0 (Do.store (vs := [.int .i64 p0.xKind, .string ⟨List.toArray ([])⟩, .string ⟨List.toArray ([])⟩, .string ⟨List.toArray p0.xLo⟩, .string ⟨List.toArray p0.xHi⟩, .int .i64 p0.xMost]) (o := 0) H26 rfl rfl Try.sizeOf23 rfl rfl rfl rfl ?_)
  intro w27 H28
  replace H28 : Own w D w27 [blk g24 [.int .i64 p0.xKind, .string ⟨List.toArray ([])⟩, .string ⟨List.toArray ([])⟩, .string ⟨List.toArray p0.xLo⟩, .string ⟨List.toArray p0.xHi⟩, .int .i64 p0.xMost] 23, blk g21 (OpD.cells p0) 23] := H28
  refine WL.nil (Fin.then (Wp.ret (Fin.res (resC rfl rfl (Lds.agg (cs := [.int .i64 p0.xKind, .string ⟨List.toArray ([])⟩, .string ⟨List.toArray ([])⟩, .string ⟨List.toArray p0.xLo⟩, .string ⟨List.toArray p0.xHi⟩, .int .i64 p0.xMost]) Try.isAgg23 Try.sizeOf23 ((H28.cls (i := 0) rfl).lit (k := 0) (m := 6) rfl))) ?_)))
  have H29 : Own w D w27 [] := H28.pick [] (by decide) rfl
  have e : op_ownScan p0 = OpD.mk p0.xKind ([]) ([]) p0.xLo p0.xHi p0.xMost := rfl
  obtain rfl := e.symm.trans hr
  exact ⟨rfl, H29⟩

structure RangeD where
  xLo : List UInt8
  xHi : List UInt8

def RangeD.cells (x : RangeD) : List Value := [.string ⟨List.toArray x.xLo⟩, .string ⟨List.toArray x.xHi⟩]

theorem RangeD.len : ∀ x, (RangeD.cells x).length = 2 := fun _ => rfl

theorem RangeD.one : ∀ x, ∀ u ∈ RangeD.cells x, u.oneCell' = true := fun x u hu => by
  simp only [RangeD.cells, List.mem_cons, List.not_mem_nil, or_false] at hu
  rcases hu with rfl | rfl <;> rfl

def RangeD.Ok (w : World) (x : RangeD) : Prop := (List.length x.xLo ≤ 140737488351232) ∧ (List.length x.xHi ≤ 140737488351232)

theorem opens_RangeD (w : World) : Opens Try.prog w 28 2 RangeD.cells (RangeD.Ok w) :=
  (opens_struct (sz := 2) Try.underlying28 (by kernel_rfl) (OpensF.cons (i := 0) (off := 0) (s := 1) rfl rfl (opens_string Try.underlying9 (by kernel_rfl)) (OpensF.cons (i := 1) (off := 1) (s := 1) rfl rfl (opens_string Try.underlying9 (by kernel_rfl)) OpensF.nil))).map (fun p => ⟨p.1, p.2.1⟩) RangeD.len (fun _ => rfl) fun _ h => ⟨h.1, h.2.1⟩

instance : Inhabited RangeD := ⟨⟨default, default⟩⟩

def op_spanRange (p0 : OpD) : RangeD :=
  RangeD.mk p0.xLo p0.xHi

set_option maxRecDepth 100000 in
theorem op_spanRange_ok (w : World) (D : Nat → Prop) (p0 : OpD) (r0 : RangeD) (H : Own w D w [])  (hr : op_spanRange p0 = r0) :
    Calls Try.prog 53 #[.agg (OpD.cells p0).toArray] w (Ret fun v w' => v = .agg (RangeD.cells r0).toArray ∧ Own w D w' []) := by
  refine Calls.body (args := [.agg (OpD.cells p0).toArray]) Try.func53 rfl rfl rfl ?_
  show Wp _ _ _ [(0, .agg (OpD.cells p0).toArray)] _ _
  refine Wp.seq (Wp.region ?_)
  refine WL.do rfl (Do.newP (cs := (OpD.cells p0)) (t := 23) H rfl rfl (fun _ => by kernel_rfl) ?_)
  intro g21 w22 H23
  replace H23 : Own w D w22 [blk g21 (OpD.cells p0) 23] := H23
  refine WL.do rfl (Do.newP (cs := [.string ⟨List.toArray ([])⟩, .string ⟨List.toArray ([])⟩]) (t := 28) H23 rfl rfl (fun _ => by kernel_rfl) ?_)
  intro g24 w25 H26
  replace H26 : Own w D w25 [blk g24 [.string ⟨List.toArray ([])⟩, .string ⟨List.toArray ([])⟩] 28, blk g21 (OpD.cells p0) 23] := H26
  refine WL.nil (Fin.then (Wp.seq (Wp.region (Kn (v := .pointer (some ⟨g21, 3, none⟩)) rfl rfl rfl (fun _ => by kernel_rfl) (WL.val (v := .string ⟨List.toArray p0.xLo⟩) rfl (Yl.load rfl (Lds.one Try.isAgg9 (Cls.of (H26.cls (i := 1) rfl) rfl))) (Kn (v := .pointer (some ⟨g21, 4, none⟩)) rfl rfl rfl (fun _ => by kernel_rfl) (WL.val (v := .string ⟨List.toArray p0.xHi⟩) rfl (Yl.load rfl (Lds.one Try.isAgg9 (Cls.of (H26.cls (i := 1) rfl) rfl))) (Kn (v := .agg #[.string ⟨List.toArray p0.xLo⟩, .string ⟨List.toArray p0.xHi⟩]) rfl rfl rfl (fun _ => by kernel_rfl) ?_))))))))
  refine WL.do0 (Do.store (vs := [.string ⟨List.toArray p0.xLo⟩, .string ⟨List.toArray p0.xHi⟩]) (o := 0) H26 rfl rfl Try.sizeOf28 rfl rfl rfl rfl ?_)
  intro w27 H28
  replace H28 : Own w D w27 [blk g24 [.string ⟨List.toArray p0.xLo⟩, .string ⟨List.toArray p0.xHi⟩] 28, blk g21 (OpD.cells p0) 23] := H28
  refine WL.nil (Fin.then (Wp.ret (Fin.res (resC rfl rfl (Lds.agg (cs := [.string ⟨List.toArray p0.xLo⟩, .string ⟨List.toArray p0.xHi⟩]) Try.isAgg28 Try.sizeOf28 ((H28.cls (i := 0) rfl).lit (k := 0) (m := 2) rfl))) ?_)))
  have H29 : Own w D w27 [] := H28.pick [] (by decide) rfl
  have e : op_spanRange p0 = RangeD.mk p0.xLo p0.xHi := rfl
  obtain rfl := e.symm.trans hr
  exact ⟨rfl, H29⟩

def span_Check (p0 : RangeD) : Int :=
  if p0.xLo ≠ ([]) then bnd (span_CheckKey p0.xLo) fun yr30 => if yr30 = 0 then if p0.xHi ≠ ([]) then bnd (span_CheckKey p0.xHi) fun yr43 => if yr43 = 0 then if p0.xHi ≤ p0.xLo then 21 else 0 else 21 else 0 else 21 else if p0.xHi ≠ ([]) then bnd (span_CheckKey p0.xHi) fun yr62 => if yr62 = 0 then if p0.xHi ≤ p0.xLo then 21 else 0 else 21 else 0

set_option maxRecDepth 100000 in
theorem span_Check_ok (w : World) (D : Nat → Prop) (p0 : RangeD) (r0 : Int) (H : Own w D w [])  (hr : span_Check p0 = r0) :
    Calls Try.prog 40 #[.agg (RangeD.cells p0).toArray] w (Ret fun v w' => v = .int .i64 r0 ∧ Own w D w' []) := by
  refine Calls.body (args := [.agg (RangeD.cells p0).toArray]) Try.func40 rfl rfl rfl ?_
  show Wp _ _ _ [(0, .agg (RangeD.cells p0).toArray)] _ _
  refine Wp.seq (Wp.region ?_)
  refine WL.do rfl (Do.newP (cs := (RangeD.cells p0)) (t := 28) H rfl rfl (fun _ => by kernel_rfl) ?_)
  intro g21 w22 H23
  replace H23 : Own w D w22 [blk g21 (RangeD.cells p0) 28] := H23
  refine As rfl rfl (WL.nil (Fin.then (Wp.seq (Wp.seq (Wp.region (Kn (v := .pointer (some ⟨g21, 0, none⟩)) rfl rfl rfl (fun _ => by kernel_rfl) (WL.val (v := .string ⟨List.toArray p0.xLo⟩) rfl (Yl.load rfl (Lds.one Try.isAgg9 (Cls.of (H23.cls (i := 0) rfl) rfl))) (WL.val (v := .bool (decide (p0.xLo ≠ ([])))) rfl (Yl.strNe rfl rfl) (Mv rfl rfl ?_)))))))))
  by_cases h24 : p0.xLo ≠ ([])
  refine WL.valG (v := .pointer (some ⟨g21, 0, none⟩)) rfl rfl (decide_eq_true h24) rfl (Yl.kern rfl rfl (fun _ => by kernel_rfl)) (WL.valG (v := .string ⟨List.toArray p0.xLo⟩) rfl rfl (decide_eq_true h24) rfl (Yl.load rfl (Lds.one Try.isAgg9 (Cls.of (H23.cls (i := 0) rfl) rfl))) ?_)
  obtain ⟨r30, hr31⟩ : ∃ q, span_CheckKey p0.xLo = q := ⟨_, rfl⟩
  obtain ⟨D25, HP26, ro27, bk28, rr29⟩ := Own.enter0 H23
  refine WL.doG rfl rfl (decide_eq_true h24) rfl (Do.call Try.call36 rfl (span_CheckKey_ok _ _ p0.xLo r30 HP26 hr31) ?_)
  rintro _ w32 ⟨rfl, HQ33, hk35⟩
  have H34 : Own w D w32 [blk g21 (RangeD.cells p0) 28] := bk28 _ _ HQ33
  replace hk35 : ¬ (r30 = 0) ∨ (1 ≤ List.length p0.xLo ∧ List.length p0.xLo ≤ 12) := hk35
  refine WL.valG (v := .bool (decide (¬ (r30 = 0)))) rfl rfl (decide_eq_true h24) rfl (Yl.bool (e := !(decide (r30 = 0))) (Yl.kern rfl rfl (fun _ => by kernel_rfl)) decide_not.symm) (WL.val (v := .bool (decide (¬ (r30 = 0)))) rfl (Yl.pickT rfl (decide_eq_true h24) rfl) (WL.nil (Fin.then ?_)))
  by_cases h36 : r30 = 0
  refine Wp.cond0 rfl (decide_eq_false (not_not_intro h36)) (Wp.skip (Fin.then (Wp.seq (Wp.seq (Wp.region (Kn (v := .pointer (some ⟨g21, 1, none⟩)) rfl rfl rfl (fun _ => by kernel_rfl) (WL.val (v := .string ⟨List.toArray p0.xHi⟩) rfl (Yl.load rfl (Lds.one Try.isAgg9 (Cls.of (H34.cls (i := 0) rfl) rfl))) (WL.val (v := .bool (decide (p0.xHi ≠ ([])))) rfl (Yl.strNe rfl rfl) (Mv rfl rfl ?_)))))))))
  by_cases h37 : p0.xHi ≠ ([])
  refine WL.valG (v := .pointer (some ⟨g21, 1, none⟩)) rfl rfl (decide_eq_true h37) rfl (Yl.kern rfl rfl (fun _ => by kernel_rfl)) (WL.valG (v := .string ⟨List.toArray p0.xHi⟩) rfl rfl (decide_eq_true h37) rfl (Yl.load rfl (Lds.one Try.isAgg9 (Cls.of (H34.cls (i := 0) rfl) rfl))) ?_)
  obtain ⟨r43, hr44⟩ : ∃ q, span_CheckKey p0.xHi = q := ⟨_, rfl⟩
  obtain ⟨D38, HP39, ro40, bk41, rr42⟩ := Own.enter0 H34
  refine WL.doG rfl rfl (decide_eq_true h37) rfl (Do.call Try.call36 rfl (span_CheckKey_ok _ _ p0.xHi r43 HP39 hr44) ?_)
  rintro _ w45 ⟨rfl, HQ46, hk48⟩
  have H47 : Own w D w45 [blk g21 (RangeD.cells p0) 28] := bk41 _ _ HQ46
  replace hk48 : ¬ (r43 = 0) ∨ (1 ≤ List.length p0.xHi ∧ List.length p0.xHi ≤ 12) := hk48
  refine WL.valG (v := .bool (decide (¬ (r43 = 0)))) rfl rfl (decide_eq_true h37) rfl (Yl.bool (e := !(decide (r43 = 0))) (Yl.kern rfl rfl (fun _ => by kernel_rfl)) decide_not.symm) (WL.valG (v := .bool (decide (¬ (r43 = 0)))) rfl rfl (decide_eq_true h37) rfl (Yl.move rfl) ?_)
  by_cases h49 : r43 = 0
  refine WL.valG (v := .pointer (some ⟨g21, 1, none⟩)) rfl rfl (decide_eq_false (not_not_intro h49)) rfl (Yl.kern rfl rfl (fun _ => by kernel_rfl)) (WL.valG (v := .string ⟨List.toArray p0.xHi⟩) rfl rfl (decide_eq_false (not_not_intro h49)) rfl (Yl.load rfl (Lds.one Try.isAgg9 (Cls.of (H47.cls (i := 0) rfl) rfl))) (WL.valG (v := .pointer (some ⟨g21, 0, none⟩)) rfl rfl (decide_eq_false (not_not_intro h49)) rfl (Yl.kern rfl rfl (fun _ => by kernel_rfl)) (WL.valG (v := .string ⟨List.toArray p0.xLo⟩) rfl rfl (decide_eq_false (not_not_intro h49)) rfl (Yl.load rfl (Lds.one Try.isAgg9 (Cls.of (H47.cls (i := 0) rfl) rfl))) (WL.valG (v := .bool (decide (p0.xHi ≤ p0.xLo))) rfl rfl (decide_eq_false (not_not_intro h49)) rfl (Yl.bool (e := Op.bytesLess p0.xHi p0.xLo || decide (p0.xHi = p0.xLo)) (Yl.strLe rfl rfl) (bl_le _ _)) (WL.valG (v := .bool (decide (p0.xHi ≤ p0.xLo))) rfl rfl (decide_eq_true h37) rfl (Yl.pickF rfl (decide_eq_false (not_not_intro h49)) rfl) (WL.val (v := .bool (decide (p0.xHi ≤ p0.xLo))) rfl (Yl.pickT rfl (decide_eq_true h37) rfl) (WL.nil (Fin.then ?_))))))))
  by_cases h50 : p0.xHi ≤ p0.xLo
  refine Wp.cond1 rfl (decide_eq_true h50) (Wp.seq (Wp.region (As rfl rfl (WL.nil (Fin.then (Wp.ret (Fin.thenR (Fin.res (res1 rfl rfl) ?_))))))))
  have H51 : Own w D w45 [] := H47.pick [] (by decide) rfl
  have e : span_Check p0 = 21 := Eq.trans (if_pos h24) (Eq.trans (bnd_of hr31) (Eq.trans (if_pos h36) (Eq.trans (if_pos h37) (Eq.trans (bnd_of hr44) (Eq.trans (if_pos h49) (if_pos h50))))))
  obtain rfl := e.symm.trans hr
  exact ⟨rfl, H51⟩
  refine Wp.cond0 rfl (decide_eq_false h50) (Wp.skip (Fin.then (Wp.seq (Wp.region (As rfl rfl (WL.nil (Fin.then (Wp.ret (Fin.res (res1 rfl rfl) ?_)))))))))
  have H52 : Own w D w45 [] := H47.pick [] (by decide) rfl
  have e : span_Check p0 = 0 := Eq.trans (if_pos h24) (Eq.trans (bnd_of hr31) (Eq.trans (if_pos h36) (Eq.trans (if_pos h37) (Eq.trans (bnd_of hr44) (Eq.trans (if_pos h49) (if_neg h50))))))
  obtain rfl := e.symm.trans hr
  exact ⟨rfl, H52⟩
  refine Sk rfl rfl (decide_eq_true h49) rfl (Sk rfl rfl (decide_eq_true h49) rfl (Sk rfl rfl (decide_eq_true h49) rfl (Sk rfl rfl (decide_eq_true h49) rfl (Sk rfl rfl (decide_eq_true h49) rfl (WL.valG (v := .bool true) rfl rfl (decide_eq_true h37) rfl (Yl.pickT rfl (decide_eq_true h49) rfl) (WL.val (v := .bool true) rfl (Yl.pickT rfl (decide_eq_true h37) rfl) (WL.nil (Fin.then (Wp.cond1 rfl rfl (Wp.seq (Wp.region (As rfl rfl (WL.nil (Fin.then (Wp.ret (Fin.thenR (Fin.res (res1 rfl rfl) ?_)))))))))))))))))
  have H53 : Own w D w45 [] := H47.pick [] (by decide) rfl
  have e : span_Check p0 = 21 := Eq.trans (if_pos h24) (Eq.trans (bnd_of hr31) (Eq.trans (if_pos h36) (Eq.trans (if_pos h37) (Eq.trans (bnd_of hr44) (if_neg h49)))))
  obtain rfl := e.symm.trans hr
  exact ⟨rfl, H53⟩
  refine Sk rfl rfl (decide_eq_false h37) rfl (Sk rfl rfl (decide_eq_false h37) rfl (Sk rfl rfl (decide_eq_false h37) rfl (Sk rfl rfl (decide_eq_false h37) rfl (Sk rfl rfl (decide_eq_false h37) rfl (WL.skipU rfl rfl rfl (WL.skipU rfl rfl rfl (WL.skipU rfl rfl rfl (WL.skipU rfl rfl rfl (WL.skipU rfl rfl rfl (Sk rfl rfl (decide_eq_false h37) rfl (WL.val (v := .bool false) rfl (Yl.pickF rfl (decide_eq_false h37) rfl) (WL.nil (Fin.then (Wp.cond0 rfl rfl (Wp.skip (Fin.then (Wp.seq (Wp.region (As rfl rfl (WL.nil (Fin.then (Wp.ret (Fin.res (res1 rfl rfl) ?_)))))))))))))))))))))))
  have H54 : Own w D w32 [] := H34.pick [] (by decide) rfl
  have e : span_Check p0 = 0 := Eq.trans (if_pos h24) (Eq.trans (bnd_of hr31) (Eq.trans (if_pos h36) (if_neg h37)))
  obtain rfl := e.symm.trans hr
  exact ⟨rfl, H54⟩
  refine Wp.cond1 rfl (decide_eq_true h36) (Wp.seq (Wp.region (As rfl rfl (WL.nil (Fin.then (Wp.ret (Fin.thenR (Fin.res (res1 rfl rfl) ?_))))))))
  have H55 : Own w D w32 [] := H34.pick [] (by decide) rfl
  have e : span_Check p0 = 21 := Eq.trans (if_pos h24) (Eq.trans (bnd_of hr31) (if_neg h36))
  obtain rfl := e.symm.trans hr
  exact ⟨rfl, H55⟩
  refine Sk rfl rfl (decide_eq_false h24) rfl (Sk rfl rfl (decide_eq_false h24) rfl (Sk rfl rfl (decide_eq_false h24) rfl (Sk rfl rfl (decide_eq_false h24) rfl (WL.val (v := .bool false) rfl (Yl.pickF rfl (decide_eq_false h24) rfl) (WL.nil (Fin.then (Wp.cond0 rfl rfl (Wp.skip (Fin.then (Wp.seq (Wp.seq (Wp.region (Kn (v := .pointer (some ⟨g21, 1, none⟩)) rfl rfl rfl (fun _ => by kernel_rfl) (WL.val (v := .string ⟨List.toArray p0.xHi⟩) rfl (Yl.load rfl (Lds.one Try.isAgg9 (Cls.of (H23.cls (i := 0) rfl) rfl))) (WL.val (v := .bool (decide (p0.xHi ≠ ([])))) rfl (Yl.strNe rfl rfl) (Mv rfl rfl ?_))))))))))))))))
  by_cases h56 : p0.xHi ≠ ([])
  refine WL.valG (v := .pointer (some ⟨g21, 1, none⟩)) rfl rfl (decide_eq_true h56) rfl (Yl.kern rfl rfl (fun _ => by kernel_rfl)) (WL.valG (v := .string ⟨List.toArray p0.xHi⟩) rfl rfl (decide_eq_true h56) rfl (Yl.load rfl (Lds.one Try.isAgg9 (Cls.of (H23.cls (i := 0) rfl) rfl))) ?_)
  obtain ⟨r62, hr63⟩ : ∃ q, span_CheckKey p0.xHi = q := ⟨_, rfl⟩
  obtain ⟨D57, HP58, ro59, bk60, rr61⟩ := Own.enter0 H23
  refine WL.doG rfl rfl (decide_eq_true h56) rfl (Do.call Try.call36 rfl (span_CheckKey_ok _ _ p0.xHi r62 HP58 hr63) ?_)
  rintro _ w64 ⟨rfl, HQ65, hk67⟩
  have H66 : Own w D w64 [blk g21 (RangeD.cells p0) 28] := bk60 _ _ HQ65
  replace hk67 : ¬ (r62 = 0) ∨ (1 ≤ List.length p0.xHi ∧ List.length p0.xHi ≤ 12) := hk67
  refine WL.valG (v := .bool (decide (¬ (r62 = 0)))) rfl rfl (decide_eq_true h56) rfl (Yl.bool (e := !(decide (r62 = 0))) (Yl.kern rfl rfl (fun _ => by kernel_rfl)) decide_not.symm) (WL.valG (v := .bool (decide (¬ (r62 = 0)))) rfl rfl (decide_eq_true h56) rfl (Yl.move rfl) ?_)
  by_cases h68 : r62 = 0
  refine WL.valG (v := .pointer (some ⟨g21, 1, none⟩)) rfl rfl (decide_eq_false (not_not_intro h68)) rfl (Yl.kern rfl rfl (fun _ => by kernel_rfl)) (WL.valG (v := .string ⟨List.toArray p0.xHi⟩) rfl rfl (decide_eq_false (not_not_intro h68)) rfl (Yl.load rfl (Lds.one Try.isAgg9 (Cls.of (H66.cls (i := 0) rfl) rfl))) (WL.valG (v := .pointer (some ⟨g21, 0, none⟩)) rfl rfl (decide_eq_false (not_not_intro h68)) rfl (Yl.kern rfl rfl (fun _ => by kernel_rfl)) (WL.valG (v := .string ⟨List.toArray p0.xLo⟩) rfl rfl (decide_eq_false (not_not_intro h68)) rfl (Yl.load rfl (Lds.one Try.isAgg9 (Cls.of (H66.cls (i := 0) rfl) rfl))) (WL.valG (v := .bool (decide (p0.xHi ≤ p0.xLo))) rfl rfl (decide_eq_false (not_not_intro h68)) rfl (Yl.bool (e := Op.bytesLess p0.xHi p0.xLo || decide (p0.xHi = p0.xLo)) (Yl.strLe rfl rfl) (bl_le _ _)) (WL.valG (v := .bool (decide (p0.xHi ≤ p0.xLo))) rfl rfl (decide_eq_true h56) rfl (Yl.pickF rfl (decide_eq_false (not_not_intro h68)) rfl) (WL.val (v := .bool (decide (p0.xHi ≤ p0.xLo))) rfl (Yl.pickT rfl (decide_eq_true h56) rfl) (WL.nil (Fin.then ?_))))))))
  by_cases h69 : p0.xHi ≤ p0.xLo
  refine Wp.cond1 rfl (decide_eq_true h69) (Wp.seq (Wp.region (As rfl rfl (WL.nil (Fin.then (Wp.ret (Fin.thenR (Fin.res (res1 rfl rfl) ?_))))))))
  have H70 : Own w D w64 [] := H66.pick [] (by decide) rfl
  have e : span_Check p0 = 21 := Eq.trans (if_neg h24) (Eq.trans (if_pos h56) (Eq.trans (bnd_of hr63) (Eq.trans (if_pos h68) (if_pos h69))))
  obtain rfl := e.symm.trans hr
  exact ⟨rfl, H70⟩
  refine Wp.cond0 rfl (decide_eq_false h69) (Wp.skip (Fin.then (Wp.seq (Wp.region (As rfl rfl (WL.nil (Fin.then (Wp.ret (Fin.res (res1 rfl rfl) ?_)))))))))
  have H71 : Own w D w64 [] := H66.pick [] (by decide) rfl
  have e : span_Check p0 = 0 := Eq.trans (if_neg h24) (Eq.trans (if_pos h56) (Eq.trans (bnd_of hr63) (Eq.trans (if_pos h68) (if_neg h69))))
  obtain rfl := e.symm.trans hr
  exact ⟨rfl, H71⟩
  refine Sk rfl rfl (decide_eq_true h68) rfl (Sk rfl rfl (decide_eq_true h68) rfl (Sk rfl rfl (decide_eq_true h68) rfl (Sk rfl rfl (decide_eq_true h68) rfl (Sk rfl rfl (decide_eq_true h68) rfl (WL.valG (v := .bool true) rfl rfl (decide_eq_true h56) rfl (Yl.pickT rfl (decide_eq_true h68) rfl) (WL.val (v := .bool true) rfl (Yl.pickT rfl (decide_eq_true h56) rfl) (WL.nil (Fin.then (Wp.cond1 rfl rfl (Wp.seq (Wp.region (As rfl rfl (WL.nil (Fin.then (Wp.ret (Fin.thenR (Fin.res (res1 rfl rfl) ?_)))))))))))))))))
  have H72 : Own w D w64 [] := H66.pick [] (by decide) rfl
  have e : span_Check p0 = 21 := Eq.trans (if_neg h24) (Eq.trans (if_pos h56) (Eq.trans (bnd_of hr63) (if_neg h68)))
  obtain rfl := e.symm.trans hr
  exact ⟨rfl, H72⟩
  refine Sk rfl rfl (decide_eq_false h56) rfl (Sk rfl rfl (decide_eq_false h56) rfl (Sk rfl rfl (decide_eq_false h56) rfl (Sk rfl rfl (decide_eq_false h56) rfl (Sk rfl rfl (decide_eq_false h56) rfl (WL.skipU rfl rfl rfl (WL.skipU rfl rfl rfl (WL.skipU rfl rfl rfl (WL.skipU rfl rfl rfl (WL.skipU rfl rfl rfl (Sk rfl rfl (decide_eq_false h56) rfl (WL.val (v := .bool false) rfl (Yl.pickF rfl (decide_eq_false h56) rfl) (WL.nil (Fin.then (Wp.cond0 rfl rfl (Wp.skip (Fin.then (Wp.seq (Wp.region (As rfl rfl (WL.nil (Fin.then (Wp.ret (Fin.res (res1 rfl rfl) ?_)))))))))))))))))))))))
  have H73 : Own w D w22 [] := H23.pick [] (by decide) rfl
  have e : span_Check p0 = 0 := Eq.trans (if_neg h24) (if_neg h56)
  obtain rfl := e.symm.trans hr
  exact ⟨rfl, H73⟩

def op_checkRange (p0 : OpD) : Int :=
  bnd (op_spanRange p0) fun yr29 => bnd (span_Check yr29) fun yr39 => yr39

set_option maxRecDepth 100000 in
theorem op_checkRange_ok (w : World) (D : Nat → Prop) (p0 : OpD) (r0 : Int) (H : Own w D w [])  (hr : op_checkRange p0 = r0) :
    Calls Try.prog 56 #[.agg (OpD.cells p0).toArray] w (Ret fun v w' => v = .int .i64 r0 ∧ Own w D w' []) := by
  refine Calls.body (args := [.agg (OpD.cells p0).toArray]) Try.func56 rfl rfl rfl ?_
  show Wp _ _ _ [(0, .agg (OpD.cells p0).toArray)] _ _
  refine Wp.seq (Wp.region ?_)
  refine WL.do rfl (Do.newP (cs := (OpD.cells p0)) (t := 23) H rfl rfl (fun _ => by kernel_rfl) ?_)
  intro g21 w22 H23
  replace H23 : Own w D w22 [blk g21 (OpD.cells p0) 23] := H23
  refine As rfl rfl (WL.nil (Fin.then (Wp.seq (Wp.region (WL.val (v := .agg (OpD.cells p0).toArray) rfl (Yl.load rfl (Lds.agg (cs := (OpD.cells p0)) Try.isAgg23 Try.sizeOf23 ((H23.cls (i := 0) rfl).lit (k := 0) (m := 6) rfl))) ?_)))))
  obtain ⟨r29, hr30⟩ : ∃ q, op_spanRange p0 = q := ⟨_, rfl⟩
  obtain ⟨D24, HP25, ro26, bk27, rr28⟩ := Own.enter0 H23
  refine WL.do rfl (Do.call Try.call53 rfl (op_spanRange_ok _ _ p0 r29 HP25 hr30) ?_)
  rintro _ w31 ⟨rfl, HQ32⟩
  have H33 : Own w D w31 [blk g21 (OpD.cells p0) 23] := bk27 _ _ HQ32
  obtain ⟨r39, hr40⟩ : ∃ q, span_Check r29 = q := ⟨_, rfl⟩
  obtain ⟨D34, HP35, ro36, bk37, rr38⟩ := Own.enter0 H33
  refine WL.do rfl (Do.call Try.call40 rfl (span_Check_ok _ _ r29 r39 HP35 hr40) ?_)
  rintro _ w41 ⟨rfl, HQ42⟩
  have H43 : Own w D w41 [blk g21 (OpD.cells p0) 23] := bk37 _ _ HQ42
  refine As rfl rfl (WL.nil (Fin.then (Wp.ret (Fin.res (res1 rfl rfl) ?_))))
  have H44 : Own w D w41 [] := H43.pick [] (by decide) rfl
  have e : op_checkRange p0 = r39 := Eq.trans (bnd_of hr30) (bnd_of hr40)
  obtain rfl := e.symm.trans hr
  exact ⟨rfl, H44⟩

def op_checkScan (p0 : OpD) : Int :=
  bnd (op_checkRange p0) fun yr29 => if yr29 = 0 then if p0.xMost < 1 then 1 else if p0.xMost > 4 then 1 else 0 else yr29

set_option maxRecDepth 100000 in
theorem op_checkScan_ok (w : World) (D : Nat → Prop) (p0 : OpD) (r0 : Int) (H : Own w D w [])  (hr : op_checkScan p0 = r0) :
    Calls Try.prog 52 #[.agg (OpD.cells p0).toArray] w (Ret fun v w' => v = .int .i64 r0 ∧ Own w D w' []) := by
  refine Calls.body (args := [.agg (OpD.cells p0).toArray]) Try.func52 rfl rfl rfl ?_
  show Wp _ _ _ [(0, .agg (OpD.cells p0).toArray)] _ _
  refine Wp.seq (Wp.region ?_)
  refine WL.do rfl (Do.newP (cs := (OpD.cells p0)) (t := 23) H rfl rfl (fun _ => by kernel_rfl) ?_)
  intro g21 w22 H23
  replace H23 : Own w D w22 [blk g21 (OpD.cells p0) 23] := H23
  refine As rfl rfl (WL.nil (Fin.then (Wp.seq (Wp.seq (Wp.region (WL.val (v := .agg (OpD.cells p0).toArray) rfl (Yl.load rfl (Lds.agg (cs := (OpD.cells p0)) Try.isAgg23 Try.sizeOf23 ((H23.cls (i := 0) rfl).lit (k := 0) (m := 6) rfl))) ?_))))))
  obtain ⟨r29, hr30⟩ : ∃ q, op_checkRange p0 = q := ⟨_, rfl⟩
  obtain ⟨D24, HP25, ro26, bk27, rr28⟩ := Own.enter0 H23
  refine WL.do rfl (Do.call Try.call56 rfl (op_checkRange_ok _ _ p0 r29 HP25 hr30) ?_)
  rintro _ w31 ⟨rfl, HQ32⟩
  have H33 : Own w D w31 [blk g21 (OpD.cells p0) 23] := bk27 _ _ HQ32
  refine As rfl rfl (WL.nil (Fin.then (Wp.seq (Wp.region (Mv rfl rfl (WL.val (v := .bool (decide (¬ (r29 = 0)))) rfl (Yl.bool (e := !(decide (r29 = 0))) (Yl.kern rfl rfl (fun _ => by kernel_rfl)) decide_not.symm) (WL.nil (Fin.then ?_))))))))
  by_cases h34 : r29 = 0
  refine Wp.cond0 rfl (decide_eq_false (not_not_intro h34)) (Wp.skip (Fin.then (Wp.seq (Wp.seq (Wp.region (Kn (v := .pointer (some ⟨g21, 5, none⟩)) rfl rfl rfl (fun _ => by kernel_rfl) (WL.val (v := .int .i64 p0.xMost) rfl (Yl.load rfl (Lds.one Try.isAgg3 (Cls.of (H33.cls (i := 0) rfl) rfl))) (Kn (v := .bool (decide (p0.xMost < 1))) rfl rfl rfl (fun _ => by kernel_rfl) (Mv rfl rfl ?_)))))))))
  by_cases h35 : p0.xMost < 1
  refine Sk rfl rfl (decide_eq_true h35) rfl (Sk rfl rfl (decide_eq_true h35) rfl (Sk rfl rfl (decide_eq_true h35) rfl (WL.val (v := .bool true) rfl (Yl.pickT rfl (decide_eq_true h35) rfl) (WL.nil (Fin.then (Wp.cond1 rfl rfl (Wp.seq (Wp.region (As rfl rfl (WL.nil (Fin.then (Wp.ret (Fin.thenR (Fin.res (res1 rfl rfl) ?_))))))))))))))
  have H36 : Own w D w31 [] := H33.pick [] (by decide) rfl
  have e : op_checkScan p0 = 1 := Eq.trans (bnd_of hr30) (Eq.trans (if_pos h34) (if_pos h35))
  obtain rfl := e.symm.trans hr
  exact ⟨rfl, H36⟩
  refine WL.valG (v := .pointer (some ⟨g21, 5, none⟩)) rfl rfl (decide_eq_false h35) rfl (Yl.kern rfl rfl (fun _ => by kernel_rfl)) (WL.valG (v := .int .i64 p0.xMost) rfl rfl (decide_eq_false h35) rfl (Yl.load rfl (Lds.one Try.isAgg3 (Cls.of (H33.cls (i := 0) rfl) rfl))) (WL.valG (v := .bool (decide (p0.xMost > 4))) rfl rfl (decide_eq_false h35) rfl (Yl.kern rfl rfl (fun _ => by kernel_rfl)) (WL.val (v := .bool (decide (p0.xMost > 4))) rfl (Yl.pickF rfl (decide_eq_false h35) rfl) (WL.nil (Fin.then ?_)))))
  by_cases h37 : p0.xMost > 4
  refine Wp.cond1 rfl (decide_eq_true h37) (Wp.seq (Wp.region (As rfl rfl (WL.nil (Fin.then (Wp.ret (Fin.thenR (Fin.res (res1 rfl rfl) ?_))))))))
  have H38 : Own w D w31 [] := H33.pick [] (by decide) rfl
  have e : op_checkScan p0 = 1 := Eq.trans (bnd_of hr30) (Eq.trans (if_pos h34) (Eq.trans (if_neg h35) (if_pos h37)))
  obtain rfl := e.symm.trans hr
  exact ⟨rfl, H38⟩
  refine Wp.cond0 rfl (decide_eq_false h37) (Wp.skip (Fin.then (Wp.seq (Wp.region (As rfl rfl (WL.nil (Fin.then (Wp.ret (Fin.res (res1 rfl rfl) ?_)))))))))
  have H39 : Own w D w31 [] := H33.pick [] (by decide) rfl
  have e : op_checkScan p0 = 0 := Eq.trans (bnd_of hr30) (Eq.trans (if_pos h34) (Eq.trans (if_neg h35) (if_neg h37)))
  obtain rfl := e.symm.trans hr
  exact ⟨rfl, H39⟩
  refine Wp.cond1 rfl (decide_eq_true h34) (Wp.seq (Wp.region (Mv rfl rfl (As rfl rfl (WL.nil (Fin.then (Wp.ret (Fin.thenR (Fin.res (res1 rfl rfl) ?_)))))))))
  have H40 : Own w D w31 [] := H33.pick [] (by decide) rfl
  have e : op_checkScan p0 = r29 := Eq.trans (bnd_of hr30) (if_neg h34)
  obtain rfl := e.symm.trans hr
  exact ⟨rfl, H40⟩

set_option maxRecDepth 100000 in
theorem op_kindOf_5_ok (w : World) (D : Nat → Prop) (p0 : Int) (H : Own w D w []) (hp0 : p0 = 5) :
    Calls Try.prog 30 #[.int .i64 p0] w (Ret fun v w' => v = .tuple #[.agg #[.bool true, .func (.func 55) #[] #[], .func (.func 56) #[] #[], .func (.func 53) #[] #[], .func (.func 57) #[] #[]], .bool true] ∧ Own w D w' []) := by
  subst hp0
  refine Calls.body (args := [.int .i64 5]) Try.func30 rfl rfl rfl ?_
  show Wp _ _ _ [(0, .int .i64 5)] _ _
  refine Wp.seq (Wp.region ?_)
  refine WL.do rfl (Do.newP (cs := [.bool false, .nilFunc, .nilFunc, .nilFunc, .nilFunc]) (t := 65) H rfl rfl (fun _ => by kernel_rfl) ?_)
  intro g21 w22 H23
  replace H23 : Own w D w22 [blk g21 [.bool false, .nilFunc, .nilFunc, .nilFunc, .nilFunc] 65] := H23
  refine As rfl rfl (WL.nil (Fin.then (Wp.seq (Wp.region (Kn (v := .agg #[.bool false, .func (.func 43) #[] #[], .func (.func 44) #[] #[], .func (.func 45) #[] #[], .func (.func 46) #[] #[]]) rfl rfl rfl (fun _ => by kernel_rfl) (Kn (v := .agg #[.bool true, .func (.func 47) #[] #[], .func (.func 48) #[] #[], .func (.func 45) #[] #[], .func (.func 49) #[] #[]]) rfl rfl rfl (fun _ => by kernel_rfl) (Kn (v := .agg #[.bool true, .func (.func 43) #[] #[], .func (.func 44) #[] #[], .func (.func 45) #[] #[], .func (.func 50) #[] #[]]) rfl rfl rfl (fun _ => by kernel_rfl) (Kn (v := .agg #[.bool false, .func (.func 51) #[] #[], .func (.func 52) #[] #[], .func (.func 53) #[] #[], .func (.func 54) #[] #[]]) rfl rfl rfl (fun _ => by kernel_rfl) (Kn (v := .agg #[.bool true, .func (.func 55) #[] #[], .func (.func 56) #[] #[], .func (.func 53) #[] #[], .func (.func 57) #[] #[]]) rfl rfl rfl (fun _ => by kernel_rfl) (Kn (v := .agg #[.bool false, .nilFunc, .nilFunc, .nilFunc, .nilFunc, .bool false, .func (.func 43) #[] #[], .func (.func 44) #[] #[], .func (.func 45) #[] #[], .func (.func 46) #[] #[], .bool true, .func (.func 47) #[] #[], .func (.func 48) #[] #[], .func (.func 45) #[] #[], .func (.func 49) #[] #[], .bool true, .func (.func 43) #[] #[], .func (.func 44) #[] #[], .func (.func 45) #[] #[], .func (.func 50) #[] #[], .bool false, .func (.func 51) #[] #[], .func (.func 52) #[] #[], .func (.func 53) #[] #[], .func (.func 54) #[] #[], .bool true, .func (.func 55) #[] #[], .func (.func 56) #[] #[], .func (.func 53) #[] #[], .func (.func 57) #[] #[]]) rfl rfl rfl (fun _ => by kernel_rfl) ?_))))))))))
  refine WL.do rfl (Do.newP (cs := [.bool false, .nilFunc, .nilFunc, .nilFunc, .nilFunc, .bool false, .nilFunc, .nilFunc, .nilFunc, .nilFunc, .bool false, .nilFunc, .nilFunc, .nilFunc, .nilFunc, .bool false, .nilFunc, .nilFunc, .nilFunc, .nilFunc, .bool false, .nilFunc, .nilFunc, .nilFunc, .nilFunc, .bool false, .nilFunc, .nilFunc, .nilFunc, .nilFunc]) (t := 75) H23 rfl rfl (fun _ => by kernel_rfl) ?_)
  intro g24 w25 H26
  replace H26 : Own w D w25 [blk g24 [.bool false, .nilFunc, .nilFunc, .nilFunc, .nilFunc, .bool false, .nilFunc, .nilFunc, .nilFunc, .nilFunc, .bool false, .nilFunc, .nilFunc, .nilFunc, .nilFunc, .bool false, .nilFunc, .nilFunc, .nilFunc, .nilFunc, .bool false, .nilFunc, .nilFunc, .nilFunc, .nilFunc, .bool false, .nilFunc, .nilFunc, .nilFunc, .nilFunc] 75, blk g21 [.bool false, .nilFunc, .nilFunc, .nilFunc, .nilFunc] 65] := H26
  refine WL.do0 (Do.store (vs := [.bool false, .nilFunc, .nilFunc, .nilFunc, .nilFunc, .bool false, .func (.func 43) #[] #[], .func (.func 44) #[] #[], .func (.func 45) #[] #[], .func (.func 46) #[] #[], .bool true, .func (.func 47) #[] #[], .func (.func 48) #[] #[], .func (.func 45) #[] #[], .func (.func 49) #[] #[], .bool true, .func (.func 43) #[] #[], .func (.func 44) #[] #[], .func (.func 45) #[] #[], .func (.func 50) #[] #[], .bool false, .func (.func 51) #[] #[], .func (.func 52) #[] #[], .func (.func 53) #[] #[], .func (.func 54) #[] #[], .bool true, .func (.func 55) #[] #[], .func (.func 56) #[] #[], .func (.func 53) #[] #[], .func (.func 57) #[] #[]]) (o := 0) H26 rfl rfl Try.sizeOf75 rfl rfl rfl rfl ?_)
  intro w27 H28
  replace H28 : Own w D w27 [blk g24 [.bool false, .nilFunc, .nilFunc, .nilFunc, .nilFunc, .bool false, .func (.func 43) #[] #[], .func (.func 44) #[] #[], .func (.func 45) #[] #[], .func (.func 46) #[] #[], .bool true, .func (.func 47) #[] #[], .func (.func 48) #[] #[], .func (.func 45) #[] #[], .func (.func 49) #[] #[], .bool true, .func (.func 43) #[] #[], .func (.func 44) #[] #[], .func (.func 45) #[] #[], .func (.func 50) #[] #[], .bool false, .func (.func 51) #[] #[], .func (.func 52) #[] #[], .func (.func 53) #[] #[], .func (.func 54) #[] #[], .bool true, .func (.func 55) #[] #[], .func (.func 56) #[] #[], .func (.func 53) #[] #[], .func (.func 57) #[] #[]] 75, blk g21 [.bool false, .nilFunc, .nilFunc, .nilFunc, .nilFunc] 65] := H28
  refine WL.nil (Fin.then (Wp.seq (Wp.seq (Wp.region (Mv rfl rfl (Kn (v := .bool false) rfl rfl rfl (fun _ => by kernel_rfl) (Mv rfl rfl (WL.valG (v := .int .i64 5) rfl rfl rfl rfl (Yl.move rfl) (WL.valG (v := .bool false) rfl rfl rfl rfl (Yl.kern rfl rfl (fun _ => by kernel_rfl)) (WL.val (v := .bool false) rfl (Yl.pickF rfl rfl rfl) (WL.nil (Fin.then (Wp.cond0 rfl rfl (Wp.skip (Fin.then (Wp.seq (Wp.region (Mv rfl rfl (Kn (v := .pointer (some ⟨g24, 25, none⟩)) rfl rfl rfl (fun _ => by kernel_rfl) (WL.val (v := .agg #[.bool true, .func (.func 55) #[] #[], .func (.func 56) #[] #[], .func (.func 53) #[] #[], .func (.func 57) #[] #[]]) rfl (Yl.load rfl (Lds.agg (cs := [.bool true, .func (.func 55) #[] #[], .func (.func 56) #[] #[], .func (.func 53) #[] #[], .func (.func 57) #[] #[]]) Try.isAgg65 Try.sizeOf65 ((H28.cls (i := 0) rfl).lit (k := 25) (m := 5) rfl))) ?_))))))))))))))))))))
  have H29 : Own w D w27 [blk g21 [.bool false, .nilFunc, .nilFunc, .nilFunc, .nilFunc] 65, blk g24 [.bool false, .nilFunc, .nilFunc, .nilFunc, .nilFunc, .bool false, .func (.func 43) #[] #[], .func (.func 44) #[] #[], .func (.func 45) #[] #[], .func (.func 46) #[] #[], .bool true, .func (.func 47) #[] #[], .func (.func 48) #[] #[], .func (.func 45) #[] #[], .func (.func 49) #[] #[], .bool true, .func (.func 43) #[] #[], .func (.func 44) #[] #[], .func (.func 45) #[] #[], .func (.func 50) #[] #[], .bool false, .func (.func 51) #[] #[], .func (.func 52) #[] #[], .func (.func 53) #[] #[], .func (.func 54) #[] #[], .bool true, .func (.func 55) #[] #[], .func (.func 56) #[] #[], .func (.func 53) #[] #[], .func (.func 57) #[] #[]] 75] := H28.pick [1, 0] (by decide) rfl
  refine WL.do0 (Do.store (vs := [.bool true, .func (.func 55) #[] #[], .func (.func 56) #[] #[], .func (.func 53) #[] #[], .func (.func 57) #[] #[]]) (o := 0) H29 rfl rfl Try.sizeOf65 rfl rfl rfl rfl ?_)
  intro w30 H31
  replace H31 : Own w D w30 [blk g21 [.bool true, .func (.func 55) #[] #[], .func (.func 56) #[] #[], .func (.func 53) #[] #[], .func (.func 57) #[] #[]] 65, blk g24 [.bool false, .nilFunc, .nilFunc, .nilFunc, .nilFunc, .bool false, .func (.func 43) #[] #[], .func (.func 44) #[] #[], .func (.func 45) #[] #[], .func (.func 46) #[] #[], .bool true, .func (.func 47) #[] #[], .func (.func 48) #[] #[], .func (.func 45) #[] #[], .func (.func 49) #[] #[], .bool true, .func (.func 43) #[] #[], .func (.func 44) #[] #[], .func (.func 45) #[] #[], .func (.func 50) #[] #[], .bool false, .func (.func 51) #[] #[], .func (.func 52) #[] #[], .func (.func 53) #[] #[], .func (.func 54) #[] #[], .bool true, .func (.func 55) #[] #[], .func (.func 56) #[] #[], .func (.func 53) #[] #[], .func (.func 57) #[] #[]] 75] := H31
  refine As rfl rfl (WL.nil (Fin.then (Wp.ret (Fin.res (resN (vs := [.agg #[.bool true, .func (.func 55) #[] #[], .func (.func 56) #[] #[], .func (.func 53) #[] #[], .func (.func 57) #[] #[]], .bool true]) rfl (ResV.cell rfl (Lds.agg (cs := [.bool true, .func (.func 55) #[] #[], .func (.func 56) #[] #[], .func (.func 53) #[] #[], .func (.func 57) #[] #[]]) Try.isAgg65 Try.sizeOf65 ((H31.cls (i := 0) rfl).lit (k := 0) (m := 5) rfl)) (ResV.tmp rfl ResV.nil)) (Nat.le_of_ble_eq_true rfl)) ?_))))
  have H32 : Own w D w30 [] := H31.pick [] (by decide) rfl
  exact ⟨rfl, H32⟩

def op_ownRange (p0 : OpD) : OpD :=
  OpD.mk p0.xKind ([]) ([]) p0.xLo p0.xHi 0

set_option maxRecDepth 100000 in
theorem op_ownRange_ok (w : World) (D : Nat → Prop) (p0 : OpD) (r0 : OpD) (H : Own w D w [])  (hr : op_ownRange p0 = r0) :
    Calls Try.prog 55 #[.agg (OpD.cells p0).toArray] w (Ret fun v w' => v = .agg (OpD.cells r0).toArray ∧ Own w D w' []) := by
  refine Calls.body (args := [.agg (OpD.cells p0).toArray]) Try.func55 rfl rfl rfl ?_
  show Wp _ _ _ [(0, .agg (OpD.cells p0).toArray)] _ _
  refine Wp.seq (Wp.region ?_)
  refine WL.do rfl (Do.newP (cs := (OpD.cells p0)) (t := 23) H rfl rfl (fun _ => by kernel_rfl) ?_)
  intro g21 w22 H23
  replace H23 : Own w D w22 [blk g21 (OpD.cells p0) 23] := H23
  refine WL.do rfl (Do.newP (cs := [.int .i64 0, .string ⟨List.toArray ([])⟩, .string ⟨List.toArray ([])⟩, .string ⟨List.toArray ([])⟩, .string ⟨List.toArray ([])⟩, .int .i64 0]) (t := 23) H23 rfl rfl (fun _ => by kernel_rfl) ?_)
  intro g24 w25 H26
  replace H26 : Own w D w25 [blk g24 [.int .i64 0, .string ⟨List.toArray ([])⟩, .string ⟨List.toArray ([])⟩, .string ⟨List.toArray ([])⟩, .string ⟨List.toArray ([])⟩, .int .i64 0] 23, blk g21 (OpD.cells p0) 23] := H26
  refine WL.nil (Fin.then (Wp.seq (Wp.region (Kn (v := .pointer (some ⟨g21, 0, none⟩)) rfl rfl rfl (fun _ => by kernel_rfl) (WL.val (v := .int .i64 p0.xKind) rfl (Yl.load rfl (Lds.one Try.isAgg3 (Cls.of (H26.cls (i := 1) rfl) rfl))) (Kn (v := .pointer (some ⟨g21, 3, none⟩)) rfl rfl rfl (fun _ => by kernel_rfl) (WL.val (v := .string ⟨List.toArray p0.xLo⟩) rfl (Yl.load rfl (Lds.one Try.isAgg9 (Cls.of (H26.cls (i := 1) rfl) rfl))) (Kn (v := .pointer (some ⟨g21, 4, none⟩)) rfl rfl rfl (fun _ => by kernel_rfl) (WL.val (v := .string ⟨List.toArray p0.xHi⟩) rfl (Yl.load rfl (Lds.one Try.isAgg9 (Cls.of (H26.cls (i := 1) rfl) rfl))) (Kn (v := .agg #[.int .i64 p0.xKind, .string ⟨List.toArray ([])⟩, .string ⟨List.toArray ([])⟩, .string ⟨List.toArray p0.xLo⟩, .string ⟨List.toArray p0.xHi⟩, .int .i64 0]) rfl rfl rfl (fun _ => by kernel_rfl) ?_))))))))))
  refine WL.do0 (Do.store (vs := [.int .i64 p0.xKind, .string ⟨List.toArray ([])⟩, .string ⟨List.toArray ([])⟩, .string ⟨List.toArray p0.xLo⟩, .string ⟨List.toArray p0.xHi⟩, .int .i64 0]) (o := 0) H26 rfl rfl Try.sizeOf23 rfl rfl rfl rfl ?_)
  intro w27 H28
  replace H28 : Own w D w27 [blk g24 [.int .i64 p0.xKind, .string ⟨List.toArray ([])⟩, .string ⟨List.toArray ([])⟩, .string ⟨List.toArray p0.xLo⟩, .string ⟨List.toArray p0.xHi⟩, .int .i64 0] 23, blk g21 (OpD.cells p0) 23] := H28
  refine WL.nil (Fin.then (Wp.ret (Fin.res (resC rfl rfl (Lds.agg (cs := [.int .i64 p0.xKind, .string ⟨List.toArray ([])⟩, .string ⟨List.toArray ([])⟩, .string ⟨List.toArray p0.xLo⟩, .string ⟨List.toArray p0.xHi⟩, .int .i64 0]) Try.isAgg23 Try.sizeOf23 ((H28.cls (i := 0) rfl).lit (k := 0) (m := 6) rfl))) ?_)))
  have H29 : Own w D w27 [] := H28.pick [] (by decide) rfl
  have e : op_ownRange p0 = OpD.mk p0.xKind ([]) ([]) p0.xLo p0.xHi 0 := rfl
  obtain rfl := e.symm.trans hr
  exact ⟨rfl, H29⟩

set_option maxRecDepth 100000 in
theorem op_kindOf_no_ok (w : World) (D : Nat → Prop) (p0 : Int) (H : Own w D w []) (hh0 : ¬ (p0 = 1)) (hh1 : ¬ (p0 = 2)) (hh2 : ¬ (p0 = 3)) (hh3 : ¬ (p0 = 4)) (hh4 : ¬ (p0 = 5)) :
    Calls Try.prog 30 #[.int .i64 p0] w (Ret fun v w' => v = .tuple #[.agg #[.bool false, .nilFunc, .nilFunc, .nilFunc, .nilFunc], .bool false] ∧ Own w D w' []) := by
  refine Calls.body (args := [.int .i64 p0]) Try.func30 rfl rfl rfl ?_
  show Wp _ _ _ [(0, .int .i64 p0)] _ _
  refine Wp.seq (Wp.region ?_)
  refine WL.do rfl (Do.newP (cs := [.bool false, .nilFunc, .nilFunc, .nilFunc, .nilFunc]) (t := 65) H rfl rfl (fun _ => by kernel_rfl) ?_)
  intro g21 w22 H23
  replace H23 : Own w D w22 [blk g21 [.bool false, .nilFunc, .nilFunc, .nilFunc, .nilFunc] 65] := H23
  refine As rfl rfl (WL.nil (Fin.then (Wp.seq (Wp.region (Kn (v := .agg #[.bool false, .func (.func 43) #[] #[], .func (.func 44) #[] #[], .func (.func 45) #[] #[], .func (.func 46) #[] #[]]) rfl rfl rfl (fun _ => by kernel_rfl) (Kn (v := .agg #[.bool true, .func (.func 47) #[] #[], .func (.func 48) #[] #[], .func (.func 45) #[] #[], .func (.func 49) #[] #[]]) rfl rfl rfl (fun _ => by kernel_rfl) (Kn (v := .agg #[.bool true, .func (.func 43) #[] #[], .func (.func 44) #[] #[], .func (.func 45) #[] #[], .func (.func 50) #[] #[]]) rfl rfl rfl (fun _ => by kernel_rfl) (Kn (v := .agg #[.bool false, .func (.func 51) #[] #[], .func (.func 52) #[] #[], .func (.func 53) #[] #[], .func (.func 54) #[] #[]]) rfl rfl rfl (fun _ => by kernel_rfl) (Kn (v := .agg #[.bool true, .func (.func 55) #[] #[], .func (.func 56) #[] #[], .func (.func 53) #[] #[], .func (.func 57) #[] #[]]) rfl rfl rfl (fun _ => by kernel_rfl) (Kn (v := .agg #[.bool false, .nilFunc, .nilFunc, .nilFunc, .nilFunc, .bool false, .func (.func 43) #[] #[], .func (.func 44) #[] #[], .func (.func 45) #[] #[], .func (.func 46) #[] #[], .bool true, .func (.func 47) #[] #[], .func (.func 48) #[] #[], .func (.func 45) #[] #[], .func (.func 49) #[] #[], .bool true, .func (.func 43) #[] #[], .func (.func 44) #[] #[], .func (.func 45) #[] #[], .func (.func 50) #[] #[], .bool false, .func (.func 51) #[] #[], .func (.func 52) #[] #[], .func (.func 53) #[] #[], .func (.func 54) #[] #[], .bool true, .func (.func 55) #[] #[], .func (.func 56) #[] #[], .func (.func 53) #[] #[], .func (.func 57) #[] #[]]) rfl rfl rfl (fun _ => by kernel_rfl) ?_))))))))))
  refine WL.do rfl (Do.newP (cs := [.bool false, .nilFunc, .nilFunc, .nilFunc, .nilFunc, .bool false, .nilFunc, .nilFunc, .nilFunc, .nilFunc, .bool false, .nilFunc, .nilFunc, .nilFunc, .nilFunc, .bool false, .nilFunc, .nilFunc, .nilFunc, .nilFunc, .bool false, .nilFunc, .nilFunc, .nilFunc, .nilFunc, .bool false, .nilFunc, .nilFunc, .nilFunc, .nilFunc]) (t := 75) H23 rfl rfl (fun _ => by kernel_rfl) ?_)
  intro g24 w25 H26
  replace H26 : Own w D w25 [blk g24 [.bool false, .nilFunc, .nilFunc, .nilFunc, .nilFunc, .bool false, .nilFunc, .nilFunc, .nilFunc, .nilFunc, .bool false, .nilFunc, .nilFunc, .nilFunc, .nilFunc, .bool false, .nilFunc, .nilFunc, .nilFunc, .nilFunc, .bool false, .nilFunc, .nilFunc, .nilFunc, .nilFunc, .bool false, .nilFunc, .nilFunc, .nilFunc, .nilFunc] 75, blk g21 [.bool false, .nilFunc, .nilFunc, .nilFunc, .nilFunc] 65] := H26
  refine WL.do0 (Do.store (vs := [.bool false, .nilFunc, .nilFunc, .nilFunc, .nilFunc, .bool false, .func (.func 43) #[] #[], .func (.func 44) #[] #[], .func (.func 45) #[] #[], .func (.func 46) #[] #[], .bool true, .func (.func 47) #[] #[], .func (.func 48) #[] #[], .func (.func 45) #[] #[], .func (.func 49) #[] #[], .bool true, .func (.func 43) #[] #[], .func (.func 44) #[] #[], .func (.func 45) #[] #[], .func (.func 50) #[] #[], .bool false, .func (.func 51) #[] #[], .func (.func 52) #[] #[], .func (.func 53) #[] #[], .func (.func 54) #[] #[], .bool true, .func (.func 55) #[] #[], .func (.func 56) #[] #[], .func (.func 53) #[] #[], .func (.func 57) #[] #[]]) (o := 0) H26 rfl rfl Try.sizeOf75 rfl rfl rfl rfl ?_)
  intro w27 H28
  replace H28 : Own w D w27 [blk g24 [.bool false, .nilFunc, .nilFunc, .nilFunc, .nilFunc, .bool false, .func (.func 43) #[] #[], .func (.func 44) #[] #[], .func (.func 45) #[] #[], .func (.func 46) #[] #[], .bool true, .func (.func 47) #[] #[], .func (.func 48) #[] #[], .func (.func 45) #[] #[], .func (.func 49) #[] #[], .bool true, .func (.func 43) #[] #[], .func (.func 44) #[] #[], .func (.func 45) #[] #[], .func (.func 50) #[] #[], .bool false, .func (.func 51) #[] #[], .func (.func 52) #[] #[], .func (.func 53) #[] #[], .func (.func 54) #[] #[], .bool true, .func (.func 55) #[] #[], .func (.func 56) #[] #[], .func (.func 53) #[] #[], .func (.func 57) #[] #[]] 75, blk g21 [.bool false, .nilFunc, .nilFunc, .nilFunc, .nilFunc] 65] := H28
  refine WL.nil (Fin.then (Wp.seq (Wp.seq (Wp.region (Mv rfl rfl (Kn (v := .bool (decide (p0 ≤ 0))) rfl rfl rfl (fun _ => by kernel_rfl) (Mv rfl rfl ?_)))))))
  by_cases h29 : p0 ≤ 0
  refine Sk rfl rfl (decide_eq_true h29) rfl (Sk rfl rfl (decide_eq_true h29) rfl (WL.val (v := .bool true) rfl (Yl.pickT rfl (decide_eq_true h29) rfl) (WL.nil (Fin.then (Wp.cond1 rfl rfl (Wp.seq (Wp.region (Kn (v := .agg #[.bool false, .nilFunc, .nilFunc, .nilFunc, .nilFunc]) rfl rfl rfl (fun _ => by kernel_rfl) ?_))))))))
  have H30 : Own w D w27 [blk g21 [.bool false, .nilFunc, .nilFunc, .nilFunc, .nilFunc] 65, blk g24 [.bool false, .nilFunc, .nilFunc, .nilFunc, .nilFunc, .bool false, .func (.func 43) #[] #[], .func (.func 44) #[] #[], .func (.func 45) #[] #[], .func (.func 46) #[] #[], .bool true, .func (.func 47) #[] #[], .func (.func 48) #[] #[], .func (.func 45) #[] #[], .func (.func 49) #[] #[], .bool true, .func (.func 43) #[] #[], .func (.func 44) #[] #[], .func (.func 45) #[] #[], .func (.func 50) #[] #[], .bool false, .func (.func 51) #[] #[], .func (.func 52) #[] #[], .func (.func 53) #[] #[], .func (.func 54) #[] #[], .bool true, .func (.func 55) #[] #[], .func (.func 56) #[] #[], .func (.func 53) #[] #[], .func (.func 57) #[] #[]] 75] := H28.pick [1, 0] (by decide) rfl
  refine WL.do0 (Do.store (vs := [.bool false, .nilFunc, .nilFunc, .nilFunc, .nilFunc]) (o := 0) H30 rfl rfl Try.sizeOf65 rfl rfl rfl rfl ?_)
  intro w31 H32
  replace H32 : Own w D w31 [blk g21 [.bool false, .nilFunc, .nilFunc, .nilFunc, .nilFunc] 65, blk g24 [.bool false, .nilFunc, .nilFunc, .nilFunc, .nilFunc, .bool false, .func (.func 43) #[] #[], .func (.func 44) #[] #[], .func (.func 45) #[] #[], .func (.func 46) #[] #[], .bool true, .func (.func 47) #[] #[], .func (.func 48) #[] #[], .func (.func 45) #[] #[], .func (.func 49) #[] #[], .bool true, .func (.func 43) #[] #[], .func (.func 44) #[] #[], .func (.func 45) #[] #[], .func (.func 50) #[] #[], .bool false, .func (.func 51) #[] #[], .func (.func 52) #[] #[], .func (.func 53) #[] #[], .func (.func 54) #[] #[], .bool true, .func (.func 55) #[] #[], .func (.func 56) #[] #[], .func (.func 53) #[] #[], .func (.func 57) #[] #[]] 75] := H32
  refine As rfl rfl (WL.nil (Fin.then (Wp.ret (Fin.thenR (Fin.res (resN (vs := [.agg #[.bool false, .nilFunc, .nilFunc, .nilFunc, .nilFunc], .bool false]) rfl (ResV.cell rfl (Lds.agg (cs := [.bool false, .nilFunc, .nilFunc, .nilFunc, .nilFunc]) Try.isAgg65 Try.sizeOf65 ((H32.cls (i := 0) rfl).lit (k := 0) (m := 5) rfl)) (ResV.tmp rfl ResV.nil)) (Nat.le_of_ble_eq_true rfl)) ?_)))))
  have H33 : Own w D w31 [] := H32.pick [] (by decide) rfl
  exact ⟨rfl, H33⟩
  refine WL.valG (v := .int .i64 p0) rfl rfl (decide_eq_false h29) rfl (Yl.move rfl) (WL.valG (v := .bool (decide (p0 ≥ 6))) rfl rfl (decide_eq_false h29) rfl (Yl.kern rfl rfl (fun _ => by kernel_rfl)) (WL.val (v := .bool (decide (p0 ≥ 6))) rfl (Yl.pickF rfl (decide_eq_false h29) rfl) (WL.nil (Fin.then ?_))))
  have hb34 : (decide (p0 ≥ 6)) = true := (decide_eq_true (by omega))
  refine Wp.cond1 rfl hb34 (Wp.seq (Wp.region (Kn (v := .agg #[.bool false, .nilFunc, .nilFunc, .nilFunc, .nilFunc]) rfl rfl rfl (fun _ => by kernel_rfl) ?_)))
  have H35 : Own w D w27 [blk g21 [.bool false, .nilFunc, .nilFunc, .nilFunc, .nilFunc] 65, blk g24 [.bool false, .nilFunc, .nilFunc, .nilFunc, .nilFunc, .bool false, .func (.func 43) #[] #[], .func (.func 44) #[] #[], .func (.func 45) #[] #[], .func (.func 46) #[] #[], .bool true, .func (.func 47) #[] #[], .func (.func 48) #[] #[], .func (.func 45) #[] #[], .func (.func 49) #[] #[], .bool true, .func (.func 43) #[] #[], .func (.func 44) #[] #[], .func (.func 45) #[] #[], .func (.func 50) #[] #[], .bool false, .func (.func 51) #[] #[], .func (.func 52) #[] #[], .func (.func 53) #[] #[], .func (.func 54) #[] #[], .bool true, .func (.func 55) #[] #[], .func (.func 56) #[] #[], .func (.func 53) #[] #[], .func (.func 57) #[] #[]] 75] := H28.pick [1, 0] (by decide) rfl
  refine WL.do0 (Do.store (vs := [.bool false, .nilFunc, .nilFunc, .nilFunc, .nilFunc]) (o := 0) H35 rfl rfl Try.sizeOf65 rfl rfl rfl rfl ?_)
  intro w36 H37
  replace H37 : Own w D w36 [blk g21 [.bool false, .nilFunc, .nilFunc, .nilFunc, .nilFunc] 65, blk g24 [.bool false, .nilFunc, .nilFunc, .nilFunc, .nilFunc, .bool false, .func (.func 43) #[] #[], .func (.func 44) #[] #[], .func (.func 45) #[] #[], .func (.func 46) #[] #[], .bool true, .func (.func 47) #[] #[], .func (.func 48) #[] #[], .func (.func 45) #[] #[], .func (.func 49) #[] #[], .bool true, .func (.func 43) #[] #[], .func (.func 44) #[] #[], .func (.func 45) #[] #[], .func (.func 50) #[] #[], .bool false, .func (.func 51) #[] #[], .func (.func 52) #[] #[], .func (.func 53) #[] #[], .func (.func 54) #[] #[], .bool true, .func (.func 55) #[] #[], .func (.func 56) #[] #[], .func (.func 53) #[] #[], .func (.func 57) #[] #[]] 75] := H37
  refine As rfl rfl (WL.nil (Fin.then (Wp.ret (Fin.thenR (Fin.res (resN (vs := [.agg #[.bool false, .nilFunc, .nilFunc, .nilFunc, .nilFunc], .bool false]) rfl (ResV.cell rfl (Lds.agg (cs := [.bool false, .nilFunc, .nilFunc, .nilFunc, .nilFunc]) Try.isAgg65 Try.sizeOf65 ((H37.cls (i := 0) rfl).lit (k := 0) (m := 5) rfl)) (ResV.tmp rfl ResV.nil)) (Nat.le_of_ble_eq_true rfl)) ?_)))))
  have H38 : Own w D w36 [] := H37.pick [] (by decide) rfl
  exact ⟨rfl, H38⟩

def op_CheckOp (p0 : OpD) : Int :=
  if p0.xKind = 1 then bnd (op_ownKey p0) fun yr46 => if (yr46.xKind = p0.xKind) ∧ (yr46.xKey = p0.xKey) ∧ (yr46.xValue = p0.xValue) ∧ (yr46.xLo = p0.xLo) ∧ (yr46.xHi = p0.xHi) ∧ (yr46.xMost = p0.xMost) then bnd (op_checkKey p0) fun yr57 => yr57 else 40 else if p0.xKind = 2 then bnd (op_ownPair p0) fun yr86 => if (yr86.xKind = p0.xKind) ∧ (yr86.xKey = p0.xKey) ∧ (yr86.xValue = p0.xValue) ∧ (yr86.xLo = p0.xLo) ∧ (yr86.xHi = p0.xHi) ∧ (yr86.xMost = p0.xMost) then bnd (op_checkPair p0) fun yr97 => yr97 else 40 else if p0.xKind = 3 then bnd (op_ownKey p0) fun yr126 => if (yr126.xKind = p0.xKind) ∧ (yr126.xKey = p0.xKey) ∧ (yr126.xValue = p0.xValue) ∧ (yr126.xLo = p0.xLo) ∧ (yr126.xHi = p0.xHi) ∧ (yr126.xMost = p0.xMost) then bnd (op_checkKey p0) fun yr137 => yr137 else 40 else if p0.xKind = 4 then bnd (op_ownScan p0) fun yr166 => if (yr166.xKind = p0.xKind) ∧ (yr166.xKey = p0.xKey) ∧ (yr166.xValue = p0.xValue) ∧ (yr166.xLo = p0.xLo) ∧ (yr166.xHi = p0.xHi) ∧ (yr166.xMost = p0.xMost) then bnd (op_checkScan p0) fun yr177 => yr177 else 40 else if p0.xKind = 5 then bnd (op_ownRange p0) fun yr206 => if (yr206.xKind = p0.xKind) ∧ (yr206.xKey = p0.xKey) ∧ (yr206.xValue = p0.xValue) ∧ (yr206.xLo = p0.xLo) ∧ (yr206.xHi = p0.xHi) ∧ (yr206.xMost = p0.xMost) then bnd (op_checkRange p0) fun yr217 => yr217 else 40 else 40

set_option maxRecDepth 100000 in
theorem op_CheckOp_ok (w : World) (D : Nat → Prop) (p0 : OpD) (r0 : Int) (H : Own w D w [])  (hr : op_CheckOp p0 = r0) :
    Calls Try.prog 15 #[.agg (OpD.cells p0).toArray] w (Ret fun v w' => v = .int .i64 r0 ∧ Own w D w' [] ∧ (¬ (r0 = 0) ∨ (1 ≤ p0.xKind ∧ p0.xKind ≤ 5))) := by
  refine Calls.body (args := [.agg (OpD.cells p0).toArray]) Try.func15 rfl rfl rfl ?_
  show Wp _ _ _ [(0, .agg (OpD.cells p0).toArray)] _ _
  refine Wp.seq (Wp.region ?_)
  refine WL.do rfl (Do.newP (cs := (OpD.cells p0)) (t := 23) H rfl rfl (fun _ => by kernel_rfl) ?_)
  intro g21 w22 H23
  replace H23 : Own w D w22 [blk g21 (OpD.cells p0) 23] := H23
  refine As rfl rfl (WL.nil (Fin.then (Wp.seq (Wp.region (Kn (v := .pointer (some ⟨g21, 0, none⟩)) rfl rfl rfl (fun _ => by kernel_rfl) (WL.val (v := .int .i64 p0.xKind) rfl (Yl.load rfl (Lds.one Try.isAgg3 (Cls.of (H23.cls (i := 0) rfl) rfl))) ?_))))))
  by_cases h24 : p0.xKind = 1
  obtain ⟨D25, HP26, ro27, bk28, rr29⟩ := Own.enter0 H23
  refine WL.do rfl (Do.call Try.call30 rfl (op_kindOf_1_ok _ _ p0.xKind HP26 (of_decide_eq_true (decide_eq_true h24))) ?_)
  rintro _ w31 ⟨rfl, HQ32⟩
  have H33 : Own w D w31 [blk g21 (OpD.cells p0) 23] := bk28 _ _ HQ32
  refine Mv rfl rfl (Kn (v := .agg #[.bool false, .func (.func 43) #[] #[], .func (.func 44) #[] #[], .func (.func 45) #[] #[], .func (.func 46) #[] #[]]) rfl rfl rfl (fun _ => by kernel_rfl) (Kn (v := .bool true) rfl rfl rfl (fun _ => by kernel_rfl) ?_))
  refine WL.do rfl (Do.newP (cs := [.bool false, .nilFunc, .nilFunc, .nilFunc, .nilFunc]) (t := 65) H33 rfl rfl (fun _ => by kernel_rfl) ?_)
  intro g34 w35 H36
  replace H36 : Own w D w35 [blk g34 [.bool false, .nilFunc, .nilFunc, .nilFunc, .nilFunc] 65, blk g21 (OpD.cells p0) 23] := H36
  refine WL.do0 (Do.store (vs := [.bool false, .func (.func 43) #[] #[], .func (.func 44) #[] #[], .func (.func 45) #[] #[], .func (.func 46) #[] #[]]) (o := 0) H36 rfl rfl Try.sizeOf65 rfl rfl rfl rfl ?_)
  intro w37 H38
  replace H38 : Own w D w37 [blk g34 [.bool false, .func (.func 43) #[] #[], .func (.func 44) #[] #[], .func (.func 45) #[] #[], .func (.func 46) #[] #[]] 65, blk g21 (OpD.cells p0) 23] := H38
  refine As rfl rfl (WL.nil (Fin.then (Wp.seq (Wp.seq ?_))))
  have H40 := H38.drew
  refine Wp.drawnX [] (fun W => ∃ L', Own w D W ([blk g34 [.bool false, .func (.func 43) #[] #[], .func (.func 44) #[] #[], .func (.func 45) #[] #[], .func (.func 46) #[] #[]] 65, blk g21 (OpD.cells p0) 23] ++ L')) (by kernel_rfl) (by kernel_rfl) (NoP.then (NoP.then NoP.base)) ⟨_, H40⟩ ?_
  revert H40
  generalize World.drew w37 = w39
  intro H40
  replace H40 : Own w D w39 [blk g34 [.bool false, .func (.func 43) #[] #[], .func (.func 44) #[] #[], .func (.func 45) #[] #[], .func (.func 46) #[] #[]] 65, blk g21 (OpD.cells p0) 23] := H40
  refine GX.take (v := .bool true) (rs := []) 0 rfl (by kernel_rfl) (fun _ _ => Yl.move rfl) (GX.take (v := .bool false) (rs := []) 1 rfl (by kernel_rfl) (fun _ _ => Yl.kern rfl rfl (fun _ => by kernel_rfl)) (GX.take (v := .bool false) (rs := []) 2 rfl (by kernel_rfl) (fun _ _ => Yl.move rfl) (GX.takeG (v := .pointer (some ⟨g34, 1, none⟩)) (rs := []) 3 rfl rfl rfl rfl (by kernel_rfl) (fun _ _ => Yl.kern rfl rfl (fun _ => by kernel_rfl)) (GX.takeG (v := .func (.func 43) #[] #[]) (rs := []) 4 rfl rfl rfl rfl (by kernel_rfl) (fun _ ⟨_, H9⟩ => Yl.load rfl (Lds.one Try.isAgg61 (Cls.of (H9.cls (i := 0) rfl) rfl))) (GX.takeG (v := .agg (OpD.cells p0).toArray) (rs := []) 5 rfl rfl rfl rfl (by kernel_rfl) (fun _ ⟨_, H9⟩ => Yl.load rfl (Lds.agg (cs := (OpD.cells p0)) Try.isAgg23 Try.sizeOf23 ((H9.cls (i := 1) rfl).lit (k := 0) (m := 6) rfl))) (GX.takeG (v := .agg (OpD.cells p0).toArray) (rs := []) 7 rfl rfl rfl rfl (by kernel_rfl) (fun _ ⟨_, H9⟩ => Yl.load rfl (Lds.agg (cs := (OpD.cells p0)) Try.isAgg23 Try.sizeOf23 ((H9.cls (i := 1) rfl).lit (k := 0) (m := 6) rfl))) ?_))))))
  obtain ⟨r46, hr47⟩ : ∃ q, op_ownKey p0 = q := ⟨_, rfl⟩
  obtain ⟨D41, HP42, ro43, bk44, rr45⟩ := Own.enter0 H40
  refine GX.doG 6 rfl rfl rfl rfl (by kernel_rfl) (Do.callV Try.call43 rfl rfl (op_ownKey_ok _ _ p0 r46 HP42 hr47) ?_)
  rintro _ w48 ⟨rfl, HQ49⟩
  have H50 : Own w D w48 [blk g34 [.bool false, .func (.func 43) #[] #[], .func (.func 44) #[] #[], .func (.func 45) #[] #[], .func (.func 46) #[] #[]] 65, blk g21 (OpD.cells p0) 23] := bk44 _ _ HQ49
  refine ⟨.inr ⟨_, H50⟩, ?_⟩
  refine GX.takeG (v := .bool (decide (¬ ((r46.xKind = p0.xKind) ∧ (r46.xKey = p0.xKey) ∧ (r46.xValue = p0.xValue) ∧ (r46.xLo = p0.xLo) ∧ (r46.xHi = p0.xHi) ∧ (r46.xMost = p0.xMost))))) (rs := []) 8 rfl rfl rfl rfl (by kernel_rfl) (fun _ _ => Yl.bool (e := !(decide ((r46.xKind = p0.xKind) ∧ (r46.xKey = p0.xKey) ∧ (r46.xValue = p0.xValue) ∧ (r46.xLo = p0.xLo) ∧ (r46.xHi = p0.xHi) ∧ (r46.xMost = p0.xMost)))) (Yl.neAgg rfl rfl (by kernel_rfl) rfl (Eqv.struct Try.underlying23 (by kernel_rfl) (EqF.dec (EqF.cons (u := .int .i64 r46.xKind) (v := .int .i64 p0.xKind) (by decide) (fun _ => by kernel_rfl) (fun _ => by kernel_rfl) (Eqv.int Try.underlying3) (EqF.cons (u := .string ⟨List.toArray r46.xKey⟩) (v := .string ⟨List.toArray p0.xKey⟩) (by decide) (fun _ => by kernel_rfl) (fun _ => by kernel_rfl) (Eqv.string Try.underlying9) (EqF.cons (u := .string ⟨List.toArray r46.xValue⟩) (v := .string ⟨List.toArray p0.xValue⟩) (by decide) (fun _ => by kernel_rfl) (fun _ => by kernel_rfl) (Eqv.string Try.underlying9) (EqF.cons (u := .string ⟨List.toArray r46.xLo⟩) (v := .string ⟨List.toArray p0.xLo⟩) (by decide) (fun _ => by kernel_rfl) (fun _ => by kernel_rfl) (Eqv.string Try.underlying9) (EqF.cons (u := .string ⟨List.toArray r46.xHi⟩) (v := .string ⟨List.toArray p0.xHi⟩) (by decide) (fun _ => by kernel_rfl) (fun _ => by kernel_rfl) (Eqv.string Try.underlying9) (EqF.cons (u := .int .i64 r46.xMost) (v := .int .i64 p0.xMost) (by decide) (fun _ => by kernel_rfl) (fun _ => by kernel_rfl) (Eqv.int Try.underlying3) (EqF.nil.up (Nat.zero_le _)))))))) ((congrArg (decide (r46.xKind = p0.xKind) && ·) ((congrArg (decide (r46.xKey = p0.xKey) && ·) ((congrArg (decide (r46.xValue = p0.xValue) && ·) ((congrArg (decide (r46.xLo = p0.xLo) && ·) ((congrArg (decide (r46.xHi = p0.xHi) && ·) and_dec1).trans and_dec)).trans and_dec)).trans and_dec)).trans and_dec)).trans and_dec)))) decide_not.symm) (GX.take (v := .bool (decide (¬ ((r46.xKind = p0.xKind) ∧ (r46.xKey = p0.xKey) ∧ (r46.xValue = p0.xValue) ∧ (r46.xLo = p0.xLo) ∧ (r46.xHi = p0.xHi) ∧ (r46.xMost = p0.xMost))))) (rs := []) 9 rfl (by kernel_rfl) (fun _ _ => Yl.pickF rfl rfl rfl) (GX.done (by kernel_rfl) (Fin.then ?_)))
  by_cases h51 : (r46.xKind = p0.xKind) ∧ (r46.xKey = p0.xKey) ∧ (r46.xValue = p0.xValue) ∧ (r46.xLo = p0.xLo) ∧ (r46.xHi = p0.xHi) ∧ (r46.xMost = p0.xMost)
  refine Wp.cond0 rfl (decide_eq_false (not_not_intro h51)) (Wp.skip (Fin.then (Wp.seq (Wp.region (Kn (v := .pointer (some ⟨g34, 2, none⟩)) rfl rfl rfl (fun _ => by kernel_rfl) (WL.val (v := .func (.func 44) #[] #[]) rfl (Yl.load rfl (Lds.one Try.isAgg37 (Cls.of (H50.cls (i := 0) rfl) rfl))) (WL.val (v := .agg (OpD.cells p0).toArray) rfl (Yl.load rfl (Lds.agg (cs := (OpD.cells p0)) Try.isAgg23 Try.sizeOf23 ((H50.cls (i := 1) rfl).lit (k := 0) (m := 6) rfl))) ?_)))))))
  obtain ⟨r57, hr58⟩ : ∃ q, op_checkKey p0 = q := ⟨_, rfl⟩
  obtain ⟨D52, HP53, ro54, bk55, rr56⟩ := Own.enter0 H50
  refine WL.do rfl (Do.callV Try.call44 rfl rfl (op_checkKey_ok _ _ p0 r57 HP53 hr58) ?_)
  rintro _ w59 ⟨rfl, HQ60⟩
  have H61 : Own w D w59 [blk g34 [.bool false, .func (.func 43) #[] #[], .func (.func 44) #[] #[], .func (.func 45) #[] #[], .func (.func 46) #[] #[]] 65, blk g21 (OpD.cells p0) 23] := bk55 _ _ HQ60
  refine As rfl rfl (WL.nil (Fin.then (Wp.ret (Fin.res (res1 rfl rfl) ?_))))
  have H62 : Own w D w59 [] := H61.pick [] (by decide) rfl
  have e : op_CheckOp p0 = r57 := Eq.trans (if_pos h24) (Eq.trans (bnd_of hr47) (Eq.trans (if_pos h51) (bnd_of hr58)))
  obtain rfl := e.symm.trans hr
  exact ⟨rfl, H62, (by omega)⟩
  refine Wp.cond1 rfl (decide_eq_true h51) (Wp.seq (Wp.region (As rfl rfl (WL.nil (Fin.then (Wp.ret (Fin.thenR (Fin.res (res1 rfl rfl) ?_))))))))
  have H63 : Own w D w48 [] := H50.pick [] (by decide) rfl
  have e : op_CheckOp p0 = 40 := Eq.trans (if_pos h24) (Eq.trans (bnd_of hr47) (if_neg h51))
  obtain rfl := e.symm.trans hr
  exact ⟨rfl, H63, (by omega)⟩
  by_cases h64 : p0.xKind = 2
  obtain ⟨D65, HP66, ro67, bk68, rr69⟩ := Own.enter0 H23
  refine WL.do rfl (Do.call Try.call30 rfl (op_kindOf_2_ok _ _ p0.xKind HP66 (of_decide_eq_true (decide_eq_true h64))) ?_)
  rintro _ w71 ⟨rfl, HQ72⟩
  have H73 : Own w D w71 [blk g21 (OpD.cells p0) 23] := bk68 _ _ HQ72
  refine Mv rfl rfl (Kn (v := .agg #[.bool true, .func (.func 47) #[] #[], .func (.func 48) #[] #[], .func (.func 45) #[] #[], .func (.func 49) #[] #[]]) rfl rfl rfl (fun _ => by kernel_rfl) (Kn (v := .bool true) rfl rfl rfl (fun _ => by kernel_rfl) ?_))
  refine WL.do rfl (Do.newP (cs := [.bool false, .nilFunc, .nilFunc, .nilFunc, .nilFunc]) (t := 65) H73 rfl rfl (fun _ => by kernel_rfl) ?_)
  intro g74 w75 H76
  replace H76 : Own w D w75 [blk g74 [.bool false, .nilFunc, .nilFunc, .nilFunc, .nilFunc] 65, blk g21 (OpD.cells p0) 23] := H76
  refine WL.do0 (Do.store (vs := [.bool true, .func (.func 47) #[] #[], .func (.func 48) #[] #[], .func (.func 45) #[] #[], .func (.func 49) #[] #[]]) (o := 0) H76 rfl rfl Try.sizeOf65 rfl rfl rfl rfl ?_)
  intro w77 H78
  replace H78 : Own w D w77 [blk g74 [.bool true, .func (.func 47) #[] #[], .func (.func 48) #[] #[], .func (.func 45) #[] #[], .func (.func 49) #[] #[]] 65, blk g21 (OpD.cells p0) 23] := H78
  refine As rfl rfl (WL.nil (Fin.then (Wp.seq (Wp.seq ?_))))
  have H80 := H78.drew
  refine Wp.drawnX [] (fun W => ∃ L', Own w D W ([blk g74 [.bool true, .func (.func 47) #[] #[], .func (.func 48) #[] #[], .func (.func 45) #[] #[], .func (.func 49) #[] #[]] 65, blk g21 (OpD.cells p0) 23] ++ L')) (by kernel_rfl) (by kernel_rfl) (NoP.then (NoP.then NoP.base)) ⟨_, H80⟩ ?_
  revert H80
  generalize World.drew w77 = w79
  intro H80
  replace H80 : Own w D w79 [blk g74 [.bool true, .func (.func 47) #[] #[], .func (.func 48) #[] #[], .func (.func 45) #[] #[], .func (.func 49) #[] #[]] 65, blk g21 (OpD.cells p0) 23] := H80
  refine GX.take (v := .bool true) (rs := []) 0 rfl (by kernel_rfl) (fun _ _ => Yl.move rfl) (GX.take (v := .bool false) (rs := []) 1 rfl (by kernel_rfl) (fun _ _ => Yl.kern rfl rfl (fun _ => by kernel_rfl)) (GX.take (v := .bool false) (rs := []) 2 rfl (by kernel_rfl) (fun _ _ => Yl.move rfl) (GX.takeG (v := .pointer (some ⟨g74, 1, none⟩)) (rs := []) 3 rfl rfl rfl rfl (by kernel_rfl) (fun _ _ => Yl.kern rfl rfl (fun _ => by kernel_rfl)) (GX.takeG (v := .func (.func 47) #[] #[]) (rs := []) 4 rfl rfl rfl rfl (by kernel_rfl) (fun _ ⟨_, H9⟩ => Yl.load rfl (Lds.one Try.isAgg61 (Cls.of (H9.cls (i := 0) rfl) rfl))) (GX.takeG (v := .agg (OpD.cells p0).toArray) (rs := []) 5 rfl rfl rfl rfl (by kernel_rfl) (fun _ ⟨_, H9⟩ => Yl.load rfl (Lds.agg (cs := (OpD.cells p0)) Try.isAgg23 Try.sizeOf23 ((H9.cls (i := 1) rfl).lit (k := 0) (m := 6) rfl))) (GX.takeG (v := .agg (OpD.cells p0).toArray) (rs := []) 7 rfl rfl rfl rfl (by kernel_rfl) (fun _ ⟨_, H9⟩ => Yl.load rfl (Lds.agg (cs := (OpD.cells p0)) Try.isAgg23 Try.sizeOf23 ((H9.cls (i := 1) rfl).lit (k := 0) (m := 6) rfl))) ?_))))))
  obtain ⟨r86, hr87⟩ : ∃ q, op_ownPair p0 = q := ⟨_, rfl⟩
  obtain ⟨D81, HP82, ro83, bk84, rr85⟩ := Own.enter0 H80
  refine GX.doG 6 rfl rfl rfl rfl (by kernel_rfl) (Do.callV Try.call47 rfl rfl (op_ownPair_ok _ _ p0 r86 HP82 hr87) ?_)
  rintro _ w88 ⟨rfl, HQ89⟩
  have H90 : Own w D w88 [blk g74 [.bool true, .func (.func 47) #[] #[], .func (.func 48) #[] #[], .func (.func 45) #[] #[], .func (.func 49) #[] #[]] 65, blk g21 (OpD.cells p0) 23] := bk84 _ _ HQ89
  refine ⟨.inr ⟨_, H90⟩, ?_⟩
  refine GX.takeG (v := .bool (decide (¬ ((r86.xKind = p0.xKind) ∧ (r86.xKey = p0.xKey) ∧ (r86.xValue = p0.xValue) ∧ (r86.xLo = p0.xLo) ∧ (r86.xHi = p0.xHi) ∧ (r86.xMost = p0.xMost))))) (rs := []) 8 rfl rfl rfl rfl (by kernel_rfl) (fun _ _ => Yl.bool (e := !(decide ((r86.xKind = p0.xKind) ∧ (r86.xKey = p0.xKey) ∧ (r86.xValue = p0.xValue) ∧ (r86.xLo = p0.xLo) ∧ (r86.xHi = p0.xHi) ∧ (r86.xMost = p0.xMost)))) (Yl.neAgg rfl rfl (by kernel_rfl) rfl (Eqv.struct Try.underlying23 (by kernel_rfl) (EqF.dec (EqF.cons (u := .int .i64 r86.xKind) (v := .int .i64 p0.xKind) (by decide) (fun _ => by kernel_rfl) (fun _ => by kernel_rfl) (Eqv.int Try.underlying3) (EqF.cons (u := .string ⟨List.toArray r86.xKey⟩) (v := .string ⟨List.toArray p0.xKey⟩) (by decide) (fun _ => by kernel_rfl) (fun _ => by kernel_rfl) (Eqv.string Try.underlying9) (EqF.cons (u := .string ⟨List.toArray r86.xValue⟩) (v := .string ⟨List.toArray p0.xValue⟩) (by decide) (fun _ => by kernel_rfl) (fun _ => by kernel_rfl) (Eqv.string Try.underlying9) (EqF.cons (u := .string ⟨List.toArray r86.xLo⟩) (v := .string ⟨List.toArray p0.xLo⟩) (by decide) (fun _ => by kernel_rfl) (fun _ => by kernel_rfl) (Eqv.string Try.underlying9) (EqF.cons (u := .string ⟨List.toArray r86.xHi⟩) (v := .string ⟨List.toArray p0.xHi⟩) (by decide) (fun _ => by kernel_rfl) (fun _ => by kernel_rfl) (Eqv.string Try.underlying9) (EqF.cons (u := .int .i64 r86.xMost) (v := .int .i64 p0.xMost) (by decide) (fun _ => by kernel_rfl) (fun _ => by kernel_rfl) (Eqv.int Try.underlying3) (EqF.nil.up (Nat.zero_le _)))))))) ((congrArg (decide (r86.xKind = p0.xKind) && ·) ((congrArg (decide (r86.xKey = p0.xKey) && ·) ((congrArg (decide (r86.xValue = p0.xValue) && ·) ((congrArg (decide (r86.xLo = p0.xLo) && ·) ((congrArg (decide (r86.xHi = p0.xHi) && ·) and_dec1).trans and_dec)).trans and_dec)).trans and_dec)).trans and_dec)).trans and_dec)))) decide_not.symm) (GX.take (v := .bool (decide (¬ ((r86.xKind = p0.xKind) ∧ (r86.xKey = p0.xKey) ∧ (r86.xValue = p0.xValue) ∧ (r86.xLo = p0.xLo) ∧ (r86.xHi = p0.xHi) ∧ (r86.xMost = p0.xMost))))) (rs := []) 9 rfl (by kernel_rfl) (fun _ _ => Yl.pickF rfl rfl rfl) (GX.done (by kernel_rfl) (Fin.then ?_)))
  by_cases h91 : (r86.xKind = p0.xKind) ∧ (r86.xKey = p0.xKey) ∧ (r86.xValue = p0.xValue) ∧ (r86.xLo = p0.xLo) ∧ (r86.xHi = p0.xHi) ∧ (r86.xMost = p0.xMost)
  refine Wp.cond0 rfl (decide_eq_false (not_not_intro h91)) (Wp.skip (Fin.then (Wp.seq (Wp.region (Kn (v := .pointer (some ⟨g74, 2, none⟩)) rfl rfl rfl (fun _ => by kernel_rfl) (WL.val (v := .func (.func 48) #[] #[]) rfl (Yl.load rfl (Lds.one Try.isAgg37 (Cls.of (H90.cls (i := 0) rfl) rfl))) (WL.val (v := .agg (OpD.cells p0).toArray) rfl (Yl.load rfl (Lds.agg (cs := (OpD.cells p0)) Try.isAgg23 Try.sizeOf23 ((H90.cls (i := 1) rfl).lit (k := 0) (m := 6) rfl))) ?_)))))))
  obtain ⟨r97, hr98⟩ : ∃ q, op_checkPair p0 = q := ⟨_, rfl⟩
  obtain ⟨D92, HP93, ro94, bk95, rr96⟩ := Own.enter0 H90
  refine WL.do rfl (Do.callV Try.call48 rfl rfl (op_checkPair_ok _ _ p0 r97 HP93 hr98) ?_)
  rintro _ w99 ⟨rfl, HQ100⟩
  have H101 : Own w D w99 [blk g74 [.bool true, .func (.func 47) #[] #[], .func (.func 48) #[] #[], .func (.func 45) #[] #[], .func (.func 49) #[] #[]] 65, blk g21 (OpD.cells p0) 23] := bk95 _ _ HQ100
  refine As rfl rfl (WL.nil (Fin.then (Wp.ret (Fin.res (res1 rfl rfl) ?_))))
  have H102 : Own w D w99 [] := H101.pick [] (by decide) rfl
  have e : op_CheckOp p0 = r97 := Eq.trans (if_neg h24) (Eq.trans (if_pos h64) (Eq.trans (bnd_of hr87) (Eq.trans (if_pos h91) (bnd_of hr98))))
  obtain rfl := e.symm.trans hr
  exact ⟨rfl, H102, (by omega)⟩
  refine Wp.cond1 rfl (decide_eq_true h91) (Wp.seq (Wp.region (As rfl rfl (WL.nil (Fin.then (Wp.ret (Fin.thenR (Fin.res (res1 rfl rfl) ?_))))))))
  have H103 : Own w D w88 [] := H90.pick [] (by decide) rfl
  have e : op_CheckOp p0 = 40 := Eq.trans (if_neg h24) (Eq.trans (if_pos h64) (Eq.trans (bnd_of hr87) (if_neg h91)))
  obtain rfl := e.symm.trans hr
  exact ⟨rfl, H103, (by omega)⟩
  by_cases h104 : p0.xKind = 3
  obtain ⟨D105, HP106, ro107, bk108, rr109⟩ := Own.enter0 H23
  refine WL.do rfl (Do.call Try.call30 rfl (op_kindOf_3_ok _ _ p0.xKind HP106 (of_decide_eq_true (decide_eq_true h104))) ?_)
  rintro _ w111 ⟨rfl, HQ112⟩
  have H113 : Own w D w111 [blk g21 (OpD.cells p0) 23] := bk108 _ _ HQ112
  refine Mv rfl rfl (Kn (v := .agg #[.bool true, .func (.func 43) #[] #[], .func (.func 44) #[] #[], .func (.func 45) #[] #[], .func (.func 50) #[] #[]]) rfl rfl rfl (fun _ => by kernel_rfl) (Kn (v := .bool true) rfl rfl rfl (fun _ => by kernel_rfl) ?_))
  refine WL.do rfl (Do.newP (cs := [.bool false, .nilFunc, .nilFunc, .nilFunc, .nilFunc]) (t := 65) H113 rfl rfl (fun _ => by kernel_rfl) ?_)
  intro g114 w115 H116
  replace H116 : Own w D w115 [blk g114 [.bool false, .nilFunc, .nilFunc, .nilFunc, .nilFunc] 65, blk g21 (OpD.cells p0) 23] := H116
  refine WL.do0 (Do.store (vs := [.bool true, .func (.func 43) #[] #[], .func (.func 44) #[] #[], .func (.func 45) #[] #[], .func (.func 50) #[] #[]]) (o := 0) H116 rfl rfl Try.sizeOf65 rfl rfl rfl rfl ?_)
  intro w117 H118
  replace H118 : Own w D w117 [blk g114 [.bool true, .func (.func 43) #[] #[], .func (.func 44) #[] #[], .func (.func 45) #[] #[], .func (.func 50) #[] #[]] 65, blk g21 (OpD.cells p0) 23] := H118
  refine As rfl rfl (WL.nil (Fin.then (Wp.seq (Wp.seq ?_))))
  have H120 := H118.drew
  refine Wp.drawnX [] (fun W => ∃ L', Own w D W ([blk g114 [.bool true, .func (.func 43) #[] #[], .func (.func 44) #[] #[], .func (.func 45) #[] #[], .func (.func 50) #[] #[]] 65, blk g21 (OpD.cells p0) 23] ++ L')) (by kernel_rfl) (by kernel_rfl) (NoP.then (NoP.then NoP.base)) ⟨_, H120⟩ ?_
  revert H120
  generalize World.drew w117 = w119
  intro H120
  replace H120 : Own w D w119 [blk g114 [.bool true, .func (.func 43) #[] #[], .func (.func 44) #[] #[], .func (.func 45) #[] #[], .func (.func 50) #[] #[]] 65, blk g21 (OpD.cells p0) 23] := H120
  refine GX.take (v := .bool true) (rs := []) 0 rfl (by kernel_rfl) (fun _ _ => Yl.move rfl) (GX.take (v := .bool false) (rs := []) 1 rfl (by kernel_rfl) (fun _ _ => Yl.kern rfl rfl (fun _ => by kernel_rfl)) (GX.take (v := .bool false) (rs := []) 2 rfl (by kernel_rfl) (fun _ _ => Yl.move rfl) (GX.takeG (v := .pointer (some ⟨g114, 1, none⟩)) (rs := []) 3 rfl rfl rfl rfl (by kernel_rfl) (fun _ _ => Yl.kern rfl rfl (fun _ => by kernel_rfl)) (GX.takeG (v := .func (.func 43) #[] #[]) (rs := []) 4 rfl rfl rfl rfl (by kernel_rfl) (fun _ ⟨_, H9⟩ => Yl.load rfl (Lds.one Try.isAgg61 (Cls.of (H9.cls (i := 0) rfl) rfl))) (GX.takeG (v := .agg (OpD.cells p0).toArray) (rs := []) 5 rfl rfl rfl rfl (by kernel_rfl) (fun _ ⟨_, H9⟩ => Yl.load rfl (Lds.agg (cs := (OpD.cells p0)) Try.isAgg23 Try.sizeOf23 ((H9.cls (i := 1) rfl).lit (k := 0) (m := 6) rfl))) (GX.takeG (v := .agg (OpD.cells p0).toArray) (rs := []) 7 rfl rfl rfl rfl (by kernel_rfl) (fun _ ⟨_, H9⟩ => Yl.load rfl (Lds.agg (cs := (OpD.cells p0)) Try.isAgg23 Try.sizeOf23 ((H9.cls (i := 1) rfl).lit (k := 0) (m := 6) rfl))) ?_))))))
  obtain ⟨r126, hr127⟩ : ∃ q, op_ownKey p0 = q := ⟨_, rfl⟩
  obtain ⟨D121, HP122, ro123, bk124, rr125⟩ := Own.enter0 H120
  refine GX.doG 6 rfl rfl rfl rfl (by kernel_rfl) (Do.callV Try.call43 rfl rfl (op_ownKey_ok _ _ p0 r126 HP122 hr127) ?_)
  rintro _ w128 ⟨rfl, HQ129⟩
  have H130 : Own w D w128 [blk g114 [.bool true, .func (.func 43) #[] #[], .func (.func 44) #[] #[], .func (.func 45) #[] #[], .func (.func 50) #[] #[]] 65, blk g21 (OpD.cells p0) 23] := bk124 _ _ HQ129
  refine ⟨.inr ⟨_, H130⟩, ?_⟩
  refine GX.takeG (v := .bool (decide (¬ ((r126.xKind = p0.xKind) ∧ (r126.xKey = p0.xKey) ∧ (r126.xValue = p0.xValue) ∧ (r126.xLo = p0.xLo) ∧ (r126.xHi = p0.xHi) ∧ (r126.xMost = p0.xMost))))) (rs := []) 8 rfl rfl rfl rfl (by kernel_rfl) (fun _ _ => Yl.bool (e := !(decide ((r126.xKind = p0.xKind) ∧ (r126.xKey = p0.xKey) ∧ (r126.xValue = p0.xValue) ∧ (r126.xLo = p0.xLo) ∧ (r126.xHi = p0.xHi) ∧ (r126.xMost = p0.xMost)))) (Yl.neAgg rfl rfl (by kernel_rfl) rfl (Eqv.struct Try.underlying23 (by kernel_rfl) (EqF.dec (EqF.cons (u := .int .i64 r126.xKind) (v := .int .i64 p0.xKind) (by decide) (fun _ => by kernel_rfl) (fun _ => by kernel_rfl) (Eqv.int Try.underlying3) (EqF.cons (u := .string ⟨List.toArray r126.xKey⟩) (v := .string ⟨List.toArray p0.xKey⟩) (by decide) (fun _ => by kernel_rfl) (fun _ => by kernel_rfl) (Eqv.string Try.underlying9) (EqF.cons (u := .string ⟨List.toArray r126.xValue⟩) (v := .string ⟨List.toArray p0.xValue⟩) (by decide) (fun _ => by kernel_rfl) (fun _ => by kernel_rfl) (Eqv.string Try.underlying9) (EqF.cons (u := .string ⟨List.toArray r126.xLo⟩) (v := .string ⟨List.toArray p0.xLo⟩) (by decide) (fun _ => by kernel_rfl) (fun _ => by kernel_rfl) (Eqv.string Try.underlying9) (EqF.cons (u := .string ⟨List.toArray r126.xHi⟩) (v := .string ⟨List.toArray p0.xHi⟩) (by decide) (fun _ => by kernel_rfl) (fun _ => by kernel_rfl) (Eqv.string Try.underlying9) (EqF.cons (u := .int .i64 r126.xMost) (v := .int .i64 p0.xMost) (by decide) (fun _ => by kernel_rfl) (fun _ => by kernel_rfl) (Eqv.int Try.underlying3) (EqF.nil.up (Nat.zero_le _)))))))) ((congrArg (decide (r126.xKind = p0.xKind) && ·) ((congrArg (decide (r126.xKey = p0.xKey) && ·) ((congrArg (decide (r126.xValue = p0.xValue) && ·) ((congrArg (decide (r126.xLo = p0.xLo) && ·) ((congrArg (decide (r126.xHi = p0.xHi) && ·) and_dec1).trans and_dec)).trans and_dec)).trans and_dec)).trans and_dec)).trans and_dec)))) decide_not.symm) (GX.take (v := .bool (decide (¬ ((r126.xKind = p0.xKind) ∧ (r126.xKey = p0.xKey) ∧ (r126.xValue = p0.xValue) ∧ (r126.xLo = p0.xLo) ∧ (r126.xHi = p0.xHi) ∧ (r126.xMost = p0.xMost))))) (rs := []) 9 rfl (by kernel_rfl) (fun _ _ => Yl.pickF rfl rfl rfl) (GX.done (by kernel_rfl) (Fin.then ?_)))
  by_cases h131 : (r126.xKind = p0.xKind) ∧ (r126.xKey = p0.xKey) ∧ (r126.xValue = p0.xValue) ∧ (r126.xLo = p0.xLo) ∧ (r126.xHi = p0.xHi) ∧ (r126.xMost = p0.xMost)
  refine Wp.cond0 rfl (decide_eq_false (not_not_intro h131)) (Wp.skip (Fin.then (Wp.seq (Wp.region (Kn (v := .pointer (some ⟨g114, 2, none⟩)) rfl rfl rfl (fun _ => by kernel_rfl) (WL.val (v := .func (.func 44) #[] #[]) rfl (Yl.load rfl (Lds.one Try.isAgg37 (Cls.of (H130.cls (i := 0) rfl) rfl))) (WL.val (v := .agg (OpD.cells p0).toArray) rfl (Yl.load rfl (Lds.agg (cs := (OpD.cells p0)) Try.isAgg23 Try.sizeOf23 ((H130.cls (i := 1) rfl).lit (k := 0) (m := 6) rfl))) ?_)))))))
  obtain ⟨r137, hr138⟩ : ∃ q, op_checkKey p0 = q := ⟨_, rfl⟩
  obtain ⟨D132, HP133, ro134, bk135, rr136⟩ := Own.enter0 H130
  refine WL.do rfl (Do.callV Try.call44 rfl rfl (op_checkKey_ok _ _ p0 r137 HP133 hr138) ?_)
  rintro _ w139 ⟨rfl, HQ140⟩
  have H141 : Own w D w139 [blk g114 [.bool true, .func (.func 43) #[] #[], .func (.func 44) #[] #[], .func (.func 45) #[] #[], .func (.func 50) #[] #[]] 65, blk g21 (OpD.cells p0) 23] := bk135 _ _ HQ140
  refine As rfl rfl (WL.nil (Fin.then (Wp.ret (Fin.res (res1 rfl rfl) ?_))))
  have H142 : Own w D w139 [] := H141.pick [] (by decide) rfl
  have e : op_CheckOp p0 = r137 := Eq.trans (if_neg h24) (Eq.trans (if_neg h64) (Eq.trans (if_pos h104) (Eq.trans (bnd_of hr127) (Eq.trans (if_pos h131) (bnd_of hr138)))))
  obtain rfl := e.symm.trans hr
  exact ⟨rfl, H142, (by omega)⟩
  refine Wp.cond1 rfl (decide_eq_true h131) (Wp.seq (Wp.region (As rfl rfl (WL.nil (Fin.then (Wp.ret (Fin.thenR (Fin.res (res1 rfl rfl) ?_))))))))
  have H143 : Own w D w128 [] := H130.pick [] (by decide) rfl
  have e : op_CheckOp p0 = 40 := Eq.trans (if_neg h24) (Eq.trans (if_neg h64) (Eq.trans (if_pos h104) (Eq.trans (bnd_of hr127) (if_neg h131))))
  obtain rfl := e.symm.trans hr
  exact ⟨rfl, H143, (by omega)⟩
  by_cases h144 : p0.xKind = 4
  obtain ⟨D145, HP146, ro147, bk148, rr149⟩ := Own.enter0 H23
  refine WL.do rfl (Do.call Try.call30 rfl (op_kindOf_4_ok _ _ p0.xKind HP146 (of_decide_eq_true (decide_eq_true h144))) ?_)
  rintro _ w151 ⟨rfl, HQ152⟩
  have H153 : Own w D w151 [blk g21 (OpD.cells p0) 23] := bk148 _ _ HQ152
  refine Mv rfl rfl (Kn (v := .agg #[.bool false, .func (.func 51) #[] #[], .func (.func 52) #[] #[], .func (.func 53) #[] #[], .func (.func 54) #[] #[]]) rfl rfl rfl (fun _ => by kernel_rfl) (Kn (v := .bool true) rfl rfl rfl (fun _ => by kernel_rfl) ?_))
  refine WL.do rfl (Do.newP (cs := [.bool false, .nilFunc, .nilFunc, .nilFunc, .nilFunc]) (t := 65) H153 rfl rfl (fun _ => by kernel_rfl) ?_)
  intro g154 w155 H156
  replace H156 : Own w D w155 [blk g154 [.bool false, .nilFunc, .nilFunc, .nilFunc, .nilFunc] 65, blk g21 (OpD.cells p0) 23] := H156
  refine WL.do0 (Do.store (vs := [.bool false, .func (.func 51) #[] #[], .func (.func 52) #[] #[], .func (.func 53) #[] #[], .func (.func 54) #[] #[]]) (o := 0) H156 rfl rfl Try.sizeOf65 rfl rfl rfl rfl ?_)
  intro w157 H158
  replace H158 : Own w D w157 [blk g154 [.bool false, .func (.func 51) #[] #[], .func (.func 52) #[] #[], .func (.func 53) #[] #[], .func (.func 54) #[] #[]] 65, blk g21 (OpD.cells p0) 23] := H158
  refine As rfl rfl (WL.nil (Fin.then (Wp.seq (Wp.seq ?_))))
  have H160 := H158.drew
  refine Wp.drawnX [] (fun W => ∃ L', Own w D W ([blk g154 [.bool false, .func (.func 51) #[] #[], .func (.func 52) #[] #[], .func (.func 53) #[] #[], .func (.func 54) #[] #[]] 65, blk g21 (OpD.cells p0) 23] ++ L')) (by kernel_rfl) (by kernel_rfl) (NoP.then (NoP.then NoP.base)) ⟨_, H160⟩ ?_
  revert H160
  generalize World.drew w157 = w159
  intro H160
  replace H160 : Own w D w159 [blk g154 [.bool false, .func (.func 51) #[] #[], .func (.func 52) #[] #[], .func (.func 53) #[] #[], .func (.func 54) #[] #[]] 65, blk g21 (OpD.cells p0) 23] := H160
  refine GX.take (v := .bool true) (rs := []) 0 rfl (by kernel_rfl) (fun _ _ => Yl.move rfl) (GX.take (v := .bool false) (rs := []) 1 rfl (by kernel_rfl) (fun _ _ => Yl.kern rfl rfl (fun _ => by kernel_rfl)) (GX.take (v := .bool false) (rs := []) 2 rfl (by kernel_rfl) (fun _ _ => Yl.move rfl) (GX.takeG (v := .pointer (some ⟨g154, 1, none⟩)) (rs := []) 3 rfl rfl rfl rfl (by kernel_rfl) (fun _ _ => Yl.kern rfl rfl (fun _ => by kernel_rfl)) (GX.takeG (v := .func (.func 51) #[] #[]) (rs := []) 4 rfl rfl rfl rfl (by kernel_rfl) (fun _ ⟨_, H9⟩ => Yl.load rfl (Lds.one Try.isAgg61 (Cls.of (H9.cls (i := 0) rfl) rfl))) (GX.takeG (v := .agg (OpD.cells p0).toArray) (rs := []) 5 rfl rfl rfl rfl (by kernel_rfl) (fun _ ⟨_, H9⟩ => Yl.load rfl (Lds.agg (cs := (OpD.cells p0)) Try.isAgg23 Try.sizeOf23 ((H9.cls (i := 1) rfl).lit (k := 0) (m := 6) rfl))) (GX.takeG (v := .agg (OpD.cells p0).toArray) (rs := []) 7 rfl rfl rfl rfl (by kernel_rfl) (fun _ ⟨_, H9⟩ => Yl.load rfl (Lds.agg (cs := (OpD.cells p0)) Try.isAgg23 Try.sizeOf23 ((H9.cls (i := 1) rfl).lit (k := 0) (m := 6) rfl))) ?_))))))
  obtain ⟨r166, hr167⟩ : ∃ q, op_ownScan p0 = q := ⟨_, rfl⟩
  obtain ⟨D161, HP162, ro163, bk164, rr165⟩ := Own.enter0 H160
  refine GX.doG 6 rfl rfl rfl rfl (by kernel_rfl) (Do.callV Try.call51 rfl rfl (op_ownScan_ok _ _ p0 r166 HP162 hr167) ?_)
  rintro _ w168 ⟨rfl, HQ169⟩
  have H170 : Own w D w168 [blk g154 [.bool false, .func (.func 51) #[] #[], .func (.func 52) #[] #[], .func (.func 53) #[] #[], .func (.func 54) #[] #[]] 65, blk g21 (OpD.cells p0) 23] := bk164 _ _ HQ169
  refine ⟨.inr ⟨_, H170⟩, ?_⟩
  refine GX.takeG (v := .bool (decide (¬ ((r166.xKind = p0.xKind) ∧ (r166.xKey = p0.xKey) ∧ (r166.xValue = p0.xValue) ∧ (r166.xLo = p0.xLo) ∧ (r166.xHi = p0.xHi) ∧ (r166.xMost = p0.xMost))))) (rs := []) 8 rfl rfl rfl rfl (by kernel_rfl) (fun _ _ => Yl.bool (e := !(decide ((r166.xKind = p0.xKind) ∧ (r166.xKey = p0.xKey) ∧ (r166.xValue = p0.xValue) ∧ (r166.xLo = p0.xLo) ∧ (r166.xHi = p0.xHi) ∧ (r166.xMost = p0.xMost)))) (Yl.neAgg rfl rfl (by kernel_rfl) rfl (Eqv.struct Try.underlying23 (by kernel_rfl) (EqF.dec (EqF.cons (u := .int .i64 r166.xKind) (v := .int .i64 p0.xKind) (by decide) (fun _ => by kernel_rfl) (fun _ => by kernel_rfl) (Eqv.int Try.underlying3) (EqF.cons (u := .string ⟨List.toArray r166.xKey⟩) (v := .string ⟨List.toArray p0.xKey⟩) (by decide) (fun _ => by kernel_rfl) (fun _ => by kernel_rfl) (Eqv.string Try.underlying9) (EqF.cons (u := .string ⟨List.toArray r166.xValue⟩) (v := .string ⟨List.toArray p0.xValue⟩) (by decide) (fun _ => by kernel_rfl) (fun _ => by kernel_rfl) (Eqv.string Try.underlying9) (EqF.cons (u := .string ⟨List.toArray r166.xLo⟩) (v := .string ⟨List.toArray p0.xLo⟩) (by decide) (fun _ => by kernel_rfl) (fun _ => by kernel_rfl) (Eqv.string Try.underlying9) (EqF.cons (u := .string ⟨List.toArray r166.xHi⟩) (v := .string ⟨List.toArray p0.xHi⟩) (by decide) (fun _ => by kernel_rfl) (fun _ => by kernel_rfl) (Eqv.string Try.underlying9) (EqF.cons (u := .int .i64 r166.xMost) (v := .int .i64 p0.xMost) (by decide) (fun _ => by kernel_rfl) (fun _ => by kernel_rfl) (Eqv.int Try.underlying3) (EqF.nil.up (Nat.zero_le _)))))))) ((congrArg (decide (r166.xKind = p0.xKind) && ·) ((congrArg (decide (r166.xKey = p0.xKey) && ·) ((congrArg (decide (r166.xValue = p0.xValue) && ·) ((congrArg (decide (r166.xLo = p0.xLo) && ·) ((congrArg (decide (r166.xHi = p0.xHi) && ·) and_dec1).trans and_dec)).trans and_dec)).trans and_dec)).trans and_dec)).trans and_dec)))) decide_not.symm) (GX.take (v := .bool (decide (¬ ((r166.xKind = p0.xKind) ∧ (r166.xKey = p0.xKey) ∧ (r166.xValue = p0.xValue) ∧ (r166.xLo = p0.xLo) ∧ (r166.xHi = p0.xHi) ∧ (r166.xMost = p0.xMost))))) (rs := []) 9 rfl (by kernel_rfl) (fun _ _ => Yl.pickF rfl rfl rfl) (GX.done (by kernel_rfl) (Fin.then ?_)))
  by_cases h171 : (r166.xKind = p0.xKind) ∧ (r166.xKey = p0.xKey) ∧ (r166.xValue = p0.xValue) ∧ (r166.xLo = p0.xLo) ∧ (r166.xHi = p0.xHi) ∧ (r166.xMost = p0.xMost)
  refine Wp.cond0 rfl (decide_eq_false (not_not_intro h171)) (Wp.skip (Fin.then (Wp.seq (Wp.region (Kn (v := .pointer (some ⟨g154, 2, none⟩)) rfl rfl rfl (fun _ => by kernel_rfl) (WL.val (v := .func (.func 52) #[] #[]) rfl (Yl.load rfl (Lds.one Try.isAgg37 (Cls.of (H170.cls (i := 0) rfl) rfl))) (WL.val (v := .agg (OpD.cells p0).toArray) rfl (Yl.load rfl (Lds.agg (cs := (OpD.cells p0)) Try.isAgg23 Try.sizeOf23 ((H170.cls (i := 1) rfl).lit (k := 0) (m := 6) rfl))) ?_)))))))
  obtain ⟨r177, hr178⟩ : ∃ q, op_checkScan p0 = q := ⟨_, rfl⟩
  obtain ⟨D172, HP173, ro174, bk175, rr176⟩ := Own.enter0 H170
  refine WL.do rfl (Do.callV Try.call52 rfl rfl (op_checkScan_ok _ _ p0 r177 HP173 hr178) ?_)
  rintro _ w179 ⟨rfl, HQ180⟩
  have H181 : Own w D w179 [blk g154 [.bool false, .func (.func 51) #[] #[], .func (.func 52) #[] #[], .func (.func 53) #[] #[], .func (.func 54) #[] #[]] 65, blk g21 (OpD.cells p0) 23] := bk175 _ _ HQ180
  refine As rfl rfl (WL.nil (Fin.then (Wp.ret (Fin.res (res1 rfl rfl) ?_))))
  have H182 : Own w D w179 [] := H181.pick [] (by decide) rfl
  have e : op_CheckOp p0 = r177 := Eq.trans (if_neg h24) (Eq.trans (if_neg h64) (Eq.trans (if_neg h104) (Eq.trans (if_pos h144) (Eq.trans (bnd_of hr167) (Eq.trans (if_pos h171) (bnd_of hr178))))))
  obtain rfl := e.symm.trans hr
  exact ⟨rfl, H182, (by omega)⟩
  refine Wp.cond1 rfl (decide_eq_true h171) (Wp.seq (Wp.region (As rfl rfl (WL.nil (Fin.then (Wp.ret (Fin.thenR (Fin.res (res1 rfl rfl) ?_))))))))
  have H183 : Own w D w168 [] := H170.pick [] (by decide) rfl
  have e : op_CheckOp p0 = 40 := Eq.trans (if_neg h24) (Eq.trans (if_neg h64) (Eq.trans (if_neg h104) (Eq.trans (if_pos h144) (Eq.trans (bnd_of hr167) (if_neg h171)))))
  obtain rfl := e.symm.trans hr
  exact ⟨rfl, H183, (by omega)⟩
  by_cases h184 : p0.xKind = 5
  obtain ⟨D185, HP186, ro187, bk188, rr189⟩ := Own.enter0 H23
  refine WL.do rfl (Do.call Try.call30 rfl (op_kindOf_5_ok _ _ p0.xKind HP186 (of_decide_eq_true (decide_eq_true h184))) ?_)
  rintro _ w191 ⟨rfl, HQ192⟩
  have H193 : Own w D w191 [blk g21 (OpD.cells p0) 23] := bk188 _ _ HQ192
  refine Mv rfl rfl (Kn (v := .agg #[.bool true, .func (.func 55) #[] #[], .func (.func 56) #[] #[], .func (.func 53) #[] #[], .func (.func 57) #[] #[]]) rfl rfl rfl (fun _ => by kernel_rfl) (Kn (v := .bool true) rfl rfl rfl (fun _ => by kernel_rfl) ?_))
  refine WL.do rfl (Do.newP (cs := [.bool false, .nilFunc, .nilFunc, .nilFunc, .nilFunc]) (t := 65) H193 rfl rfl (fun _ => by kernel_rfl) ?_)
  intro g194 w195 H196
  replace H196 : Own w D w195 [blk g194 [.bool false, .nilFunc, .nilFunc, .nilFunc, .nilFunc] 65, blk g21 (OpD.cells p0) 23] := H196
  refine WL.do0 (Do.store (vs := [.bool true, .func (.func 55) #[] #[], .func (.func 56) #[] #[], .func (.func 53) #[] #[], .func (.func 57) #[] #[]]) (o := 0) H196 rfl rfl Try.sizeOf65 rfl rfl rfl rfl ?_)
  intro w197 H198
  replace H198 : Own w D w197 [blk g194 [.bool true, .func (.func 55) #[] #[], .func (.func 56) #[] #[], .func (.func 53) #[] #[], .func (.func 57) #[] #[]] 65, blk g21 (OpD.cells p0) 23] := H198
  refine As rfl rfl (WL.nil (Fin.then (Wp.seq (Wp.seq ?_))))
  have H200 := H198.drew
  refine Wp.drawnX [] (fun W => ∃ L', Own w D W ([blk g194 [.bool true, .func (.func 55) #[] #[], .func (.func 56) #[] #[], .func (.func 53) #[] #[], .func (.func 57) #[] #[]] 65, blk g21 (OpD.cells p0) 23] ++ L')) (by kernel_rfl) (by kernel_rfl) (NoP.then (NoP.then NoP.base)) ⟨_, H200⟩ ?_
  revert H200
  generalize World.drew w197 = w199
  intro H200
  replace H200 : Own w D w199 [blk g194 [.bool true, .func (.func 55) #[] #[], .func (.func 56) #[] #[], .func (.func 53) #[] #[], .func (.func 57) #[] #[]] 65, blk g21 (OpD.cells p0) 23] := H200
  refine GX.take (v := .bool true) (rs := []) 0 rfl (by kernel_rfl) (fun _ _ => Yl.move rfl) (GX.take (v := .bool false) (rs := []) 1 rfl (by kernel_rfl) (fun _ _ => Yl.kern rfl rfl (fun _ => by kernel_rfl)) (GX.take (v := .bool false) (rs := []) 2 rfl (by kernel_rfl) (fun _ _ => Yl.move rfl) (GX.takeG (v := .pointer (some ⟨g194, 1, none⟩)) (rs := []) 3 rfl rfl rfl rfl (by kernel_rfl) (fun _ _ => Yl.kern rfl rfl (fun _ => by kernel_rfl)) (GX.takeG (v := .func (.func 55) #[] #[]) (rs := []) 4 rfl rfl rfl rfl (by kernel_rfl) (fun _ ⟨_, H9⟩ => Yl.load rfl (Lds.one Try.isAgg61 (Cls.of (H9.cls (i := 0) rfl) rfl))) (GX.takeG (v := .agg (OpD.cells p0).toArray) (rs := []) 5 rfl rfl rfl rfl (by kernel_rfl) (fun _ ⟨_, H9⟩ => Yl.load rfl (Lds.agg (cs := (OpD.cells p0)) Try.isAgg23 Try.sizeOf23 ((H9.cls (i := 1) rfl).lit (k := 0) (m := 6) rfl))) (GX.takeG (v := .agg (OpD.cells p0).toArray) (rs := []) 7 rfl rfl rfl rfl (by kernel_rfl) (fun _ ⟨_, H9⟩ => Yl.load rfl (Lds.agg (cs := (OpD.cells p0)) Try.isAgg23 Try.sizeOf23 ((H9.cls (i := 1) rfl).lit (k := 0) (m := 6) rfl))) ?_))))))
  obtain ⟨r206, hr207⟩ : ∃ q, op_ownRange p0 = q := ⟨_, rfl⟩
  obtain ⟨D201, HP202, ro203, bk204, rr205⟩ := Own.enter0 H200
  refine GX.doG 6 rfl rfl rfl rfl (by kernel_rfl) (Do.callV Try.call55 rfl rfl (op_ownRange_ok _ _ p0 r206 HP202 hr207) ?_)
  rintro _ w208 ⟨rfl, HQ209⟩
  have H210 : Own w D w208 [blk g194 [.bool true, .func (.func 55) #[] #[], .func (.func 56) #[] #[], .func (.func 53) #[] #[], .func (.func 57) #[] #[]] 65, blk g21 (OpD.cells p0) 23] := bk204 _ _ HQ209
  refine ⟨.inr ⟨_, H210⟩, ?_⟩
  refine GX.takeG (v := .bool (decide (¬ ((r206.xKind = p0.xKind) ∧ (r206.xKey = p0.xKey) ∧ (r206.xValue = p0.xValue) ∧ (r206.xLo = p0.xLo) ∧ (r206.xHi = p0.xHi) ∧ (r206.xMost = p0.xMost))))) (rs := []) 8 rfl rfl rfl rfl (by kernel_rfl) (fun _ _ => Yl.bool (e := !(decide ((r206.xKind = p0.xKind) ∧ (r206.xKey = p0.xKey) ∧ (r206.xValue = p0.xValue) ∧ (r206.xLo = p0.xLo) ∧ (r206.xHi = p0.xHi) ∧ (r206.xMost = p0.xMost)))) (Yl.neAgg rfl rfl (by kernel_rfl) rfl (Eqv.struct Try.underlying23 (by kernel_rfl) (EqF.dec (EqF.cons (u := .int .i64 r206.xKind) (v := .int .i64 p0.xKind) (by decide) (fun _ => by kernel_rfl) (fun _ => by kernel_rfl) (Eqv.int Try.underlying3) (EqF.cons (u := .string ⟨List.toArray r206.xKey⟩) (v := .string ⟨List.toArray p0.xKey⟩) (by decide) (fun _ => by kernel_rfl) (fun _ => by kernel_rfl) (Eqv.string Try.underlying9) (EqF.cons (u := .string ⟨List.toArray r206.xValue⟩) (v := .string ⟨List.toArray p0.xValue⟩) (by decide) (fun _ => by kernel_rfl) (fun _ => by kernel_rfl) (Eqv.string Try.underlying9) (EqF.cons (u := .string ⟨List.toArray r206.xLo⟩) (v := .string ⟨List.toArray p0.xLo⟩) (by decide) (fun _ => by kernel_rfl) (fun _ => by kernel_rfl) (Eqv.string Try.underlying9) (EqF.cons (u := .string ⟨List.toArray r206.xHi⟩) (v := .string ⟨List.toArray p0.xHi⟩) (by decide) (fun _ => by kernel_rfl) (fun _ => by kernel_rfl) (Eqv.string Try.underlying9) (EqF.cons (u := .int .i64 r206.xMost) (v := .int .i64 p0.xMost) (by decide) (fun _ => by kernel_rfl) (fun _ => by kernel_rfl) (Eqv.int Try.underlying3) (EqF.nil.up (Nat.zero_le _)))))))) ((congrArg (decide (r206.xKind = p0.xKind) && ·) ((congrArg (decide (r206.xKey = p0.xKey) && ·) ((congrArg (decide (r206.xValue = p0.xValue) && ·) ((congrArg (decide (r206.xLo = p0.xLo) && ·) ((congrArg (decide (r206.xHi = p0.xHi) && ·) and_dec1).trans and_dec)).trans and_dec)).trans and_dec)).trans and_dec)).trans and_dec)))) decide_not.symm) (GX.take (v := .bool (decide (¬ ((r206.xKind = p0.xKind) ∧ (r206.xKey = p0.xKey) ∧ (r206.xValue = p0.xValue) ∧ (r206.xLo = p0.xLo) ∧ (r206.xHi = p0.xHi) ∧ (r206.xMost = p0.xMost))))) (rs := []) 9 rfl (by kernel_rfl) (fun _ _ => Yl.pickF rfl rfl rfl) (GX.done (by kernel_rfl) (Fin.then ?_)))
  by_cases h211 : (r206.xKind = p0.xKind) ∧ (r206.xKey = p0.xKey) ∧ (r206.xValue = p0.xValue) ∧ (r206.xLo = p0.xLo) ∧ (r206.xHi = p0.xHi) ∧ (r206.xMost = p0.xMost)
  refine Wp.cond0 rfl (decide_eq_false (not_not_intro h211)) (Wp.skip (Fin.then (Wp.seq (Wp.region (Kn (v := .pointer (some ⟨g194, 2, none⟩)) rfl rfl rfl (fun _ => by kernel_rfl) (WL.val (v := .func (.func 56) #[] #[]) rfl (Yl.load rfl (Lds.one Try.isAgg37 (Cls.of (H210.cls (i := 0) rfl) rfl))) (WL.val (v := .agg (OpD.cells p0).toArray) rfl (Yl.load rfl (Lds.agg (cs := (OpD.cells p0)) Try.isAgg23 Try.sizeOf23 ((H210.cls (i := 1) rfl).lit (k := 0) (m := 6) rfl))) ?_)))))))
  obtain ⟨r217, hr218⟩ : ∃ q, op_checkRange p0 = q := ⟨_, rfl⟩
  obtain ⟨D212, HP213, ro214, bk215, rr216⟩ := Own.enter0 H210
  refine WL.do rfl (Do.callV Try.call56 rfl rfl (op_checkRange_ok _ _ p0 r217 HP213 hr218) ?_)
  rintro _ w219 ⟨rfl, HQ220⟩
  have H221 : Own w D w219 [blk g194 [.bool true, .func (.func 55) #[] #[], .func (.func 56) #[] #[], .func (.func 53) #[] #[], .func (.func 57) #[] #[]] 65, blk g21 (OpD.cells p0) 23] := bk215 _ _ HQ220
  refine As rfl rfl (WL.nil (Fin.then (Wp.ret (Fin.res (res1 rfl rfl) ?_))))
  have H222 : Own w D w219 [] := H221.pick [] (by decide) rfl
  have e : op_CheckOp p0 = r217 := Eq.trans (if_neg h24) (Eq.trans (if_neg h64) (Eq.trans (if_neg h104) (Eq.trans (if_neg h144) (Eq.trans (if_pos h184) (Eq.trans (bnd_of hr207) (Eq.trans (if_pos h211) (bnd_of hr218)))))))
  obtain rfl := e.symm.trans hr
  exact ⟨rfl, H222, (by omega)⟩
  refine Wp.cond1 rfl (decide_eq_true h211) (Wp.seq (Wp.region (As rfl rfl (WL.nil (Fin.then (Wp.ret (Fin.thenR (Fin.res (res1 rfl rfl) ?_))))))))
  have H223 : Own w D w208 [] := H210.pick [] (by decide) rfl
  have e : op_CheckOp p0 = 40 := Eq.trans (if_neg h24) (Eq.trans (if_neg h64) (Eq.trans (if_neg h104) (Eq.trans (if_neg h144) (Eq.trans (if_pos h184) (Eq.trans (bnd_of hr207) (if_neg h211))))))
  obtain rfl := e.symm.trans hr
  exact ⟨rfl, H223, (by omega)⟩
  obtain ⟨D224, HP225, ro226, bk227, rr228⟩ := Own.enter0 H23
  refine WL.do rfl (Do.call Try.call30 rfl (op_kindOf_no_ok _ _ p0.xKind HP225 (by omega) (by omega) (by omega) (by omega) (by omega)) ?_)
  rintro _ w230 ⟨rfl, HQ231⟩
  have H232 : Own w D w230 [blk g21 (OpD.cells p0) 23] := bk227 _ _ HQ231
  refine Mv rfl rfl (Kn (v := .agg #[.bool false, .nilFunc, .nilFunc, .nilFunc, .nilFunc]) rfl rfl rfl (fun _ => by kernel_rfl) (Kn (v := .bool false) rfl rfl rfl (fun _ => by kernel_rfl) ?_))
  refine WL.do rfl (Do.newP (cs := [.bool false, .nilFunc, .nilFunc, .nilFunc, .nilFunc]) (t := 65) H232 rfl rfl (fun _ => by kernel_rfl) ?_)
  intro g233 w234 H235
  replace H235 : Own w D w234 [blk g233 [.bool false, .nilFunc, .nilFunc, .nilFunc, .nilFunc] 65, blk g21 (OpD.cells p0) 23] := H235
  refine WL.do0 (Do.store (vs := [.bool false, .nilFunc, .nilFunc, .nilFunc, .nilFunc]) (o := 0) H235 rfl rfl Try.sizeOf65 rfl rfl rfl rfl ?_)
  intro w236 H237
  replace H237 : Own w D w236 [blk g233 [.bool false, .nilFunc, .nilFunc, .nilFunc, .nilFunc] 65, blk g21 (OpD.cells p0) 23] := H237
  refine As rfl rfl (WL.nil (Fin.then (Wp.seq (Wp.seq ?_))))
  have H239 := H237.drew
  refine Wp.drawnX [] (fun W => ∃ L', Own w D W ([blk g233 [.bool false, .nilFunc, .nilFunc, .nilFunc, .nilFunc] 65, blk g21 (OpD.cells p0) 23] ++ L')) (by kernel_rfl) (by kernel_rfl) (NoP.then (NoP.then NoP.base)) ⟨_, H239⟩ ?_
  revert H239
  generalize World.drew w236 = w238
  intro H239
  replace H239 : Own w D w238 [blk g233 [.bool false, .nilFunc, .nilFunc, .nilFunc, .nilFunc] 65, blk g21 (OpD.cells p0) 23] := H239
  refine GX.take (v := .bool false) (rs := []) 0 rfl (by kernel_rfl) (fun _ _ => Yl.move rfl) (GX.take (v := .bool true) (rs := []) 1 rfl (by kernel_rfl) (fun _ _ => Yl.kern rfl rfl (fun _ => by kernel_rfl)) (GX.take (v := .bool true) (rs := []) 2 rfl (by kernel_rfl) (fun _ _ => Yl.move rfl) (GX.skipG (rs := []) 3 rfl rfl rfl rfl (by kernel_rfl) (GX.skipG (rs := []) 4 rfl rfl rfl rfl (by kernel_rfl) (GX.skipG (rs := []) 5 rfl rfl rfl rfl (by kernel_rfl) (GX.skipG (rs := []) 6 rfl rfl rfl rfl (by kernel_rfl) (GX.skipG (rs := []) 7 rfl rfl rfl rfl (by kernel_rfl) (GX.skipG (rs := []) 8 rfl rfl rfl rfl (by kernel_rfl) (GX.take (v := .bool true) (rs := []) 9 rfl (by kernel_rfl) (fun _ _ => Yl.pickT rfl rfl rfl) (GX.done (by kernel_rfl) (Fin.then (Wp.cond1 rfl rfl (Wp.seq (Wp.region (As rfl rfl (WL.nil (Fin.then (Wp.ret (Fin.thenR (Fin.res (res1 rfl rfl) ?_))))))))))))))))))))
  have H240 : Own w D w238 [] := H239.pick [] (by decide) rfl
  have e : op_CheckOp p0 = 40 := Eq.trans (if_neg h24) (Eq.trans (if_neg h64) (Eq.trans (if_neg h104) (Eq.trans (if_neg h144) (if_neg h184))))
  obtain rfl := e.symm.trans hr
  exact ⟨rfl, H240, (by omega)⟩

theorem El24 : Elem Try.prog 24 23 6 80 := elem_of (z := .agg #[.int .i64 0, .string ⟨List.toArray ([])⟩, .string ⟨List.toArray ([])⟩, .string ⟨List.toArray ([])⟩, .string ⟨List.toArray ([])⟩, .int .i64 0]) Try.underlying24 (by kernel_rfl) rfl (by decide)

def op_checkEach_L0 : List OpD → Unit ⊕ Int
  | [] => Sum.inl ()
  | x30 :: q22 => bnd (op_CheckOp x30) fun yr43 => if yr43 = 0 then op_checkEach_L0 q22 else Sum.inr (yr43)

def op_checkEach (l0 : List OpD) : Int :=
  lp (op_checkEach_L0 l0) fun _ => 0

set_option maxRecDepth 100000 in
theorem op_checkEach_ok (w : World) (D : Nat → Prop) (A0 : Option Addr) (n0 c0 : Nat) (l0 : List OpD) (r0 : Int) (H : Own w D w []) (hx0 : Ro w D fun w' => Rds w' 6 A0 n0 (List.flatMap OpD.cells l0)) (hn0 : n0 = List.length l0) (hl0 : List.length l0 * 80 ≤ 211106232532992) (hr : op_checkEach l0 = r0) :
    Calls Try.prog 32 #[.slice A0 n0 c0] w (Ret fun v w' => v = .int .i64 r0 ∧ Own w D w' []) := by
  subst hn0
  refine Calls.body (args := [.slice A0 (List.length l0) c0]) Try.func32 rfl rfl rfl ?_
  show Wp _ _ _ [(0, .slice A0 (List.length l0) c0)] _ _
  refine Wp.seq (Wp.region (As rfl rfl (WL.nil (Fin.then (Wp.seq (Wp.seq (Wp.region (Mv rfl rfl (Kn (v := .int .i64 ((List.length l0 : Nat) : Int)) rfl rfl rfl (fun _ => by kernel_rfl) (Mv rfl rfl (WL.nil (Fin.then (Wp.block ?_)))))))))))))
  have H23 : Own w D w [] := H.pick [] (by decide) rfl
  refine Wp.loop (ι := Nat) (fun i => [(2, .int .i64 0), (8, .int .i64 ((i : Nat) : Int)), (7, .int .i64 ((List.length l0 : Nat) : Int)), (6, .slice A0 (List.length l0) c0)]) (fun (i : Nat) w' => Own w D w' [] ∧ (i ≤ List.length l0 ∧ op_checkEach_L0 l0 = op_checkEach_L0 (List.drop i l0))) (fun i => List.length l0 - i) 0 ⟨rfl, rfl, rfl, rfl, trivial⟩ ⟨H23, (show 0 ≤ List.length l0 ∧ op_checkEach_L0 l0 = op_checkEach_L0 (List.drop 0 l0) from ⟨by omega, rfl⟩)⟩ ?_
  rintro k21 w24 ⟨H25, hf26⟩
  show Wp _ _ _ [(2, .int .i64 0), (8, .int .i64 ((k21 : Nat) : Int)), (7, .int .i64 ((List.length l0 : Nat) : Int)), (6, .slice A0 (List.length l0) c0)] _ _
  replace H25 : Own w D w24 [] := H25
  replace hf26 : k21 ≤ List.length l0 ∧ op_checkEach_L0 l0 = op_checkEach_L0 (List.drop k21 l0) := hf26
  obtain ⟨hi28, hq27⟩ := hf26
  refine Wp.seq (Wp.region (Kn (v := .bool (decide (((k21 : Nat) : Int) < ((List.length l0 : Nat) : Int)))) rfl rfl rfl (fun _ => by kernel_rfl) (WL.nil (Fin.then (Wp.seq ?_)))))
  by_cases h29 : ((k21 : Nat) : Int) < ((List.length l0 : Nat) : Int)
  obtain ⟨x30, hx31⟩ := rds_at (ls := l0) (i := k21) OpD.len (by decide) (H25.ro hx0) (by first | omega | (simp; done) | (simp; omega))
  have hd32 := drop_at hx31
  refine Wp.cond1 rfl (decide_eq_true h29) (Wp.skip (Fin.then (Wp.seq (Wp.block (Wp.seq (Wp.region (WL.val (v := .pointer (some ⟨ab A0, ao A0 + k21 * 6, none⟩)) rfl (Yl.indexAddr (El24) rfl rfl ((H25.ro hx0).addr (i := k21) (by omega)) (by omega)) (WL.val (v := .agg (OpD.cells x30).toArray) rfl (Yl.load rfl (Lds.agg (cs := (OpD.cells x30)) Try.isAgg23 Try.sizeOf23 ((H25.ro hx0).elem OpD.len hx31 (by decide)))) ?_))))))))
  refine WL.do rfl (Do.newP (cs := [.int .i64 0, .string ⟨List.toArray ([])⟩, .string ⟨List.toArray ([])⟩, .string ⟨List.toArray ([])⟩, .string ⟨List.toArray ([])⟩, .int .i64 0]) (t := 23) H25 rfl rfl (fun _ => by kernel_rfl) ?_)
  intro g33 w34 H35
  replace H35 : Own w D w34 [blk g33 [.int .i64 0, .string ⟨List.toArray ([])⟩, .string ⟨List.toArray ([])⟩, .string ⟨List.toArray ([])⟩, .string ⟨List.toArray ([])⟩, .int .i64 0] 23] := H35
  refine WL.do0 (Do.store (vs := (OpD.cells x30)) (o := 0) H35 rfl rfl Try.sizeOf23 rfl rfl rfl rfl ?_)
  intro w36 H37
  replace H37 : Own w D w36 [blk g33 (OpD.cells x30) 23] := H37
  refine WL.nil (Fin.then (Wp.seq (Wp.region (WL.val (v := .agg (OpD.cells x30).toArray) rfl (Yl.load rfl (Lds.agg (cs := (OpD.cells x30)) Try.isAgg23 Try.sizeOf23 ((H37.cls (i := 0) rfl).lit (k := 0) (m := 6) rfl))) ?_))))
  obtain ⟨r43, hr44⟩ : ∃ q, op_CheckOp x30 = q := ⟨_, rfl⟩
  obtain ⟨D38, HP39, ro40, bk41, rr42⟩ := Own.enter0 H37
  refine WL.do rfl (Do.call Try.call15 rfl (op_CheckOp_ok _ _ x30 r43 HP39 hr44) ?_)
  rintro _ w45 ⟨rfl, HQ46, hk48⟩
  have H47 : Own w D w45 [blk g33 (OpD.cells x30) 23] := bk41 _ _ HQ46
  replace hk48 : ¬ (r43 = 0) ∨ (1 ≤ x30.xKind ∧ x30.xKind ≤ 5) := hk48
  refine As rfl rfl (WL.nil (Fin.then (Wp.seq (Wp.region (Mv rfl rfl (WL.val (v := .bool (decide (¬ (r43 = 0)))) rfl (Yl.bool (e := !(decide (r43 = 0))) (Yl.kern rfl rfl (fun _ => by kernel_rfl)) decide_not.symm) (WL.nil (Fin.then ?_))))))))
  by_cases h49 : r43 = 0
  refine Wp.cond0 rfl (decide_eq_false (not_not_intro h49)) (Wp.skip (Fin.blockN (Fin.then (Wp.region (WL.val (v := .int .i64 ((k21 + 1 : Nat) : Int)) rfl (Yl.int (e := IntKind.i64.wrap (((k21 : Nat) : Int) + 1)) (Yl.kern rfl rfl (fun _ => by kernel_rfl)) (by rw [IntWalk.i64_in _ (by omega)]; omega)) (Mv rfl rfl (WL.nil ?_)))))))
  have H50 : Own w D w45 [] := H47.pick [] (by decide) rfl
  exact Fin.round (k21 + 1) ⟨rfl, rfl, rfl, rfl, trivial⟩ ⟨H50, (show (k21 + 1) ≤ List.length l0 ∧ op_checkEach_L0 l0 = op_checkEach_L0 (List.drop (k21 + 1) l0) from ⟨by omega, Eq.trans (hq27) (Eq.trans (congrArg (fun q => op_checkEach_L0 q) hd32) (Eq.trans (bnd_of hr44) (if_pos h49)))⟩)⟩ (by show List.length l0 - (k21 + 1) < List.length l0 - k21; omega)
  refine Wp.cond1 rfl (decide_eq_true h49) (Wp.seq (Wp.region (Mv rfl rfl (As rfl rfl (WL.nil (Fin.then (Wp.ret (Fin.blockR (Fin.thenR (Fin.thenR (Fin.blockR (Fin.thenR (Fin.res (res1 rfl rfl) ?_)))))))))))))
  have H51 : Own w D w45 [] := H47.pick [] (by decide) rfl
  have e : op_checkEach l0 = r43 := lp_r (Eq.trans (hq27) (Eq.trans (congrArg (fun q => op_checkEach_L0 q) hd32) (Eq.trans (bnd_of hr44) (if_neg h49))))
  obtain rfl := e.symm.trans hr
  exact ⟨rfl, H51⟩
  refine Wp.cond0 rfl (decide_eq_false h29) (Wp.exit (Fin.thenX ?_))
  have hL52 : op_checkEach_L0 l0 = Sum.inl () := Eq.trans (hq27) (congrArg (fun q => op_checkEach_L0 q) (drop_end (ls := l0) (i := k21) (by omega)))
  refine Fin.thenX (Fin.blockX (Fin.then (Wp.seq (Wp.region (As rfl rfl (WL.nil (Fin.then (Wp.ret (Fin.res (res1 rfl rfl) ?_)))))))))
  have H53 : Own w D w24 [] := H25.pick [] (by decide) rfl
  have e : op_checkEach l0 = 0 := lp_l hL52
  obtain rfl := e.symm.trans hr
  exact ⟨rfl, H53⟩

def op_Writes (p0 : OpD) : Bool :=
  if p0.xKind = 1 then false else if p0.xKind = 2 then true else if p0.xKind = 3 then true else if p0.xKind = 4 then false else if p0.xKind = 5 then true else false

set_option maxRecDepth 100000 in
theorem op_Writes_ok (w : World) (D : Nat → Prop) (p0 : OpD) (r0 : Bool) (H : Own w D w [])  (hr : op_Writes p0 = r0) :
    Calls Try.prog 21 #[.agg (OpD.cells p0).toArray] w (Ret fun v w' => v = .bool r0 ∧ Own w D w' []) := by
  refine Calls.body (args := [.agg (OpD.cells p0).toArray]) Try.func21 rfl rfl rfl ?_
  show Wp _ _ _ [(0, .agg (OpD.cells p0).toArray)] _ _
  refine Wp.seq (Wp.region ?_)
  refine WL.do rfl (Do.newP (cs := (OpD.cells p0)) (t := 23) H rfl rfl (fun _ => by kernel_rfl) ?_)
  intro g21 w22 H23
  replace H23 : Own w D w22 [blk g21 (OpD.cells p0) 23] := H23
  refine As rfl rfl (WL.nil (Fin.then (Wp.seq (Wp.region (Kn (v := .pointer (some ⟨g21, 0, none⟩)) rfl rfl rfl (fun _ => by kernel_rfl) (WL.val (v := .int .i64 p0.xKind) rfl (Yl.load rfl (Lds.one Try.isAgg3 (Cls.of (H23.cls (i := 0) rfl) rfl))) ?_))))))
  by_cases h24 : p0.xKind = 1
  obtain ⟨D25, HP26, ro27, bk28, rr29⟩ := Own.enter0 H23
  refine WL.do rfl (Do.call Try.call30 rfl (op_kindOf_1_ok _ _ p0.xKind HP26 (of_decide_eq_true (decide_eq_true h24))) ?_)
  rintro _ w31 ⟨rfl, HQ32⟩
  have H33 : Own w D w31 [blk g21 (OpD.cells p0) 23] := bk28 _ _ HQ32
  refine Mv rfl rfl (Kn (v := .agg #[.bool false, .func (.func 43) #[] #[], .func (.func 44) #[] #[], .func (.func 45) #[] #[], .func (.func 46) #[] #[]]) rfl rfl rfl (fun _ => by kernel_rfl) (Kn (v := .bool true) rfl rfl rfl (fun _ => by kernel_rfl) ?_))
  refine WL.do rfl (Do.newP (cs := [.bool false, .nilFunc, .nilFunc, .nilFunc, .nilFunc]) (t := 65) H33 rfl rfl (fun _ => by kernel_rfl) ?_)
  intro g34 w35 H36
  replace H36 : Own w D w35 [blk g34 [.bool false, .nilFunc, .nilFunc, .nilFunc, .nilFunc] 65, blk g21 (OpD.cells p0) 23] := H36
  refine WL.do0 (Do.store (vs := [.bool false, .func (.func 43) #[] #[], .func (.func 44) #[] #[], .func (.func 45) #[] #[], .func (.func 46) #[] #[]]) (o := 0) H36 rfl rfl Try.sizeOf65 rfl rfl rfl rfl ?_)
  intro w37 H38
  replace H38 : Own w D w37 [blk g34 [.bool false, .func (.func 43) #[] #[], .func (.func 44) #[] #[], .func (.func 45) #[] #[], .func (.func 46) #[] #[]] 65, blk g21 (OpD.cells p0) 23] := H38
  refine As rfl rfl (WL.nil (Fin.then (Wp.seq (Wp.region (Mv rfl rfl (Mv rfl rfl (WL.valG (v := .pointer (some ⟨g34, 0, none⟩)) rfl rfl rfl rfl (Yl.kern rfl rfl (fun _ => by kernel_rfl)) (WL.valG (v := .bool false) rfl rfl rfl rfl (Yl.load rfl (Lds.one Try.isAgg4 (Cls.of (H38.cls (i := 0) rfl) rfl))) (WL.val (v := .bool false) rfl (Yl.pickT rfl rfl rfl) (As rfl rfl (WL.nil (Fin.then (Wp.ret (Fin.res (res1 rfl rfl) ?_))))))))))))))
  have H39 : Own w D w37 [] := H38.pick [] (by decide) rfl
  have e : op_Writes p0 = false := if_pos h24
  obtain rfl := e.symm.trans hr
  exact ⟨rfl, H39⟩
  by_cases h40 : p0.xKind = 2
  obtain ⟨D41, HP42, ro43, bk44, rr45⟩ := Own.enter0 H23
  refine WL.do rfl (Do.call Try.call30 rfl (op_kindOf_2_ok _ _ p0.xKind HP42 (of_decide_eq_true (decide_eq_true h40))) ?_)
  rintro _ w47 ⟨rfl, HQ48⟩
  have H49 : Own w D w47 [blk g21 (OpD.cells p0) 23] := bk44 _ _ HQ48
  refine Mv rfl rfl (Kn (v := .agg #[.bool true, .func (.func 47) #[] #[], .func (.func 48) #[] #[], .func (.func 45) #[] #[], .func (.func 49) #[] #[]]) rfl rfl rfl (fun _ => by kernel_rfl) (Kn (v := .bool true) rfl rfl rfl (fun _ => by kernel_rfl) ?_))
  refine WL.do rfl (Do.newP (cs := [.bool false, .nilFunc, .nilFunc, .nilFunc, .nilFunc]) (t := 65) H49 rfl rfl (fun _ => by kernel_rfl) ?_)
  intro g50 w51 H52
  replace H52 : Own w D w51 [blk g50 [.bool false, .nilFunc, .nilFunc, .nilFunc, .nilFunc] 65, blk g21 (OpD.cells p0) 23] := H52
  refine WL.do0 (Do.store (vs := [.bool true, .func (.func 47) #[] #[], .func (.func 48) #[] #[], .func (.func 45) #[] #[], .func (.func 49) #[] #[]]) (o := 0) H52 rfl rfl Try.sizeOf65 rfl rfl rfl rfl ?_)
  intro w53 H54
  replace H54 : Own w D w53 [blk g50 [.bool true, .func (.func 47) #[] #[], .func (.func 48) #[] #[], .func (.func 45) #[] #[], .func (.func 49) #[] #[]] 65, blk g21 (OpD.cells p0) 23] := H54
  refine As rfl rfl (WL.nil (Fin.then (Wp.seq (Wp.region (Mv rfl rfl (Mv rfl rfl (WL.valG (v := .pointer (some ⟨g50, 0, none⟩)) rfl rfl rfl rfl (Yl.kern rfl rfl (fun _ => by kernel_rfl)) (WL.valG (v := .bool true) rfl rfl rfl rfl (Yl.load rfl (Lds.one Try.isAgg4 (Cls.of (H54.cls (i := 0) rfl) rfl))) (WL.val (v := .bool true) rfl (Yl.pickT rfl rfl rfl) (As rfl rfl (WL.nil (Fin.then (Wp.ret (Fin.res (res1 rfl rfl) ?_))))))))))))))
  have H55 : Own w D w53 [] := H54.pick [] (by decide) rfl
  have e : op_Writes p0 = true := Eq.trans (if_neg h24) (if_pos h40)
  obtain rfl := e.symm.trans hr
  exact ⟨rfl, H55⟩
  by_cases h56 : p0.xKind = 3
  obtain ⟨D57, HP58, ro59, bk60, rr61⟩ := Own.enter0 H23
  refine WL.do rfl (Do.call Try.call30 rfl (op_kindOf_3_ok _ _ p0.xKind HP58 (of_decide_eq_true (decide_eq_true h56))) ?_)
  rintro _ w63 ⟨rfl, HQ64⟩
  have H65 : Own w D w63 [blk g21 (OpD.cells p0) 23] := bk60 _ _ HQ64
  refine Mv rfl rfl (Kn (v := .agg #[.bool true, .func (.func 43) #[] #[], .func (.func 44) #[] #[], .func (.func 45) #[] #[], .func (.func 50) #[] #[]]) rfl rfl rfl (fun _ => by kernel_rfl) (Kn (v := .bool true) rfl rfl rfl (fun _ => by kernel_rfl) ?_))
  refine WL.do rfl (Do.newP (cs := [.bool false, .nilFunc, .nilFunc, .nilFunc, .nilFunc]) (t := 65) H65 rfl rfl (fun _ => by kernel_rfl) ?_)
  intro g66 w67 H68
  replace H68 : Own w D w67 [blk g66 [.bool false, .nilFunc, .nilFunc, .nilFunc, .nilFunc] 65, blk g21 (OpD.cells p0) 23] := H68
  refine WL.do0 (Do.store (vs := [.bool true, .func (.func 43) #[] #[], .func (.func 44) #[] #[], .func (.func 45) #[] #[], .func (.func 50) #[] #[]]) (o := 0) H68 rfl rfl Try.sizeOf65 rfl rfl rfl rfl ?_)
  intro w69 H70
  replace H70 : Own w D w69 [blk g66 [.bool true, .func (.func 43) #[] #[], .func (.func 44) #[] #[], .func (.func 45) #[] #[], .func (.func 50) #[] #[]] 65, blk g21 (OpD.cells p0) 23] := H70
  refine As rfl rfl (WL.nil (Fin.then (Wp.seq (Wp.region (Mv rfl rfl (Mv rfl rfl (WL.valG (v := .pointer (some ⟨g66, 0, none⟩)) rfl rfl rfl rfl (Yl.kern rfl rfl (fun _ => by kernel_rfl)) (WL.valG (v := .bool true) rfl rfl rfl rfl (Yl.load rfl (Lds.one Try.isAgg4 (Cls.of (H70.cls (i := 0) rfl) rfl))) (WL.val (v := .bool true) rfl (Yl.pickT rfl rfl rfl) (As rfl rfl (WL.nil (Fin.then (Wp.ret (Fin.res (res1 rfl rfl) ?_))))))))))))))
  have H71 : Own w D w69 [] := H70.pick [] (by decide) rfl
  have e : op_Writes p0 = true := Eq.trans (if_neg h24) (Eq.trans (if_neg h40) (if_pos h56))
  obtain rfl := e.symm.trans hr
  exact ⟨rfl, H71⟩
  by_cases h72 : p0.xKind = 4
  obtain ⟨D73, HP74, ro75, bk76, rr77⟩ := Own.enter0 H23
  refine WL.do rfl (Do.call Try.call30 rfl (op_kindOf_4_ok _ _ p0.xKind HP74 (of_decide_eq_true (decide_eq_true h72))) ?_)
  rintro _ w79 ⟨rfl, HQ80⟩
  have H81 : Own w D w79 [blk g21 (OpD.cells p0) 23] := bk76 _ _ HQ80
  refine Mv rfl rfl (Kn (v := .agg #[.bool false, .func (.func 51) #[] #[], .func (.func 52) #[] #[], .func (.func 53) #[] #[], .func (.func 54) #[] #[]]) rfl rfl rfl (fun _ => by kernel_rfl) (Kn (v := .bool true) rfl rfl rfl (fun _ => by kernel_rfl) ?_))
  refine WL.do rfl (Do.newP (cs := [.bool false, .nilFunc, .nilFunc, .nilFunc, .nilFunc]) (t := 65) H81 rfl rfl (fun _ => by kernel_rfl) ?_)
  intro g82 w83 H84
  replace H84 : Own w D w83 [blk g82 [.bool false, .nilFunc, .nilFunc, .nilFunc, .nilFunc] 65, blk g21 (OpD.cells p0) 23] := H84
  refine WL.do0 (Do.store (vs := [.bool false, .func (.func 51) #[] #[], .func (.func 52) #[] #[], .func (.func 53) #[] #[], .func (.func 54) #[] #[]]) (o := 0) H84 rfl rfl Try.sizeOf65 rfl rfl rfl rfl ?_)
  intro w85 H86
  replace H86 : Own w D w85 [blk g82 [.bool false, .func (.func 51) #[] #[], .func (.func 52) #[] #[], .func (.func 53) #[] #[], .func (.func 54) #[] #[]] 65, blk g21 (OpD.cells p0) 23] := H86
  refine As rfl rfl (WL.nil (Fin.then (Wp.seq (Wp.region (Mv rfl rfl (Mv rfl rfl (WL.valG (v := .pointer (some ⟨g82, 0, none⟩)) rfl rfl rfl rfl (Yl.kern rfl rfl (fun _ => by kernel_rfl)) (WL.valG (v := .bool false) rfl rfl rfl rfl (Yl.load rfl (Lds.one Try.isAgg4 (Cls.of (H86.cls (i := 0) rfl) rfl))) (WL.val (v := .bool false) rfl (Yl.pickT rfl rfl rfl) (As rfl rfl (WL.nil (Fin.then (Wp.ret (Fin.res (res1 rfl rfl) ?_))))))))))))))
  have H87 : Own w D w85 [] := H86.pick [] (by decide) rfl
  have e : op_Writes p0 = false := Eq.trans (if_neg h24) (Eq.trans (if_neg h40) (Eq.trans (if_neg h56) (if_pos h72)))
  obtain rfl := e.symm.trans hr
  exact ⟨rfl, H87⟩
  by_cases h88 : p0.xKind = 5
  obtain ⟨D89, HP90, ro91, bk92, rr93⟩ := Own.enter0 H23
  refine WL.do rfl (Do.call Try.call30 rfl (op_kindOf_5_ok _ _ p0.xKind HP90 (of_decide_eq_true (decide_eq_true h88))) ?_)
  rintro _ w95 ⟨rfl, HQ96⟩
  have H97 : Own w D w95 [blk g21 (OpD.cells p0) 23] := bk92 _ _ HQ96
  refine Mv rfl rfl (Kn (v := .agg #[.bool true, .func (.func 55) #[] #[], .func (.func 56) #[] #[], .func (.func 53) #[] #[], .func (.func 57) #[] #[]]) rfl rfl rfl (fun _ => by kernel_rfl) (Kn (v := .bool true) rfl rfl rfl (fun _ => by kernel_rfl) ?_))
  refine WL.do rfl (Do.newP (cs := [.bool false, .nilFunc, .nilFunc, .nilFunc, .nilFunc]) (t := 65) H97 rfl rfl (fun _ => by kernel_rfl) ?_)
  intro g98 w99 H100
  replace H100 : Own w D w99 [blk g98 [.bool false, .nilFunc, .nilFunc, .nilFunc, .nilFunc] 65, blk g21 (OpD.cells p0) 23] := H100
  refine WL.do0 (Do.store (vs := [.bool true, .func (.func 55) #[] #[], .func (.func 56) #[] #[], .func (.func 53) #[] #[], .func (.func 57) #[] #[]]) (o := 0) H100 rfl rfl Try.sizeOf65 rfl rfl rfl rfl ?_)
  intro w101 H102
  replace H102 : Own w D w101 [blk g98 [.bool true, .func (.func 55) #[] #[], .func (.func 56) #[] #[], .func (.func 53) #[] #[], .func (.func 57) #[] #[]] 65, blk g21 (OpD.cells p0) 23] := H102
  refine As rfl rfl (WL.nil (Fin.then (Wp.seq (Wp.region (Mv rfl rfl (Mv rfl rfl (WL.valG (v := .pointer (some ⟨g98, 0, none⟩)) rfl rfl rfl rfl (Yl.kern rfl rfl (fun _ => by kernel_rfl)) (WL.valG (v := .bool true) rfl rfl rfl rfl (Yl.load rfl (Lds.one Try.isAgg4 (Cls.of (H102.cls (i := 0) rfl) rfl))) (WL.val (v := .bool true) rfl (Yl.pickT rfl rfl rfl) (As rfl rfl (WL.nil (Fin.then (Wp.ret (Fin.res (res1 rfl rfl) ?_))))))))))))))
  have H103 : Own w D w101 [] := H102.pick [] (by decide) rfl
  have e : op_Writes p0 = true := Eq.trans (if_neg h24) (Eq.trans (if_neg h40) (Eq.trans (if_neg h56) (Eq.trans (if_neg h72) (if_pos h88))))
  obtain rfl := e.symm.trans hr
  exact ⟨rfl, H103⟩
  obtain ⟨D104, HP105, ro106, bk107, rr108⟩ := Own.enter0 H23
  refine WL.do rfl (Do.call Try.call30 rfl (op_kindOf_no_ok _ _ p0.xKind HP105 (by omega) (by omega) (by omega) (by omega) (by omega)) ?_)
  rintro _ w110 ⟨rfl, HQ111⟩
  have H112 : Own w D w110 [blk g21 (OpD.cells p0) 23] := bk107 _ _ HQ111
  refine Mv rfl rfl (Kn (v := .agg #[.bool false, .nilFunc, .nilFunc, .nilFunc, .nilFunc]) rfl rfl rfl (fun _ => by kernel_rfl) (Kn (v := .bool false) rfl rfl rfl (fun _ => by kernel_rfl) ?_))
  refine WL.do rfl (Do.newP (cs := [.bool false, .nilFunc, .nilFunc, .nilFunc, .nilFunc]) (t := 65) H112 rfl rfl (fun _ => by kernel_rfl) ?_)
  intro g113 w114 H115
  replace H115 : Own w D w114 [blk g113 [.bool false, .nilFunc, .nilFunc, .nilFunc, .nilFunc] 65, blk g21 (OpD.cells p0) 23] := H115
  refine WL.do0 (Do.store (vs := [.bool false, .nilFunc, .nilFunc, .nilFunc, .nilFunc]) (o := 0) H115 rfl rfl Try.sizeOf65 rfl rfl rfl rfl ?_)
  intro w116 H117
  replace H117 : Own w D w116 [blk g113 [.bool false, .nilFunc, .nilFunc, .nilFunc, .nilFunc] 65, blk g21 (OpD.cells p0) 23] := H117
  refine As rfl rfl (WL.nil (Fin.then (Wp.seq (Wp.region (Mv rfl rfl (Mv rfl rfl (Sk rfl rfl rfl rfl (Sk rfl rfl rfl rfl (WL.val (v := .bool false) rfl (Yl.pickF rfl rfl rfl) (As rfl rfl (WL.nil (Fin.then (Wp.ret (Fin.res (res1 rfl rfl) ?_))))))))))))))
  have H118 : Own w D w116 [] := H117.pick [] (by decide) rfl
  have e : op_Writes p0 = false := Eq.trans (if_neg h24) (Eq.trans (if_neg h40) (Eq.trans (if_neg h56) (Eq.trans (if_neg h72) (if_neg h88))))
  obtain rfl := e.symm.trans hr
  exact ⟨rfl, H118⟩

theorem El76 : Elem Try.prog 76 5 1 1 := elem_of (z := .int .u8 0) Try.underlying76 (by kernel_rfl) rfl (by decide)

def span_Point_L0 (p0 : List UInt8) : Nat → Int → Int
  | 0, z41 => default
  | q42 + 1, z41 => if z41 ≥ 0 then bnd (List.getD p0 (Int.toNat z41) default) fun yb55 => if ((yb55.toNat : Nat) : Int) = 255 then span_Point_L0 p0 q42 (z41 - 1) else z41 else z41

def span_Point (p0 : List UInt8) : RangeD × Int :=
  bnd (span_CheckKey p0) fun yr29 => if yr29 = 0 then if ((List.length p0 : Nat) : Int) < 12 then (RangeD.mk p0 (p0 ++ ([0])), 0) else bnd (bnd (span_Point_L0 p0 ((Int.toNat ((((List.length p0) - 1 : Nat) : Int) + 1)) + 1) (((List.length p0) - 1 : Nat) : Int)) fun sLrbtfJjL => sLrbtfJjL) fun sJrbtfJ => if sJrbtfJ < 0 then (RangeD.mk p0 ([]), 0) else bnd (List.getD p0 (Int.toNat sJrbtfJ) default) fun yb73 => (RangeD.mk p0 ((List.take (Int.toNat sJrbtfJ) p0) ++ ([(yb73 + (1 : UInt8))])), 0) else (RangeD.mk ([]) ([]), yr29)

set_option maxRecDepth 100000 in
theorem span_Point_ok (w : World) (D : Nat → Prop) (p0 : List UInt8) (r0 : RangeD) (r1 : Int) (H : Own w D w [])  (hr : span_Point p0 = (r0, r1)) :
    Calls Try.prog 61 #[.string ⟨List.toArray p0⟩] w (Ret fun v w' => v = .tuple #[.agg (RangeD.cells r0).toArray, .int .i64 r1] ∧ Own w D w' []) := by
  refine Calls.body (args := [.string ⟨List.toArray p0⟩]) Try.func61 rfl rfl rfl ?_
  show Wp _ _ _ [(0, .string ⟨List.toArray p0⟩)] _ _
  refine Wp.seq (Wp.region ?_)
  refine WL.do rfl (Do.newP (cs := [.string ⟨List.toArray ([])⟩, .string ⟨List.toArray ([])⟩]) (t := 28) H rfl rfl (fun _ => by kernel_rfl) ?_)
  intro g21 w22 H23
  replace H23 : Own w D w22 [blk g21 [.string ⟨List.toArray ([])⟩, .string ⟨List.toArray ([])⟩] 28] := H23
  refine As rfl rfl (WL.nil (Fin.then (Wp.seq (Wp.seq (Wp.region (Mv rfl rfl ?_))))))
  obtain ⟨r29, hr30⟩ : ∃ q, span_CheckKey p0 = q := ⟨_, rfl⟩
  obtain ⟨D24, HP25, ro26, bk27, rr28⟩ := Own.enter0 H23
  refine WL.do rfl (Do.call Try.call36 rfl (span_CheckKey_ok _ _ p0 r29 HP25 hr30) ?_)
  rintro _ w31 ⟨rfl, HQ32, hk34⟩
  have H33 : Own w D w31 [blk g21 [.string ⟨List.toArray ([])⟩, .string ⟨List.toArray ([])⟩] 28] := bk27 _ _ HQ32
  replace hk34 : ¬ (r29 = 0) ∨ (1 ≤ List.length p0 ∧ List.length p0 ≤ 12) := hk34
  refine As rfl rfl (WL.nil (Fin.then (Wp.seq (Wp.region (Mv rfl rfl (WL.val (v := .bool (decide (¬ (r29 = 0)))) rfl (Yl.bool (e := !(decide (r29 = 0))) (Yl.kern rfl rfl (fun _ => by kernel_rfl)) decide_not.symm) (WL.nil (Fin.then ?_))))))))
  by_cases h35 : r29 = 0
  refine Wp.cond0 rfl (decide_eq_false (not_not_intro h35)) (Wp.skip (Fin.then (Wp.seq (Wp.seq (Wp.region (Mv rfl rfl (Kn (v := .int .i64 ((List.length p0 : Nat) : Int)) rfl rfl rfl (fun _ => by kernel_rfl) (Kn (v := .bool (decide (((List.length p0 : Nat) : Int) < 12))) rfl rfl rfl (fun _ => by kernel_rfl) (WL.nil (Fin.then ?_))))))))))
  by_cases h36 : ((List.length p0 : Nat) : Int) < 12
  refine Wp.cond1 rfl (decide_eq_true h36) (Wp.seq (Wp.region (Mv rfl rfl (Mv rfl rfl (WL.val (v := .string ⟨List.toArray (p0 ++ ([0]))⟩) rfl (Yl.strCat rfl rfl (by first | omega | (simp only [List.length_drop, List.length_take, List.length_append, List.length_cons, List.length_nil]; omega))) (Kn (v := .agg #[.string ⟨List.toArray p0⟩, .string ⟨List.toArray (p0 ++ ([0]))⟩]) rfl rfl rfl (fun _ => by kernel_rfl) ?_))))))
  refine WL.do0 (Do.store (vs := [.string ⟨List.toArray p0⟩, .string ⟨List.toArray (p0 ++ ([0]))⟩]) (o := 0) H33 rfl rfl Try.sizeOf28 rfl rfl rfl rfl ?_)
  intro w37 H38
  replace H38 : Own w D w37 [blk g21 [.string ⟨List.toArray p0⟩, .string ⟨List.toArray (p0 ++ ([0]))⟩] 28] := H38
  refine As rfl rfl (WL.nil (Fin.then (Wp.ret (Fin.thenR (Fin.res (resN (vs := [.agg #[.string ⟨List.toArray p0⟩, .string ⟨List.toArray (p0 ++ ([0]))⟩], .int .i64 0]) rfl (ResV.cell rfl (Lds.agg (cs := [.string ⟨List.toArray p0⟩, .string ⟨List.toArray (p0 ++ ([0]))⟩]) Try.isAgg28 Try.sizeOf28 ((H38.cls (i := 0) rfl).lit (k := 0) (m := 2) rfl)) (ResV.tmp rfl ResV.nil)) (Nat.le_of_ble_eq_true rfl)) ?_)))))
  have H39 : Own w D w37 [] := H38.pick [] (by decide) rfl
  have e : span_Point p0 = (RangeD.mk p0 (p0 ++ ([0])), 0) := Eq.trans (bnd_of hr30) (Eq.trans (if_pos h35) (if_pos h36))
  obtain ⟨rfl, rfl⟩ := pj2 (e.symm.trans hr)
  exact ⟨rfl, H39⟩
  refine Wp.cond0 rfl (decide_eq_false h36) (Wp.skip (Fin.then (Wp.seq (Wp.region (Mv rfl rfl (Kn (v := .int .i64 ((List.length p0 : Nat) : Int)) rfl rfl rfl (fun _ => by kernel_rfl) (WL.val (v := .int .i64 (((List.length p0) - 1 : Nat) : Int)) rfl (Yl.int (e := IntKind.i64.wrap (((List.length p0 : Nat) : Int) - 1)) (Yl.kern rfl rfl (fun _ => by kernel_rfl)) (by rw [IntWalk.i64_in _ (by omega)]; omega)) (As rfl rfl (WL.nil (Fin.then (Wp.seq ?_)))))))))))
  refine Wp.joinT (ι := Int) (fun i => [(5, .int .i64 i), (3, .int .i64 0), (2, .pointer (some ⟨g21, 0, none⟩)), (0, .string ⟨List.toArray p0⟩)]) (fun (i : Int) w' => Own w D w' [blk g21 [.string ⟨List.toArray ([])⟩, .string ⟨List.toArray ([])⟩] 28] ∧ ((-9223372036854775808 ≤ i ∧ i ≤ 9223372036854775807) ∧ i < List.length p0 ∧ (bnd (span_Point_L0 p0 ((Int.toNat ((((List.length p0) - 1 : Nat) : Int) + 1)) + 1) (((List.length p0) - 1 : Nat) : Int)) fun sLrbtfJjL => sLrbtfJjL) = i)) ?_ ?_
  refine Wp.block ?_
  have H44 : Own w D w31 [blk g21 [.string ⟨List.toArray ([])⟩, .string ⟨List.toArray ([])⟩] 28] := H33.pick [0] (by decide) rfl
  refine Wp.loop (ι := Int × Nat) (fun i => [(5, .int .i64 i.1), (3, .int .i64 0), (2, .pointer (some ⟨g21, 0, none⟩)), (0, .string ⟨List.toArray p0⟩)]) (fun (i : Int × Nat) w' => Own w D w' [blk g21 [.string ⟨List.toArray ([])⟩, .string ⟨List.toArray ([])⟩] 28] ∧ (-1 ≤ i.1 ∧ i.1 < List.length p0 ∧ Int.toNat (i.1 + 1) < i.2 ∧ span_Point_L0 p0 ((Int.toNat ((((List.length p0) - 1 : Nat) : Int) + 1)) + 1) (((List.length p0) - 1 : Nat) : Int) = span_Point_L0 p0 i.2 i.1)) (fun i => i.2) ((((List.length p0) - 1 : Nat) : Int), (Int.toNat ((((List.length p0) - 1 : Nat) : Int) + 1)) + 1) ⟨rfl, rfl, rfl, rfl, trivial⟩ ⟨H44, (show -1 ≤ (((List.length p0) - 1 : Nat) : Int) ∧ (((List.length p0) - 1 : Nat) : Int) < List.length p0 ∧ Int.toNat ((((List.length p0) - 1 : Nat) : Int) + 1) < ((Int.toNat ((((List.length p0) - 1 : Nat) : Int) + 1)) + 1) ∧ span_Point_L0 p0 ((Int.toNat ((((List.length p0) - 1 : Nat) : Int) + 1)) + 1) (((List.length p0) - 1 : Nat) : Int) = span_Point_L0 p0 ((Int.toNat ((((List.length p0) - 1 : Nat) : Int) + 1)) + 1) (((List.length p0) - 1 : Nat) : Int) from ⟨by omega, by omega, by omega, rfl⟩)⟩ ?_
  rintro ⟨z41, f43⟩ w45 ⟨H46, hf47⟩
  show Wp _ _ _ [(5, .int .i64 z41), (3, .int .i64 0), (2, .pointer (some ⟨g21, 0, none⟩)), (0, .string ⟨List.toArray p0⟩)] _ _
  replace H46 : Own w D w45 [blk g21 [.string ⟨List.toArray ([])⟩, .string ⟨List.toArray ([])⟩] 28] := H46
  replace hf47 : -1 ≤ z41 ∧ z41 < List.length p0 ∧ Int.toNat (z41 + 1) < f43 ∧ span_Point_L0 p0 ((Int.toNat ((((List.length p0) - 1 : Nat) : Int) + 1)) + 1) (((List.length p0) - 1 : Nat) : Int) = span_Point_L0 p0 f43 z41 := hf47
  obtain ⟨hi49, hi50, hi51, hq48⟩ := hf47
  obtain ⟨f52, hf53⟩ : ∃ q, f43 = q + 1 := ⟨f43 - 1, by omega⟩
  subst hf53
  refine Wp.seq (Wp.seq (Wp.region (Mv rfl rfl (Kn (v := .bool (decide (z41 ≥ 0))) rfl rfl rfl (fun _ => by kernel_rfl) (Mv rfl rfl ?_)))))
  by_cases h54 : z41 ≥ 0
  refine WL.valG (v := .string ⟨List.toArray p0⟩) rfl rfl (decide_eq_true h54) rfl (Yl.move rfl) (WL.valG (v := .int .i64 ((Int.toNat z41 : Nat) : Int)) rfl rfl (decide_eq_true h54) rfl (Yl.int (e := z41) (Yl.move rfl) (by omega)) ?_)
  obtain ⟨b55, hx56⟩ := at_of (ls := p0) (i := Int.toNat z41) (by omega)
  refine WL.valG (v := .int .u8 ((b55.toNat : Nat) : Int)) rfl rfl (decide_eq_true h54) rfl (Yl.strIndex Try.underlying9 rfl rfl hx56) (WL.valG (v := .bool (decide (((b55.toNat : Nat) : Int) = 255))) rfl rfl (decide_eq_true h54) rfl (Yl.kern rfl rfl (fun _ => by kernel_rfl)) (WL.val (v := .bool (decide (((b55.toNat : Nat) : Int) = 255))) rfl (Yl.pickT rfl (decide_eq_true h54) rfl) (WL.nil (Fin.then ?_))))
  by_cases h57 : ((b55.toNat : Nat) : Int) = 255
  refine Wp.cond1 rfl (decide_eq_true h57) (Wp.skip (Fin.then (Wp.block (Wp.region (Mv rfl rfl (WL.val (v := .int .i64 (z41 - 1)) rfl (Yl.int (e := IntKind.i64.wrap (z41 - 1)) (Yl.kern rfl rfl (fun _ => by kernel_rfl)) (by rw [IntWalk.i64_in _ (by omega)])) (As rfl rfl (WL.nil (Fin.blockN ?_)))))))))
  have H58 : Own w D w45 [blk g21 [.string ⟨List.toArray ([])⟩, .string ⟨List.toArray ([])⟩] 28] := H46.pick [0] (by decide) rfl
  exact Fin.round (z41 - 1, f52) ⟨rfl, rfl, rfl, rfl, trivial⟩ ⟨H58, (show -1 ≤ (z41 - 1) ∧ (z41 - 1) < List.length p0 ∧ Int.toNat ((z41 - 1) + 1) < f52 ∧ span_Point_L0 p0 ((Int.toNat ((((List.length p0) - 1 : Nat) : Int) + 1)) + 1) (((List.length p0) - 1 : Nat) : Int) = span_Point_L0 p0 f52 (z41 - 1) from ⟨by omega, by omega, by omega, Eq.trans (hq48) (Eq.trans (if_pos h54) (Eq.trans (bnd_of (getD_of hx56)) (if_pos h57)))⟩)⟩ (by show f52 < f52 + 1; omega)
  refine Wp.cond0 rfl (decide_eq_false h57) (Wp.exit (Fin.thenX (Fin.thenX (Fin.blockX ?_))))
  have H59 : Own w D w45 [blk g21 [.string ⟨List.toArray ([])⟩, .string ⟨List.toArray ([])⟩] 28] := H46.pick [0] (by decide) rfl
  exact Fin.join z41 ⟨rfl, rfl, rfl, rfl, trivial⟩ ⟨H59, (show (-9223372036854775808 ≤ z41 ∧ z41 ≤ 9223372036854775807) ∧ z41 < List.length p0 ∧ (bnd (span_Point_L0 p0 ((Int.toNat ((((List.length p0) - 1 : Nat) : Int) + 1)) + 1) (((List.length p0) - 1 : Nat) : Int)) fun sLrbtfJjL => sLrbtfJjL) = z41 from ⟨by omega, by omega, bnd_of (Eq.trans (hq48) (Eq.trans (if_pos h54) (Eq.trans (bnd_of (getD_of hx56)) (if_neg h57))))⟩)⟩
  refine Sk rfl rfl (decide_eq_false h54) rfl (Sk rfl rfl (decide_eq_false h54) rfl (Sk rfl rfl (decide_eq_false h54) rfl (Sk rfl rfl (decide_eq_false h54) rfl (WL.val (v := .bool false) rfl (Yl.pickF rfl (decide_eq_false h54) rfl) (WL.nil (Fin.then (Wp.cond0 rfl rfl (Wp.exit (Fin.thenX (Fin.thenX (Fin.blockX ?_)))))))))))
  have H60 : Own w D w45 [blk g21 [.string ⟨List.toArray ([])⟩, .string ⟨List.toArray ([])⟩] 28] := H46.pick [0] (by decide) rfl
  exact Fin.join z41 ⟨rfl, rfl, rfl, rfl, trivial⟩ ⟨H60, (show (-9223372036854775808 ≤ z41 ∧ z41 ≤ 9223372036854775807) ∧ z41 < List.length p0 ∧ (bnd (span_Point_L0 p0 ((Int.toNat ((((List.length p0) - 1 : Nat) : Int) + 1)) + 1) (((List.length p0) - 1 : Nat) : Int)) fun sLrbtfJjL => sLrbtfJjL) = z41 from ⟨by omega, by omega, bnd_of (Eq.trans (hq48) (if_neg h54))⟩)⟩
  rintro z40 w61 ⟨H62, hf63⟩
  show Wp _ _ _ [(5, .int .i64 z40), (3, .int .i64 0), (2, .pointer (some ⟨g21, 0, none⟩)), (0, .string ⟨List.toArray p0⟩)] _ _
  replace H62 : Own w D w61 [blk g21 [.string ⟨List.toArray ([])⟩, .string ⟨List.toArray ([])⟩] 28] := H62
  replace hf63 : (-9223372036854775808 ≤ z40 ∧ z40 ≤ 9223372036854775807) ∧ z40 < List.length p0 ∧ (bnd (span_Point_L0 p0 ((Int.toNat ((((List.length p0) - 1 : Nat) : Int) + 1)) + 1) (((List.length p0) - 1 : Nat) : Int)) fun sLrbtfJjL => sLrbtfJjL) = z40 := hf63
  obtain ⟨hi65, hi66, hj64⟩ := hf63
  refine Wp.seq (Wp.seq (Wp.region (Mv rfl rfl (Kn (v := .bool (decide (z40 < 0))) rfl rfl rfl (fun _ => by kernel_rfl) (WL.nil (Fin.then ?_))))))
  by_cases h67 : z40 < 0
  refine Wp.cond1 rfl (decide_eq_true h67) (Wp.seq (Wp.region (Mv rfl rfl (Kn (v := .agg #[.string ⟨List.toArray p0⟩, .string ⟨List.toArray ([])⟩]) rfl rfl rfl (fun _ => by kernel_rfl) ?_))))
  refine WL.do0 (Do.store (vs := [.string ⟨List.toArray p0⟩, .string ⟨List.toArray ([])⟩]) (o := 0) H62 rfl rfl Try.sizeOf28 rfl rfl rfl rfl ?_)
  intro w68 H69
  replace H69 : Own w D w68 [blk g21 [.string ⟨List.toArray p0⟩, .string ⟨List.toArray ([])⟩] 28] := H69
  refine As rfl rfl (WL.nil (Fin.then (Wp.ret (Fin.thenR (Fin.res (resN (vs := [.agg #[.string ⟨List.toArray p0⟩, .string ⟨List.toArray ([])⟩], .int .i64 0]) rfl (ResV.cell rfl (Lds.agg (cs := [.string ⟨List.toArray p0⟩, .string ⟨List.toArray ([])⟩]) Try.isAgg28 Try.sizeOf28 ((H69.cls (i := 0) rfl).lit (k := 0) (m := 2) rfl)) (ResV.tmp rfl ResV.nil)) (Nat.le_of_ble_eq_true rfl)) ?_)))))
  have H70 : Own w D w68 [] := H69.pick [] (by decide) rfl
  have e : span_Point p0 = (RangeD.mk p0 ([]), 0) := Eq.trans (bnd_of hr30) (Eq.trans (if_pos h35) (Eq.trans (if_neg h36) (Eq.trans (bnd_of hj64) (if_pos h67))))
  obtain ⟨rfl, rfl⟩ := pj2 (e.symm.trans hr)
  exact ⟨rfl, H70⟩
  refine Wp.cond0 rfl (decide_eq_false h67) (Wp.skip (Fin.then (Wp.seq ?_)))
  have H72 := H62.drew
  refine Wp.drawnX [] (fun W => ∃ L', Own w D W ([] ++ L')) (by kernel_rfl) (by kernel_rfl) (NoP.then NoP.base) ⟨_, H72⟩ ?_
  revert H72
  generalize World.drew w61 = w71
  intro H72
  replace H72 : Own w D w71 [blk g21 [.string ⟨List.toArray ([])⟩, .string ⟨List.toArray ([])⟩] 28] := H72
  refine GX.take (v := .string ⟨List.toArray p0⟩) (rs := []) 0 rfl (by kernel_rfl) (fun _ _ => Yl.move rfl) (GX.take (v := .string ⟨List.toArray p0⟩) (rs := []) 1 rfl (by kernel_rfl) (fun _ _ => Yl.move rfl) (GX.take (v := .int .i64 ((Int.toNat z40 : Nat) : Int)) (rs := []) 2 rfl (by kernel_rfl) (fun _ _ => Yl.int (e := z40) (Yl.move rfl) (by omega)) (GX.take (v := .string ⟨List.toArray (List.take (Int.toNat z40) p0)⟩) (rs := []) 3 rfl (by kernel_rfl) (fun _ _ => Yl.strTo Try.underlying9 rfl rfl (by first | omega | (simp only [List.length_drop, List.length_take, List.length_append, List.length_cons, List.length_nil]; omega))) (GX.take (v := .string ⟨List.toArray p0⟩) (rs := []) 4 rfl (by kernel_rfl) (fun _ _ => Yl.move rfl) (GX.take (v := .int .i64 ((Int.toNat z40 : Nat) : Int)) (rs := []) 5 rfl (by kernel_rfl) (fun _ _ => Yl.int (e := z40) (Yl.move rfl) (by omega)) ?_)))))
  obtain ⟨b73, hx74⟩ := at_of (ls := p0) (i := Int.toNat z40) (by omega)
  refine GX.take (v := .int .u8 ((b73.toNat : Nat) : Int)) (rs := []) 6 rfl (by kernel_rfl) (fun _ _ => Yl.strIndex Try.underlying9 rfl rfl hx74) (GX.take (v := .int .u8 (((b73 + (1 : UInt8)).toNat : Nat) : Int)) (rs := []) 7 rfl (by kernel_rfl) (fun _ _ => Yl.int (e := IntKind.u8.wrap (((b73.toNat : Nat) : Int) + 1)) (Yl.kern rfl rfl (fun _ => by kernel_rfl)) (u8_add b73 (1 : UInt8))) ?_)
  refine GX.do 8 rfl (by kernel_rfl) (Do.newRow (cs := [.int .u8 (((b73 + (1 : UInt8)).toNat : Nat) : Int)]) (t := 5) (sz := 1) (m := 1) H72 rfl rfl (fun _ => by kernel_rfl) rfl (by decide) ?_)
  intro A75 w76 H77
  replace H77 : Own w D w76 [row A75 1 1 (List.flatMap eB ([(b73 + (1 : UInt8))])) 5 1, blk g21 [.string ⟨List.toArray ([])⟩, .string ⟨List.toArray ([])⟩] 28] := H77
  refine ⟨.inr ⟨_, H77⟩, ?_⟩
  refine GX.more (Good' := fun W => ∃ L', Own w D W ([row A75 1 1 (List.flatMap eB ([(b73 + (1 : UInt8))])) 5 1] ++ L')) (fun _ ⟨L', h⟩ => ⟨[row A75 1 1 (List.flatMap eB ([(b73 + (1 : UInt8))])) 5 1] ++ L', h⟩) ⟨_, H77⟩ (GX.take (v := .string ⟨List.toArray ([(b73 + (1 : UInt8))])⟩) (rs := []) 9 rfl (by kernel_rfl) (fun _ ⟨_, H9⟩ => Yl.toStringE (l := [(b73 + (1 : UInt8))]) Try.underlying76 Try.underlying5 Try.underlying9 (H9.rds (i := 0) rfl) rfl) (GX.take (v := .string ⟨List.toArray ((List.take (Int.toNat z40) p0) ++ ([(b73 + (1 : UInt8))]))⟩) (rs := []) 10 rfl (by kernel_rfl) (fun _ _ => Yl.strCat rfl rfl (by first | omega | (simp only [List.length_drop, List.length_take, List.length_append, List.length_cons, List.length_nil]; omega))) (GX.take (v := .agg #[.string ⟨List.toArray p0⟩, .string ⟨List.toArray ((List.take (Int.toNat z40) p0) ++ ([(b73 + (1 : UInt8))]))⟩]) (rs := []) 11 rfl (by kernel_rfl) (fun _ _ => Yl.kern rfl rfl (fun _ => by kernel_rfl)) ?_)))
  have H78 : Own w D w76 [blk g21 [.string ⟨List.toArray ([])⟩, .string ⟨List.toArray ([])⟩] 28, row A75 1 1 (List.flatMap eB ([(b73 + (1 : UInt8))])) 5 1] := H77.pick [1, 0] (by decide) rfl
  refine GX.do0 12 rfl (by kernel_rfl) (Do.store (vs := [.string ⟨List.toArray p0⟩, .string ⟨List.toArray ((List.take (Int.toNat z40) p0) ++ ([(b73 + (1 : UInt8))]))⟩]) (o := 0) H78 rfl rfl Try.sizeOf28 rfl rfl rfl rfl ?_)
  intro w79 H80
  replace H80 : Own w D w79 [blk g21 [.string ⟨List.toArray p0⟩, .string ⟨List.toArray ((List.take (Int.toNat z40) p0) ++ ([(b73 + (1 : UInt8))]))⟩] 28, row A75 1 1 (List.flatMap eB ([(b73 + (1 : UInt8))])) 5 1] := H80
  have H81 : Own w D w79 [row A75 1 1 (List.flatMap eB ([(b73 + (1 : UInt8))])) 5 1, blk g21 [.string ⟨List.toArray p0⟩, .string ⟨List.toArray ((List.take (Int.toNat z40) p0) ++ ([(b73 + (1 : UInt8))]))⟩] 28] := H80.pick [1, 0] (by decide) rfl
  refine ⟨.inr ⟨_, H81⟩, ?_⟩
  refine GX.take (v := .int .i64 0) (rs := []) 13 rfl (by kernel_rfl) (fun _ _ => Yl.assign rfl) (GX.done (by kernel_rfl) (Fin.then (Wp.ret (Fin.res (resN (vs := [.agg #[.string ⟨List.toArray p0⟩, .string ⟨List.toArray ((List.take (Int.toNat z40) p0) ++ ([(b73 + (1 : UInt8))]))⟩], .int .i64 0]) rfl (ResV.cell rfl (Lds.agg (cs := [.string ⟨List.toArray p0⟩, .string ⟨List.toArray ((List.take (Int.toNat z40) p0) ++ ([(b73 + (1 : UInt8))]))⟩]) Try.isAgg28 Try.sizeOf28 ((H81.cls (i := 1) rfl).lit (k := 0) (m := 2) rfl)) (ResV.tmp rfl ResV.nil)) (Nat.le_of_ble_eq_true rfl)) ?_))))
  have H82 : Own w D w79 [] := H81.pick [] (by decide) rfl
  have e : span_Point p0 = (RangeD.mk p0 ((List.take (Int.toNat z40) p0) ++ ([(b73 + (1 : UInt8))])), 0) := Eq.trans (bnd_of hr30) (Eq.trans (if_pos h35) (Eq.trans (if_neg h36) (Eq.trans (bnd_of hj64) (Eq.trans (if_neg h67) (bnd_of (getD_of hx74))))))
  obtain ⟨rfl, rfl⟩ := pj2 (e.symm.trans hr)
  exact ⟨rfl, H82⟩
  refine Wp.cond1 rfl (decide_eq_true h35) (Wp.seq (Wp.region (Kn (v := .agg #[.string ⟨List.toArray ([])⟩, .string ⟨List.toArray ([])⟩]) rfl rfl rfl (fun _ => by kernel_rfl) (Mv rfl rfl ?_))))
  refine WL.do0 (Do.store (vs := [.string ⟨List.toArray ([])⟩, .string ⟨List.toArray ([])⟩]) (o := 0) H33 rfl rfl Try.sizeOf28 rfl rfl rfl rfl ?_)
  intro w83 H84
  replace H84 : Own w D w83 [blk g21 [.string ⟨List.toArray ([])⟩, .string ⟨List.toArray ([])⟩] 28] := H84
  refine As rfl rfl (WL.nil (Fin.then (Wp.ret (Fin.thenR (Fin.res (resN (vs := [.agg #[.string ⟨List.toArray ([])⟩, .string ⟨List.toArray ([])⟩], .int .i64 r29]) rfl (ResV.cell rfl (Lds.agg (cs := [.string ⟨List.toArray ([])⟩, .string ⟨List.toArray ([])⟩]) Try.isAgg28 Try.sizeOf28 ((H84.cls (i := 0) rfl).lit (k := 0) (m := 2) rfl)) (ResV.tmp rfl ResV.nil)) (Nat.le_of_ble_eq_true rfl)) ?_)))))
  have H85 : Own w D w83 [] := H84.pick [] (by decide) rfl
  have e : span_Point p0 = (RangeD.mk ([]) ([]), r29) := Eq.trans (bnd_of hr30) (if_neg h35)
  obtain ⟨rfl, rfl⟩ := pj2 (e.symm.trans hr)
  exact ⟨rfl, H85⟩

def op_spanKey (p0 : OpD) : RangeD :=
  bnd (span_Point p0.xKey) fun yr32 => yr32.1

set_option maxRecDepth 100000 in
theorem op_spanKey_ok (w : World) (D : Nat → Prop) (p0 : OpD) (r0 : RangeD) (H : Own w D w [])  (hr : op_spanKey p0 = r0) :
    Calls Try.prog 45 #[.agg (OpD.cells p0).toArray] w (Ret fun v w' => v = .agg (RangeD.cells r0).toArray ∧ Own w D w' []) := by
  refine Calls.body (args := [.agg (OpD.cells p0).toArray]) Try.func45 rfl rfl rfl ?_
  show Wp _ _ _ [(0, .agg (OpD.cells p0).toArray)] _ _
  refine Wp.seq (Wp.region ?_)
  refine WL.do rfl (Do.newP (cs := (OpD.cells p0)) (t := 23) H rfl rfl (fun _ => by kernel_rfl) ?_)
  intro g21 w22 H23
  replace H23 : Own w D w22 [blk g21 (OpD.cells p0) 23] := H23
  refine WL.do rfl (Do.newP (cs := [.string ⟨List.toArray ([])⟩, .string ⟨List.toArray ([])⟩]) (t := 28) H23 rfl rfl (fun _ => by kernel_rfl) ?_)
  intro g24 w25 H26
  replace H26 : Own w D w25 [blk g24 [.string ⟨List.toArray ([])⟩, .string ⟨List.toArray ([])⟩] 28, blk g21 (OpD.cells p0) 23] := H26
  refine WL.nil (Fin.then (Wp.seq (Wp.region (Kn (v := .pointer (some ⟨g21, 1, none⟩)) rfl rfl rfl (fun _ => by kernel_rfl) (WL.val (v := .string ⟨List.toArray p0.xKey⟩) rfl (Yl.load rfl (Lds.one Try.isAgg9 (Cls.of (H26.cls (i := 1) rfl) rfl))) ?_)))))
  obtain ⟨⟨r32, r33⟩, hr34⟩ : ∃ q : RangeD × Int, span_Point p0.xKey = q := ⟨_, rfl⟩
  obtain ⟨D27, HP28, ro29, bk30, rr31⟩ := Own.enter0 H26
  refine WL.do rfl (Do.call Try.call61 rfl (span_Point_ok _ _ p0.xKey r32 r33 HP28 hr34) ?_)
  rintro _ w35 ⟨rfl, HQ36⟩
  have H37 : Own w D w35 [blk g24 [.string ⟨List.toArray ([])⟩, .string ⟨List.toArray ([])⟩] 28, blk g21 (OpD.cells p0) 23] := bk30 _ _ HQ36
  refine Mv rfl rfl (Kn (v := .agg (RangeD.cells r32).toArray) rfl rfl rfl (fun _ => by kernel_rfl) (Kn (v := .int .i64 r33) rfl rfl rfl (fun _ => by kernel_rfl) ?_))
  refine WL.do rfl (Do.newP (cs := [.string ⟨List.toArray ([])⟩, .string ⟨List.toArray ([])⟩]) (t := 28) H37 rfl rfl (fun _ => by kernel_rfl) ?_)
  intro g38 w39 H40
  replace H40 : Own w D w39 [blk g38 [.string ⟨List.toArray ([])⟩, .string ⟨List.toArray ([])⟩] 28, blk g24 [.string ⟨List.toArray ([])⟩, .string ⟨List.toArray ([])⟩] 28, blk g21 (OpD.cells p0) 23] := H40
  refine WL.do0 (Do.store (vs := (RangeD.cells r32)) (o := 0) H40 rfl rfl Try.sizeOf28 rfl rfl rfl rfl ?_)
  intro w41 H42
  replace H42 : Own w D w41 [blk g38 (RangeD.cells r32) 28, blk g24 [.string ⟨List.toArray ([])⟩, .string ⟨List.toArray ([])⟩] 28, blk g21 (OpD.cells p0) 23] := H42
  refine As rfl rfl (WL.nil (Fin.then (Wp.seq (Wp.region (WL.val (v := .agg (RangeD.cells r32).toArray) rfl (Yl.load rfl (Lds.agg (cs := (RangeD.cells r32)) Try.isAgg28 Try.sizeOf28 ((H42.cls (i := 0) rfl).lit (k := 0) (m := 2) rfl))) ?_)))))
  have H43 : Own w D w41 [blk g24 [.string ⟨List.toArray ([])⟩, .string ⟨List.toArray ([])⟩] 28, blk g38 (RangeD.cells r32) 28, blk g21 (OpD.cells p0) 23] := H42.pick [1, 0, 2] (by decide) rfl
  refine WL.do0 (Do.store (vs := (RangeD.cells r32)) (o := 0) H43 rfl rfl Try.sizeOf28 rfl rfl rfl rfl ?_)
  intro w44 H45
  replace H45 : Own w D w44 [blk g24 (RangeD.cells r32) 28, blk g38 (RangeD.cells r32) 28, blk g21 (OpD.cells p0) 23] := H45
  refine WL.nil (Fin.then (Wp.ret (Fin.res (resC rfl rfl (Lds.agg (cs := (RangeD.cells r32)) Try.isAgg28 Try.sizeOf28 ((H45.cls (i := 0) rfl).lit (k := 0) (m := 2) rfl))) ?_)))
  have H46 : Own w D w44 [] := H45.pick [] (by decide) rfl
  have e : op_spanKey p0 = r32 := bnd_of hr34
  obtain rfl := e.symm.trans hr
  exact ⟨rfl, H46⟩

def op_Span (p0 : OpD) : RangeD × Int :=
  bnd (op_CheckOp p0) fun yr32 => if yr32 = 0 then if p0.xKind = 1 then bnd (op_spanKey p0) fun yr59 => (yr59, 0) else if p0.xKind = 2 then bnd (op_spanKey p0) fun yr88 => (yr88, 0) else if p0.xKind = 3 then bnd (op_spanKey p0) fun yr117 => (yr117, 0) else if p0.xKind = 4 then bnd (op_spanRange p0) fun yr146 => (yr146, 0) else bnd (op_spanRange p0) fun yr175 => (yr175, 0) else (RangeD.mk ([]) ([]), yr32)

set_option maxRecDepth 100000 in
theorem op_Span_ok (w : World) (D : Nat → Prop) (p0 : OpD) (r0 : RangeD) (r1 : Int) (H : Own w D w [])  (hr : op_Span p0 = (r0, r1)) :
    Calls Try.prog 11 #[.agg (OpD.cells p0).toArray] w (Ret fun v w' => v = .tuple #[.agg (RangeD.cells r0).toArray, .int .i64 r1] ∧ Own w D w' []) := by
  refine Calls.body (args := [.agg (OpD.cells p0).toArray]) Try.func11 rfl rfl rfl ?_
  show Wp _ _ _ [(0, .agg (OpD.cells p0).toArray)] _ _
  refine Wp.seq (Wp.region ?_)
  refine WL.do rfl (Do.newP (cs := (OpD.cells p0)) (t := 23) H rfl rfl (fun _ => by kernel_rfl) ?_)
  intro g21 w22 H23
  replace H23 : Own w D w22 [blk g21 (OpD.cells p0) 23] := H23
  refine WL.do rfl (Do.newP (cs := [.string ⟨List.toArray ([])⟩, .string ⟨List.toArray ([])⟩]) (t := 28) H23 rfl rfl (fun _ => by kernel_rfl) ?_)
  intro g24 w25 H26
  replace H26 : Own w D w25 [blk g24 [.string ⟨List.toArray ([])⟩, .string ⟨List.toArray ([])⟩] 28, blk g21 (OpD.cells p0) 23] := H26
  refine As rfl rfl (WL.nil (Fin.then (Wp.seq (Wp.seq (Wp.region (WL.val (v := .agg (OpD.cells p0).toArray) rfl (Yl.load rfl (Lds.agg (cs := (OpD.cells p0)) Try.isAgg23 Try.sizeOf23 ((H26.cls (i := 1) rfl).lit (k := 0) (m := 6) rfl))) ?_))))))
  obtain ⟨r32, hr33⟩ : ∃ q, op_CheckOp p0 = q := ⟨_, rfl⟩
  obtain ⟨D27, HP28, ro29, bk30, rr31⟩ := Own.enter0 H26
  refine WL.do rfl (Do.call Try.call15 rfl (op_CheckOp_ok _ _ p0 r32 HP28 hr33) ?_)
  rintro _ w34 ⟨rfl, HQ35, hk37⟩
  have H36 : Own w D w34 [blk g24 [.string ⟨List.toArray ([])⟩, .string ⟨List.toArray ([])⟩] 28, blk g21 (OpD.cells p0) 23] := bk30 _ _ HQ35
  replace hk37 : ¬ (r32 = 0) ∨ (1 ≤ p0.xKind ∧ p0.xKind ≤ 5) := hk37
  refine As rfl rfl (WL.nil (Fin.then (Wp.seq (Wp.region (Mv rfl rfl (WL.val (v := .bool (decide (¬ (r32 = 0)))) rfl (Yl.bool (e := !(decide (r32 = 0))) (Yl.kern rfl rfl (fun _ => by kernel_rfl)) decide_not.symm) (WL.nil (Fin.then ?_))))))))
  by_cases h38 : r32 = 0
  refine Wp.cond0 rfl (decide_eq_false (not_not_intro h38)) (Wp.skip (Fin.then (Wp.seq (Wp.region (Kn (v := .pointer (some ⟨g21, 0, none⟩)) rfl rfl rfl (fun _ => by kernel_rfl) (WL.val (v := .int .i64 p0.xKind) rfl (Yl.load rfl (Lds.one Try.isAgg3 (Cls.of (H36.cls (i := 1) rfl) rfl))) ?_))))))
  by_cases h39 : p0.xKind = 1
  obtain ⟨D40, HP41, ro42, bk43, rr44⟩ := Own.enter0 H36
  refine WL.do rfl (Do.call Try.call30 rfl (op_kindOf_1_ok _ _ p0.xKind HP41 (of_decide_eq_true (decide_eq_true h39))) ?_)
  rintro _ w46 ⟨rfl, HQ47⟩
  have H48 : Own w D w46 [blk g24 [.string ⟨List.toArray ([])⟩, .string ⟨List.toArray ([])⟩] 28, blk g21 (OpD.cells p0) 23] := bk43 _ _ HQ47
  refine Mv rfl rfl (Kn (v := .agg #[.bool false, .func (.func 43) #[] #[], .func (.func 44) #[] #[], .func (.func 45) #[] #[], .func (.func 46) #[] #[]]) rfl rfl rfl (fun _ => by kernel_rfl) (Kn (v := .bool true) rfl rfl rfl (fun _ => by kernel_rfl) ?_))
  refine WL.do rfl (Do.newP (cs := [.bool false, .nilFunc, .nilFunc, .nilFunc, .nilFunc]) (t := 65) H48 rfl rfl (fun _ => by kernel_rfl) ?_)
  intro g49 w50 H51
  replace H51 : Own w D w50 [blk g49 [.bool false, .nilFunc, .nilFunc, .nilFunc, .nilFunc] 65, blk g24 [.string ⟨List.toArray ([])⟩, .string ⟨List.toArray ([])⟩] 28, blk g21 (OpD.cells p0) 23] := H51
  refine WL.do0 (Do.store (vs := [.bool false, .func (.func 43) #[] #[], .func (.func 44) #[] #[], .func (.func 45) #[] #[], .func (.func 46) #[] #[]]) (o := 0) H51 rfl rfl Try.sizeOf65 rfl rfl rfl rfl ?_)
  intro w52 H53
  replace H53 : Own w D w52 [blk g49 [.bool false, .func (.func 43) #[] #[], .func (.func 44) #[] #[], .func (.func 45) #[] #[], .func (.func 46) #[] #[]] 65, blk g24 [.string ⟨List.toArray ([])⟩, .string ⟨List.toArray ([])⟩] 28, blk g21 (OpD.cells p0) 23] := H53
  refine As rfl rfl (WL.nil (Fin.then (Wp.seq (Wp.region (Kn (v := .pointer (some ⟨g49, 3, none⟩)) rfl rfl rfl (fun _ => by kernel_rfl) (WL.val (v := .func (.func 45) #[] #[]) rfl (Yl.load rfl (Lds.one Try.isAgg62 (Cls.of (H53.cls (i := 0) rfl) rfl))) (WL.val (v := .agg (OpD.cells p0).toArray) rfl (Yl.load rfl (Lds.agg (cs := (OpD.cells p0)) Try.isAgg23 Try.sizeOf23 ((H53.cls (i := 2) rfl).lit (k := 0) (m := 6) rfl))) ?_)))))))
  obtain ⟨r59, hr60⟩ : ∃ q, op_spanKey p0 = q := ⟨_, rfl⟩
  obtain ⟨D54, HP55, ro56, bk57, rr58⟩ := Own.enter0 H53
  refine WL.do rfl (Do.callV Try.call45 rfl rfl (op_spanKey_ok _ _ p0 r59 HP55 hr60) ?_)
  rintro _ w61 ⟨rfl, HQ62⟩
  have H63 : Own w D w61 [blk g49 [.bool false, .func (.func 43) #[] #[], .func (.func 44) #[] #[], .func (.func 45) #[] #[], .func (.func 46) #[] #[]] 65, blk g24 [.string ⟨List.toArray ([])⟩, .string ⟨List.toArray ([])⟩] 28, blk g21 (OpD.cells p0) 23] := bk57 _ _ HQ62
  have H64 : Own w D w61 [blk g24 [.string ⟨List.toArray ([])⟩, .string ⟨List.toArray ([])⟩] 28, blk g49 [.bool false, .func (.func 43) #[] #[], .func (.func 44) #[] #[], .func (.func 45) #[] #[], .func (.func 46) #[] #[]] 65, blk g21 (OpD.cells p0) 23] := H63.pick [1, 0, 2] (by decide) rfl
  refine WL.do0 (Do.store (vs := (RangeD.cells r59)) (o := 0) H64 rfl rfl Try.sizeOf28 rfl rfl rfl rfl ?_)
  intro w65 H66
  replace H66 : Own w D w65 [blk g24 (RangeD.cells r59) 28, blk g49 [.bool false, .func (.func 43) #[] #[], .func (.func 44) #[] #[], .func (.func 45) #[] #[], .func (.func 46) #[] #[]] 65, blk g21 (OpD.cells p0) 23] := H66
  refine As rfl rfl (WL.nil (Fin.then (Wp.ret (Fin.res (resN (vs := [.agg (RangeD.cells r59).toArray, .int .i64 0]) rfl (ResV.cell rfl (Lds.agg (cs := (RangeD.cells r59)) Try.isAgg28 Try.sizeOf28 ((H66.cls (i := 0) rfl).lit (k := 0) (m := 2) rfl)) (ResV.tmp rfl ResV.nil)) (Nat.le_of_ble_eq_true rfl)) ?_))))
  have H67 : Own w D w65 [] := H66.pick [] (by decide) rfl
  have e : op_Span p0 = (r59, 0) := Eq.trans (bnd_of hr33) (Eq.trans (if_pos h38) (Eq.trans (if_pos h39) (bnd_of hr60)))
  obtain ⟨rfl, rfl⟩ := pj2 (e.symm.trans hr)
  exact ⟨rfl, H67⟩
  by_cases h68 : p0.xKind = 2
  obtain ⟨D69, HP70, ro71, bk72, rr73⟩ := Own.enter0 H36
  refine WL.do rfl (Do.call Try.call30 rfl (op_kindOf_2_ok _ _ p0.xKind HP70 (of_decide_eq_true (decide_eq_true h68))) ?_)
  rintro _ w75 ⟨rfl, HQ76⟩
  have H77 : Own w D w75 [blk g24 [.string ⟨List.toArray ([])⟩, .string ⟨List.toArray ([])⟩] 28, blk g21 (OpD.cells p0) 23] := bk72 _ _ HQ76
  refine Mv rfl rfl (Kn (v := .agg #[.bool true, .func (.func 47) #[] #[], .func (.func 48) #[] #[], .func (.func 45) #[] #[], .func (.func 49) #[] #[]]) rfl rfl rfl (fun _ => by kernel_rfl) (Kn (v := .bool true) rfl rfl rfl (fun _ => by kernel_rfl) ?_))
  refine WL.do rfl (Do.newP (cs := [.bool false, .nilFunc, .nilFunc, .nilFunc, .nilFunc]) (t := 65) H77 rfl rfl (fun _ => by kernel_rfl) ?_)
  intro g78 w79 H80
  replace H80 : Own w D w79 [blk g78 [.bool false, .nilFunc, .nilFunc, .nilFunc, .nilFunc] 65, blk g24 [.string ⟨List.toArray ([])⟩, .string ⟨List.toArray ([])⟩] 28, blk g21 (OpD.cells p0) 23] := H80
  refine WL.do0 (Do.store (vs := [.bool true, .func (.func 47) #[] #[], .func (.func 48) #[] #[], .func (.func 45) #[] #[], .func (.func 49) #[] #[]]) (o := 0) H80 rfl rfl Try.sizeOf65 rfl rfl rfl rfl ?_)
  intro w81 H82
  replace H82 : Own w D w81 [blk g78 [.bool true, .func (.func 47) #[] #[], .func (.func 48) #[] #[], .func (.func 45) #[] #[], .func (.func 49) #[] #[]] 65, blk g24 [.string ⟨List.toArray ([])⟩, .string ⟨List.toArray ([])⟩] 28, blk g21 (OpD.cells p0) 23] := H82
  refine As rfl rfl (WL.nil (Fin.then (Wp.seq (Wp.region (Kn (v := .pointer (some ⟨g78, 3, none⟩)) rfl rfl rfl (fun _ => by kernel_rfl) (WL.val (v := .func (.func 45) #[] #[]) rfl (Yl.load rfl (Lds.one Try.isAgg62 (Cls.of (H82.cls (i := 0) rfl) rfl))) (WL.val (v := .agg (OpD.cells p0).toArray) rfl (Yl.load rfl (Lds.agg (cs := (OpD.cells p0)) Try.isAgg23 Try.sizeOf23 ((H82.cls (i := 2) rfl).lit (k := 0) (m := 6) rfl))) ?_)))))))
  obtain ⟨r88, hr89⟩ : ∃ q, op_spanKey p0 = q := ⟨_, rfl⟩
  obtain ⟨D83, HP84, ro85, bk86, rr87⟩ := Own.enter0 H82
  refine WL.do rfl (Do.callV Try.call45 rfl rfl (op_spanKey_ok _ _ p0 r88 HP84 hr89) ?_)
  rintro _ w90 ⟨rfl, HQ91⟩
  have H92 : Own w D w90 [blk g78 [.bool true, .func (.func 47) #[] #[], .func (.func 48) #[] #[], .func (.func 45) #[] #[], .func (.func 49) #[] #[]] 65, blk g24 [.string ⟨List.toArray ([])⟩, .string ⟨List.toArray ([])⟩] 28, blk g21 (OpD.cells p0) 23] := bk86 _ _ HQ91
  have H93 : Own w D w90 [blk g24 [.string ⟨List.toArray ([])⟩, .string ⟨List.toArray ([])⟩] 28, blk g78 [.bool true, .func (.func 47) #[] #[], .func (.func 48) #[] #[], .func (.func 45) #[] #[], .func (.func 49) #[] #[]] 65, blk g21 (OpD.cells p0) 23] := H92.pick [1, 0, 2] (by decide) rfl
  refine WL.do0 (Do.store (vs := (RangeD.cells r88)) (o := 0) H93 rfl rfl Try.sizeOf28 rfl rfl rfl rfl ?_)
  intro w94 H95
  replace H95 : Own w D w94 [blk g24 (RangeD.cells r88) 28, blk g78 [.bool true, .func (.func 47) #[] #[], .func (.func 48) #[] #[], .func (.func 45) #[] #[], .func (.func 49) #[] #[]] 65, blk g21 (OpD.cells p0) 23] := H95
  refine As rfl rfl (WL.nil (Fin.then (Wp.ret (Fin.res (resN (vs := [.agg (RangeD.cells r88).toArray, .int .i64 0]) rfl (ResV.cell rfl (Lds.agg (cs := (RangeD.cells r88)) Try.isAgg28 Try.sizeOf28 ((H95.cls (i := 0) rfl).lit (k := 0) (m := 2) rfl)) (ResV.tmp rfl ResV.nil)) (Nat.le_of_ble_eq_true rfl)) ?_))))
  have H96 : Own w D w94 [] := H95.pick [] (by decide) rfl
  have e : op_Span p0 = (r88, 0) := Eq.trans (bnd_of hr33) (Eq.trans (if_pos h38) (Eq.trans (if_neg h39) (Eq.trans (if_pos h68) (bnd_of hr89))))
  obtain ⟨rfl, rfl⟩ := pj2 (e.symm.trans hr)
  exact ⟨rfl, H96⟩
  by_cases h97 : p0.xKind = 3
  obtain ⟨D98, HP99, ro100, bk101, rr102⟩ := Own.enter0 H36
  refine WL.do rfl (Do.call Try.call30 rfl (op_kindOf_3_ok _ _ p0.xKind HP99 (of_decide_eq_true (decide_eq_true h97))) ?_)
  rintro _ w104 ⟨rfl, HQ105⟩
  have H106 : Own w D w104 [blk g24 [.string ⟨List.toArray ([])⟩, .string ⟨List.toArray ([])⟩] 28, blk g21 (OpD.cells p0) 23] := bk101 _ _ HQ105
  refine Mv rfl rfl (Kn (v := .agg #[.bool true, .func (.func 43) #[] #[], .func (.func 44) #[] #[], .func (.func 45) #[] #[], .func (.func 50) #[] #[]]) rfl rfl rfl (fun _ => by kernel_rfl) (Kn (v := .bool true) rfl rfl rfl (fun _ => by kernel_rfl) ?_))
  refine WL.do rfl (Do.newP (cs := [.bool false, .nilFunc, .nilFunc, .nilFunc, .nilFunc]) (t := 65) H106 rfl rfl (fun _ => by kernel_rfl) ?_)
  intro g107 w108 H109
  replace H109 : Own w D w108 [blk g107 [.bool false, .nilFunc, .nilFunc, .nilFunc, .nilFunc] 65, blk g24 [.string ⟨List.toArray ([])⟩, .string ⟨List.toArray ([])⟩] 28, blk g21 (OpD.cells p0) 23] := H109
  refine WL.do0 (Do.store (vs := [.bool true, .func (.func 43) #[] #[], .func (.func 44) #[] #[], .func (.func 45) #[] #[], .func (.func 50) #[] #[]]) (o := 0) H109 rfl rfl Try.sizeOf65 rfl rfl rfl rfl ?_)
  intro w110 H111
  replace H111 : Own w D w110 [blk g107 [.bool true, .func (.func 43) #[] #[], .func (.func 44) #[] #[], .func (.func 45) #[] #[], .func (.func 50) #[] #[]] 65, blk g24 [.string ⟨List.toArray ([])⟩, .string ⟨List.toArray ([])⟩] 28, blk g21 (OpD.cells p0) 23] := H111
  refine As rfl rfl (WL.nil (Fin.then (Wp.seq (Wp.region (Kn (v := .pointer (some ⟨g107, 3, none⟩)) rfl rfl rfl (fun _ => by kernel_rfl) (WL.val (v := .func (.func 45) #[] #[]) rfl (Yl.load rfl (Lds.one Try.isAgg62 (Cls.of (H111.cls (i := 0) rfl) rfl))) (WL.val (v := .agg (OpD.cells p0).toArray) rfl (Yl.load rfl (Lds.agg (cs := (OpD.cells p0)) Try.isAgg23 Try.sizeOf23 ((H111.cls (i := 2) rfl).lit (k := 0) (m := 6) rfl))) ?_)))))))
  obtain ⟨r117, hr118⟩ : ∃ q, op_spanKey p0 = q := ⟨_, rfl⟩
  obtain ⟨D112, HP113, ro114, bk115, rr116⟩ := Own.enter0 H111
  refine WL.do rfl (Do.callV Try.call45 rfl rfl (op_spanKey_ok _ _ p0 r117 HP113 hr118) ?_)
  rintro _ w119 ⟨rfl, HQ120⟩
  have H121 : Own w D w119 [blk g107 [.bool true, .func (.func 43) #[] #[], .func (.func 44) #[] #[], .func (.func 45) #[] #[], .func (.func 50) #[] #[]] 65, blk g24 [.string ⟨List.toArray ([])⟩, .string ⟨List.toArray ([])⟩] 28, blk g21 (OpD.cells p0) 23] := bk115 _ _ HQ120
  have H122 : Own w D w119 [blk g24 [.string ⟨List.toArray ([])⟩, .string ⟨List.toArray ([])⟩] 28, blk g107 [.bool true, .func (.func 43) #[] #[], .func (.func 44) #[] #[], .func (.func 45) #[] #[], .func (.func 50) #[] #[]] 65, blk g21 (OpD.cells p0) 23] := H121.pick [1, 0, 2] (by decide) rfl
  refine WL.do0 (Do.store (vs := (RangeD.cells r117)) (o := 0) H122 rfl rfl Try.sizeOf28 rfl rfl rfl rfl ?_)
  intro w123 H124
  replace H124 : Own w D w123 [blk g24 (RangeD.cells r117) 28, blk g107 [.bool true, .func (.func 43) #[] #[], .func (.func 44) #[] #[], .func (.func 45) #[] #[], .func (.func 50) #[] #[]] 65, blk g21 (OpD.cells p0) 23] := H124
  refine As rfl rfl (WL.nil (Fin.then (Wp.ret (Fin.res (resN (vs := [.agg (RangeD.cells r117).toArray, .int .i64 0]) rfl (ResV.cell rfl (Lds.agg (cs := (RangeD.cells r117)) Try.isAgg28 Try.sizeOf28 ((H124.cls (i := 0) rfl).lit (k := 0) (m := 2) rfl)) (ResV.tmp rfl ResV.nil)) (Nat.le_of_ble_eq_true rfl)) ?_))))
  have H125 : Own w D w123 [] := H124.pick [] (by decide) rfl
  have e : op_Span p0 = (r117, 0) := Eq.trans (bnd_of hr33) (Eq.trans (if_pos h38) (Eq.trans (if_neg h39) (Eq.trans (if_neg h68) (Eq.trans (if_pos h97) (bnd_of hr118)))))
  obtain ⟨rfl, rfl⟩ := pj2 (e.symm.trans hr)
  exact ⟨rfl, H125⟩
  by_cases h126 : p0.xKind = 4
  obtain ⟨D127, HP128, ro129, bk130, rr131⟩ := Own.enter0 H36
  refine WL.do rfl (Do.call Try.call30 rfl (op_kindOf_4_ok _ _ p0.xKind HP128 (of_decide_eq_true (decide_eq_true h126))) ?_)
  rintro _ w133 ⟨rfl, HQ134⟩
  have H135 : Own w D w133 [blk g24 [.string ⟨List.toArray ([])⟩, .string ⟨List.toArray ([])⟩] 28, blk g21 (OpD.cells p0) 23] := bk130 _ _ HQ134
  refine Mv rfl rfl (Kn (v := .agg #[.bool false, .func (.func 51) #[] #[], .func (.func 52) #[] #[], .func (.func 53) #[] #[], .func (.func 54) #[] #[]]) rfl rfl rfl (fun _ => by kernel_rfl) (Kn (v := .bool true) rfl rfl rfl (fun _ => by kernel_rfl) ?_))
  refine WL.do rfl (Do.newP (cs := [.bool false, .nilFunc, .nilFunc, .nilFunc, .nilFunc]) (t := 65) H135 rfl rfl (fun _ => by kernel_rfl) ?_)
  intro g136 w137 H138
  replace H138 : Own w D w137 [blk g136 [.bool false, .nilFunc, .nilFunc, .nilFunc, .nilFunc] 65, blk g24 [.string ⟨List.toArray ([])⟩, .string ⟨List.toArray ([])⟩] 28, blk g21 (OpD.cells p0) 23] := H138
  refine WL.do0 (Do.store (vs := [.bool false, .func (.func 51) #[] #[], .func (.func 52) #[] #[], .func (.func 53) #[] #[], .func (.func 54) #[] #[]]) (o := 0) H138 rfl rfl Try.sizeOf65 rfl rfl rfl rfl ?_)
  intro w139 H140
  replace H140 : Own w D w139 [blk g136 [.bool false, .func (.func 51) #[] #[], .func (.func 52) #[] #[], .func (.func 53) #[] #[], .func (.func 54) #[] #[]] 65, blk g24 [.string ⟨List.toArray ([])⟩, .string ⟨List.toArray ([])⟩] 28, blk g21 (OpD.cells p0) 23] := H140
  refine As rfl rfl (WL.nil (Fin.then (Wp.seq (Wp.region (Kn (v := .pointer (some ⟨g136, 3, none⟩)) rfl rfl rfl (fun _ => by kernel_rfl) (WL.val (v := .func (.func 53) #[] #[]) rfl (Yl.load rfl (Lds.one Try.isAgg62 (Cls.of (H140.cls (i := 0) rfl) rfl))) (WL.val (v := .agg (OpD.cells p0).toArray) rfl (Yl.load rfl (Lds.agg (cs := (OpD.cells p0)) Try.isAgg23 Try.sizeOf23 ((H140.cls (i := 2) rfl).lit (k := 0) (m := 6) rfl))) ?_)))))))
  obtain ⟨r146, hr147⟩ : ∃ q, op_spanRange p0 = q := ⟨_, rfl⟩
  obtain ⟨D141, HP142, ro143, bk144, rr145⟩ := Own.enter0 H140
  refine WL.do rfl (Do.callV Try.call53 rfl rfl (op_spanRange_ok _ _ p0 r146 HP142 hr147) ?_)
  rintro _ w148 ⟨rfl, HQ149⟩
  have H150 : Own w D w148 [blk g136 [.bool false, .func (.func 51) #[] #[], .func (.func 52) #[] #[], .func (.func 53) #[] #[], .func (.func 54) #[] #[]] 65, blk g24 [.string ⟨List.toArray ([])⟩, .string ⟨List.toArray ([])⟩] 28, blk g21 (OpD.cells p0) 23] := bk144 _ _ HQ149
  have H151 : Own w D w148 [blk g24 [.string ⟨List.toArray ([])⟩, .string ⟨List.toArray ([])⟩] 28, blk g136 [.bool false, .func (.func 51) #[] #[], .func (.func 52) #[] #[], .func (.func 53) #[] #[], .func (.func 54) #[] #[]] 65, blk g21 (OpD.cells p0) 23] := H150.pick [1, 0, 2] (by decide) rfl
  refine WL.do0 (Do.store (vs := (RangeD.cells r146)) (o := 0) H151 rfl rfl Try.sizeOf28 rfl rfl rfl rfl ?_)
  intro w152 H153
  replace H153 : Own w D w152 [blk g24 (RangeD.cells r146) 28, blk g136 [.bool false, .func (.func 51) #[] #[], .func (.func 52) #[] #[], .func (.func 53) #[] #[], .func (.func 54) #[] #[]] 65, blk g21 (OpD.cells p0) 23] := H153
  refine As rfl rfl (WL.nil (Fin.then (Wp.ret (Fin.res (resN (vs := [.agg (RangeD.cells r146).toArray, .int .i64 0]) rfl (ResV.cell rfl (Lds.agg (cs := (RangeD.cells r146)) Try.isAgg28 Try.sizeOf28 ((H153.cls (i := 0) rfl).lit (k := 0) (m := 2) rfl)) (ResV.tmp rfl ResV.nil)) (Nat.le_of_ble_eq_true rfl)) ?_))))
  have H154 : Own w D w152 [] := H153.pick [] (by decide) rfl
  have e : op_Span p0 = (r146, 0) := Eq.trans (bnd_of hr33) (Eq.trans (if_pos h38) (Eq.trans (if_neg h39) (Eq.trans (if_neg h68) (Eq.trans (if_neg h97) (Eq.trans (if_pos h126) (bnd_of hr147))))))
  obtain ⟨rfl, rfl⟩ := pj2 (e.symm.trans hr)
  exact ⟨rfl, H154⟩
  have hb155 : (decide (p0.xKind = 5)) = true := (decide_eq_true (by omega))
  obtain ⟨D156, HP157, ro158, bk159, rr160⟩ := Own.enter0 H36
  refine WL.do rfl (Do.call Try.call30 rfl (op_kindOf_5_ok _ _ p0.xKind HP157 (of_decide_eq_true hb155)) ?_)
  rintro _ w162 ⟨rfl, HQ163⟩
  have H164 : Own w D w162 [blk g24 [.string ⟨List.toArray ([])⟩, .string ⟨List.toArray ([])⟩] 28, blk g21 (OpD.cells p0) 23] := bk159 _ _ HQ163
  refine Mv rfl rfl (Kn (v := .agg #[.bool true, .func (.func 55) #[] #[], .func (.func 56) #[] #[], .func (.func 53) #[] #[], .func (.func 57) #[] #[]]) rfl rfl rfl (fun _ => by kernel_rfl) (Kn (v := .bool true) rfl rfl rfl (fun _ => by kernel_rfl) ?_))
  refine WL.do rfl (Do.newP (cs := [.bool false, .nilFunc, .nilFunc, .nilFunc, .nilFunc]) (t := 65) H164 rfl rfl (fun _ => by kernel_rfl) ?_)
  intro g165 w166 H167
  replace H167 : Own w D w166 [blk g165 [.bool false, .nilFunc, .nilFunc, .nilFunc, .nilFunc] 65, blk g24 [.string ⟨List.toArray ([])⟩, .string ⟨List.toArray ([])⟩] 28, blk g21 (OpD.cells p0) 23] := H167
  refine WL.do0 (Do.store (vs := [.bool true, .func (.func 55) #[] #[], .func (.func 56) #[] #[], .func (.func 53) #[] #[], .func (.func 57) #[] #[]]) (o := 0) H167 rfl rfl Try.sizeOf65 rfl rfl rfl rfl ?_)
  intro w168 H169
  replace H169 : Own w D w168 [blk g165 [.bool true, .func (.func 55) #[] #[], .func (.func 56) #[] #[], .func (.func 53) #[] #[], .func (.func 57) #[] #[]] 65, blk g24 [.string ⟨List.toArray ([])⟩, .string ⟨List.toArray ([])⟩] 28, blk g21 (OpD.cells p0) 23] := H169
  refine As rfl rfl (WL.nil (Fin.then (Wp.seq (Wp.region (Kn (v := .pointer (some ⟨g165, 3, none⟩)) rfl rfl rfl (fun _ => by kernel_rfl) (WL.val (v := .func (.func 53) #[] #[]) rfl (Yl.load rfl (Lds.one Try.isAgg62 (Cls.of (H169.cls (i := 0) rfl) rfl))) (WL.val (v := .agg (OpD.cells p0).toArray) rfl (Yl.load rfl (Lds.agg (cs := (OpD.cells p0)) Try.isAgg23 Try.sizeOf23 ((H169.cls (i := 2) rfl).lit (k := 0) (m := 6) rfl))) ?_)))))))
  obtain ⟨r175, hr176⟩ : ∃ q, op_spanRange p0 = q := ⟨_, rfl⟩
  obtain ⟨D170, HP171, ro172, bk173, rr174⟩ := Own.enter0 H169
  refine WL.do rfl (Do.callV Try.call53 rfl rfl (op_spanRange_ok _ _ p0 r175 HP171 hr176) ?_)
  rintro _ w177 ⟨rfl, HQ178⟩
  have H179 : Own w D w177 [blk g165 [.bool true, .func (.func 55) #[] #[], .func (.func 56) #[] #[], .func (.func 53) #[] #[], .func (.func 57) #[] #[]] 65, blk g24 [.string ⟨List.toArray ([])⟩, .string ⟨List.toArray ([])⟩] 28, blk g21 (OpD.cells p0) 23] := bk173 _ _ HQ178
  have H180 : Own w D w177 [blk g24 [.string ⟨List.toArray ([])⟩, .string ⟨List.toArray ([])⟩] 28, blk g165 [.bool true, .func (.func 55) #[] #[], .func (.func 56) #[] #[], .func (.func 53) #[] #[], .func (.func 57) #[] #[]] 65, blk g21 (OpD.cells p0) 23] := H179.pick [1, 0, 2] (by decide) rfl
  refine WL.do0 (Do.store (vs := (RangeD.cells r175)) (o := 0) H180 rfl rfl Try.sizeOf28 rfl rfl rfl rfl ?_)
  intro w181 H182
  replace H182 : Own w D w181 [blk g24 (RangeD.cells r175) 28, blk g165 [.bool true, .func (.func 55) #[] #[], .func (.func 56) #[] #[], .func (.func 53) #[] #[], .func (.func 57) #[] #[]] 65, blk g21 (OpD.cells p0) 23] := H182
  refine As rfl rfl (WL.nil (Fin.then (Wp.ret (Fin.res (resN (vs := [.agg (RangeD.cells r175).toArray, .int .i64 0]) rfl (ResV.cell rfl (Lds.agg (cs := (RangeD.cells r175)) Try.isAgg28 Try.sizeOf28 ((H182.cls (i := 0) rfl).lit (k := 0) (m := 2) rfl)) (ResV.tmp rfl ResV.nil)) (Nat.le_of_ble_eq_true rfl)) ?_))))
  have H183 : Own w D w181 [] := H182.pick [] (by decide) rfl
  have e : op_Span p0 = (r175, 0) := Eq.trans (bnd_of hr33) (Eq.trans (if_pos h38) (Eq.trans (if_neg h39) (Eq.trans (if_neg h68) (Eq.trans (if_neg h97) (Eq.trans (if_neg h126) (bnd_of hr176))))))
  obtain ⟨rfl, rfl⟩ := pj2 (e.symm.trans hr)
  exact ⟨rfl, H183⟩
  refine Wp.cond1 rfl (decide_eq_true h38) (Wp.seq (Wp.region (Kn (v := .agg #[.string ⟨List.toArray ([])⟩, .string ⟨List.toArray ([])⟩]) rfl rfl rfl (fun _ => by kernel_rfl) (Mv rfl rfl ?_))))
  refine WL.do0 (Do.store (vs := [.string ⟨List.toArray ([])⟩, .string ⟨List.toArray ([])⟩]) (o := 0) H36 rfl rfl Try.sizeOf28 rfl rfl rfl rfl ?_)
  intro w184 H185
  replace H185 : Own w D w184 [blk g24 [.string ⟨List.toArray ([])⟩, .string ⟨List.toArray ([])⟩] 28, blk g21 (OpD.cells p0) 23] := H185
  refine As rfl rfl (WL.nil (Fin.then (Wp.ret (Fin.thenR (Fin.res (resN (vs := [.agg #[.string ⟨List.toArray ([])⟩, .string ⟨List.toArray ([])⟩], .int .i64 r32]) rfl (ResV.cell rfl (Lds.agg (cs := [.string ⟨List.toArray ([])⟩, .string ⟨List.toArray ([])⟩]) Try.isAgg28 Try.sizeOf28 ((H185.cls (i := 0) rfl).lit (k := 0) (m := 2) rfl)) (ResV.tmp rfl ResV.nil)) (Nat.le_of_ble_eq_true rfl)) ?_)))))
  have H186 : Own w D w184 [] := H185.pick [] (by decide) rfl
  have e : op_Span p0 = (RangeD.mk ([]) ([]), r32) := Eq.trans (bnd_of hr33) (if_neg h38)
  obtain ⟨rfl, rfl⟩ := pj2 (e.symm.trans hr)
  exact ⟨rfl, H186⟩

theorem op_each_kind {x : OpD} (h : op_CheckOp x = 0) : 1 ≤ x.xKind ∧ x.xKind ≤ 5 := by
  unfold op_CheckOp at h
  repeat' (split at h <;> first | omega | skip)
theorem op_each_ok0 {l : List OpD} (h : op_checkEach l = 0) : ∀ x ∈ l, op_CheckOp x = 0 := by
  have key : ∀ l : List OpD, lp (op_checkEach_L0 l) (fun _ => 0) = 0 → ∀ x ∈ l, op_CheckOp x = 0 := by
    intro l
    induction l with
    | nil => intro _ x hx; cases hx
    | cons y q ih =>
      intro h x hx
      simp only [op_checkEach_L0, bnd] at h
      by_cases e : op_CheckOp y = 0
      · rw [if_pos e] at h
        rcases List.mem_cons.1 hx with rfl | hx
        · exact e
        · exact ih h x hx
      · rw [if_neg e] at h
        exact absurd h e
  exact key l h
theorem op_each {l : List OpD} (h : op_checkEach l = 0) {i : Nat} {x : OpD} (hx : l[i]? = some x) : 1 ≤ x.xKind ∧ x.xKind ≤ 5 :=
  op_each_kind (op_each_ok0 h x (List.mem_of_getElem? hx))

theorem El32 : Elem Try.prog 32 36 3 40 := elem_of (z := .agg #[.string ⟨List.toArray ([])⟩, .string ⟨List.toArray ([])⟩, .bool false]) Try.underlying32 (by kernel_rfl) rfl (by decide)

structure LockD where
  xRange : RangeD
  xWrite : Bool

def LockD.cells (x : LockD) : List Value := [.string ⟨List.toArray x.xRange.xLo⟩, .string ⟨List.toArray x.xRange.xHi⟩, .bool x.xWrite]

theorem LockD.len : ∀ x, (LockD.cells x).length = 3 := fun _ => rfl

theorem LockD.one : ∀ x, ∀ u ∈ LockD.cells x, u.oneCell' = true := fun x u hu => by
  simp only [LockD.cells, List.mem_cons, List.not_mem_nil, or_false] at hu
  rcases hu with rfl | rfl | rfl <;> rfl

def LockD.Ok (w : World) (x : LockD) : Prop := (RangeD.Ok w x.xRange) ∧ (True)

theorem opens_LockD (w : World) : Opens Try.prog w 36 3 LockD.cells (LockD.Ok w) :=
  (opens_struct (sz := 3) Try.underlying36 (by kernel_rfl) (OpensF.cons (i := 0) (off := 0) (s := 2) rfl rfl (opens_RangeD w) (OpensF.cons (i := 1) (off := 2) (s := 1) rfl rfl (opens_bool Try.underlying4 (by kernel_rfl)) OpensF.nil))).map (fun p => ⟨p.1, p.2.1⟩) LockD.len (fun _ => rfl) fun _ h => ⟨h.1, h.2.1⟩

instance : Inhabited LockD := ⟨⟨default, default⟩⟩

def op_Locks_L0 : List OpD → List LockD → (List LockD)
  | [], l35 => l35
  | x47 :: q37, l35 => if x47.xKind = 1 then bnd (op_spanKey x47) fun yr78 => op_Locks_L0 q37 (l35 ++ [(LockD.mk yr78 false)]) else if x47.xKind = 2 then bnd (op_spanKey x47) fun yr117 => op_Locks_L0 q37 (l35 ++ [(LockD.mk yr117 true)]) else if x47.xKind = 3 then bnd (op_spanKey x47) fun yr156 => op_Locks_L0 q37 (l35 ++ [(LockD.mk yr156 true)]) else if x47.xKind = 4 then bnd (op_spanRange x47) fun yr195 => op_Locks_L0 q37 (l35 ++ [(LockD.mk yr195 false)]) else bnd (op_spanRange x47) fun yr234 => op_Locks_L0 q37 (l35 ++ [(LockD.mk yr234 true)])

def op_Locks (l0 : List OpD) : (List LockD) × Int :=
  bnd (op_checkEach l0) fun yr26 => if yr26 = 0 then bnd (op_Locks_L0 l0 ([])) fun sLrbtL => (sLrbtL, 0) else ([], yr26)

set_option maxRecDepth 100000 in
theorem op_Locks_ok (w : World) (D : Nat → Prop) (A0 : Option Addr) (n0 c0 : Nat) (l0 : List OpD) (r0 : List LockD) (r1 : Int) (H : Own w D w []) (hx0 : Ro w D fun w' => Rds w' 6 A0 n0 (List.flatMap OpD.cells l0)) (hn0 : n0 = List.length l0) (hl0 : List.length l0 * 80 ≤ 211106232532992) (hr : op_Locks l0 = (r0, r1)) :
    Calls Try.prog 13 #[.slice A0 n0 c0] w (Ret fun v w' => ∃ (B0 : Option Addr) (b0 : Nat), v = .tuple #[.slice B0 (List.length r0) b0, .int .i64 r1] ∧ Own w D w' [row B0 (List.length r0) b0 (List.flatMap LockD.cells r0) 36 3]) := by
  subst hn0
  refine Calls.body (args := [.slice A0 (List.length l0) c0]) Try.func13 rfl rfl rfl ?_
  show Wp _ _ _ [(0, .slice A0 (List.length l0) c0)] _ _
  refine Wp.seq (Wp.region (As rfl rfl (As rfl rfl (WL.nil (Fin.then (Wp.seq (Wp.seq (Wp.region (Mv rfl rfl ?_)))))))))
  obtain ⟨r26, hr27⟩ : ∃ q, op_checkEach l0 = q := ⟨_, rfl⟩
  obtain ⟨D21, HP22, ro23, bk24, rr25⟩ := Own.enter0 H
  refine WL.do rfl (Do.call Try.call32 rfl (op_checkEach_ok _ _ A0 (List.length l0) c0 l0 r26 HP22 (ro23 _ hx0) rfl (by omega) hr27) ?_)
  rintro _ w28 ⟨rfl, HQ29⟩
  have H30 : Own w D w28 [] := bk24 _ _ HQ29
  refine As rfl rfl (WL.nil (Fin.then (Wp.seq (Wp.region (Mv rfl rfl (WL.val (v := .bool (decide (¬ (r26 = 0)))) rfl (Yl.bool (e := !(decide (r26 = 0))) (Yl.kern rfl rfl (fun _ => by kernel_rfl)) decide_not.symm) (WL.nil (Fin.then ?_))))))))
  by_cases h31 : r26 = 0
  refine Wp.cond0 rfl (decide_eq_false (not_not_intro h31)) (Wp.skip (Fin.then (Wp.seq (Wp.region (As rfl rfl (WL.nil (Fin.then (Wp.seq (Wp.seq (Wp.region (Mv rfl rfl (Kn (v := .int .i64 ((List.length l0 : Nat) : Int)) rfl rfl rfl (fun _ => by kernel_rfl) (Mv rfl rfl (WL.nil (Fin.then (Wp.block ?_))))))))))))))))
  have H32 : Own w D w28 [row none 0 0 (List.flatMap LockD.cells ([])) 36 3] := H30.free (row_nil 36 3)
  have H38 : Own w D w28 [row none 0 0 (List.flatMap LockD.cells ([])) 36 3] := H32.pick [0] (by decide) rfl
  refine Wp.loop (ι := (Option Addr) × Nat × (List LockD) × Nat) (fun i => [(5, .slice i.1 (List.length i.2.2.1) i.2.1), (17, .int .i64 ((i.2.2.2 : Nat) : Int)), (16, .int .i64 ((List.length l0 : Nat) : Int)), (15, .slice A0 (List.length l0) c0), (3, .int .i64 0), (2, .slice none 0 0)]) (fun (i : (Option Addr) × Nat × (List LockD) × Nat) w' => Own w D w' [row i.1 (List.length i.2.2.1) i.2.1 (List.flatMap LockD.cells i.2.2.1) 36 3] ∧ (i.2.2.2 ≤ List.length l0 ∧ List.length i.2.2.1 = i.2.2.2 ∧ List.length i.2.2.1 ≤ i.2.2.2 ∧ op_Locks_L0 l0 ([]) = op_Locks_L0 (List.drop i.2.2.2 l0) i.2.2.1)) (fun i => List.length l0 - i.2.2.2) (none, 0, [], 0) ⟨rfl, rfl, rfl, rfl, rfl, rfl, trivial⟩ ⟨H38, (show 0 ≤ List.length l0 ∧ 0 = 0 ∧ 0 ≤ 0 ∧ op_Locks_L0 l0 ([]) = op_Locks_L0 (List.drop 0 l0) ([]) from ⟨by omega, by omega, by omega, rfl⟩)⟩ ?_
  rintro ⟨A33, c34, l35, k36⟩ w39 ⟨H40, hf41⟩
  show Wp _ _ _ [(5, .slice A33 (List.length l35) c34), (17, .int .i64 ((k36 : Nat) : Int)), (16, .int .i64 ((List.length l0 : Nat) : Int)), (15, .slice A0 (List.length l0) c0), (3, .int .i64 0), (2, .slice none 0 0)] _ _
  replace H40 : Own w D w39 [row A33 (List.length l35) c34 (List.flatMap LockD.cells l35) 36 3] := H40
  replace hf41 : k36 ≤ List.length l0 ∧ List.length l35 = k36 ∧ List.length l35 ≤ k36 ∧ op_Locks_L0 l0 ([]) = op_Locks_L0 (List.drop k36 l0) l35 := hf41
  obtain ⟨hi43, hi44, hi45, hq42⟩ := hf41
  refine Wp.seq (Wp.region (Kn (v := .bool (decide (((k36 : Nat) : Int) < ((List.length l0 : Nat) : Int)))) rfl rfl rfl (fun _ => by kernel_rfl) (WL.nil (Fin.then (Wp.seq ?_)))))
  by_cases h46 : ((k36 : Nat) : Int) < ((List.length l0 : Nat) : Int)
  obtain ⟨x47, hx48⟩ := rds_at (ls := l0) (i := k36) OpD.len (by decide) (H40.ro hx0) (by first | omega | (simp; done) | (simp; omega))
  have hz49 := op_each (l := l0) (by rw [hr27]; omega) hx48
  have hd50 := drop_at hx48
  refine Wp.cond1 rfl (decide_eq_true h46) (Wp.skip (Fin.then (Wp.seq (Wp.block (Wp.seq (Wp.region (WL.val (v := .pointer (some ⟨ab A0, ao A0 + k36 * 6, none⟩)) rfl (Yl.indexAddr (El24) rfl rfl ((H40.ro hx0).addr (i := k36) (by omega)) (by omega)) (WL.val (v := .agg (OpD.cells x47).toArray) rfl (Yl.load rfl (Lds.agg (cs := (OpD.cells x47)) Try.isAgg23 Try.sizeOf23 ((H40.ro hx0).elem OpD.len hx48 (by decide)))) ?_))))))))
  refine WL.do rfl (Do.newP (cs := [.int .i64 0, .string ⟨List.toArray ([])⟩, .string ⟨List.toArray ([])⟩, .string ⟨List.toArray ([])⟩, .string ⟨List.toArray ([])⟩, .int .i64 0]) (t := 23) H40 rfl rfl (fun _ => by kernel_rfl) ?_)
  intro g51 w52 H53
  replace H53 : Own w D w52 [blk g51 [.int .i64 0, .string ⟨List.toArray ([])⟩, .string ⟨List.toArray ([])⟩, .string ⟨List.toArray ([])⟩, .string ⟨List.toArray ([])⟩, .int .i64 0] 23, row A33 (List.length l35) c34 (List.flatMap LockD.cells l35) 36 3] := H53
  refine WL.do0 (Do.store (vs := (OpD.cells x47)) (o := 0) H53 rfl rfl Try.sizeOf23 rfl rfl rfl rfl ?_)
  intro w54 H55
  replace H55 : Own w D w54 [blk g51 (OpD.cells x47) 23, row A33 (List.length l35) c34 (List.flatMap LockD.cells l35) 36 3] := H55
  refine WL.nil (Fin.then (Wp.seq (Wp.region (Kn (v := .pointer (some ⟨g51, 0, none⟩)) rfl rfl rfl (fun _ => by kernel_rfl) (WL.val (v := .int .i64 x47.xKind) rfl (Yl.load rfl (Lds.one Try.isAgg3 (Cls.of (H55.cls (i := 0) rfl) rfl))) ?_)))))
  by_cases h56 : x47.xKind = 1
  obtain ⟨D57, HP58, ro59, bk60, rr61⟩ := Own.enter0 H55
  refine WL.do rfl (Do.call Try.call30 rfl (op_kindOf_1_ok _ _ x47.xKind HP58 (of_decide_eq_true (decide_eq_true h56))) ?_)
  rintro _ w63 ⟨rfl, HQ64⟩
  have H65 : Own w D w63 [blk g51 (OpD.cells x47) 23, row A33 (List.length l35) c34 (List.flatMap LockD.cells l35) 36 3] := bk60 _ _ HQ64
  refine Mv rfl rfl (Kn (v := .agg #[.bool false, .func (.func 43) #[] #[], .func (.func 44) #[] #[], .func (.func 45) #[] #[], .func (.func 46) #[] #[]]) rfl rfl rfl (fun _ => by kernel_rfl) (Kn (v := .bool true) rfl rfl rfl (fun _ => by kernel_rfl) ?_))
  refine WL.do rfl (Do.newP (cs := [.bool false, .nilFunc, .nilFunc, .nilFunc, .nilFunc]) (t := 65) H65 rfl rfl (fun _ => by kernel_rfl) ?_)
  intro g66 w67 H68
  replace H68 : Own w D w67 [blk g66 [.bool false, .nilFunc, .nilFunc, .nilFunc, .nilFunc] 65, blk g51 (OpD.cells x47) 23, row A33 (List.length l35) c34 (List.flatMap LockD.cells l35) 36 3] := H68
  refine WL.do0 (Do.store (vs := [.bool false, .func (.func 43) #[] #[], .func (.func 44) #[] #[], .func (.func 45) #[] #[], .func (.func 46) #[] #[]]) (o := 0) H68 rfl rfl Try.sizeOf65 rfl rfl rfl rfl ?_)
  intro w69 H70
  replace H70 : Own w D w69 [blk g66 [.bool false, .func (.func 43) #[] #[], .func (.func 44) #[] #[], .func (.func 45) #[] #[], .func (.func 46) #[] #[]] 65, blk g51 (OpD.cells x47) 23, row A33 (List.length l35) c34 (List.flatMap LockD.cells l35) 36 3] := H70
  refine As rfl rfl (WL.nil (Fin.then ?_))
  have H72 := H70.drew
  refine Wp.drawnX [] (fun W => ∃ L', Own w D W ([blk g66 [.bool false, .func (.func 43) #[] #[], .func (.func 44) #[] #[], .func (.func 45) #[] #[], .func (.func 46) #[] #[]] 65, blk g51 (OpD.cells x47) 23] ++ L')) (by kernel_rfl) (by kernel_rfl) (NoP.block (NoP.then (NoP.then (NoP.block (NoP.then NoP.base))))) ⟨_, H72⟩ ?_
  revert H72
  generalize World.drew w69 = w71
  intro H72
  replace H72 : Own w D w71 [blk g66 [.bool false, .func (.func 43) #[] #[], .func (.func 44) #[] #[], .func (.func 45) #[] #[], .func (.func 46) #[] #[]] 65, blk g51 (OpD.cells x47) 23, row A33 (List.length l35) c34 (List.flatMap LockD.cells l35) 36 3] := H72
  refine GX.take (v := .slice A33 (List.length l35) c34) (rs := []) 0 rfl (by kernel_rfl) (fun _ _ => Yl.move rfl) (GX.take (v := .pointer (some ⟨g66, 3, none⟩)) (rs := []) 1 rfl (by kernel_rfl) (fun _ _ => Yl.kern rfl rfl (fun _ => by kernel_rfl)) (GX.take (v := .func (.func 45) #[] #[]) (rs := []) 2 rfl (by kernel_rfl) (fun _ ⟨_, H9⟩ => Yl.load rfl (Lds.one Try.isAgg62 (Cls.of (H9.cls (i := 0) rfl) rfl))) (GX.take (v := .agg (OpD.cells x47).toArray) (rs := []) 3 rfl (by kernel_rfl) (fun _ ⟨_, H9⟩ => Yl.load rfl (Lds.agg (cs := (OpD.cells x47)) Try.isAgg23 Try.sizeOf23 ((H9.cls (i := 1) rfl).lit (k := 0) (m := 6) rfl))) (GX.take (v := .pointer (some ⟨g66, 0, none⟩)) (rs := []) 5 rfl (by kernel_rfl) (fun _ _ => Yl.kern rfl rfl (fun _ => by kernel_rfl)) (GX.take (v := .bool false) (rs := []) 6 rfl (by kernel_rfl) (fun _ ⟨_, H9⟩ => Yl.load rfl (Lds.one Try.isAgg4 (Cls.of (H9.cls (i := 0) rfl) rfl))) ?_)))))
  obtain ⟨r78, hr79⟩ : ∃ q, op_spanKey x47 = q := ⟨_, rfl⟩
  obtain ⟨D73, HP74, ro75, bk76, rr77⟩ := Own.enter0 H72
  refine GX.do 4 rfl (by kernel_rfl) (Do.callV Try.call45 rfl rfl (op_spanKey_ok _ _ x47 r78 HP74 hr79) ?_)
  rintro _ w80 ⟨rfl, HQ81⟩
  have H82 : Own w D w80 [blk g66 [.bool false, .func (.func 43) #[] #[], .func (.func 44) #[] #[], .func (.func 45) #[] #[], .func (.func 46) #[] #[]] 65, blk g51 (OpD.cells x47) 23, row A33 (List.length l35) c34 (List.flatMap LockD.cells l35) 36 3] := bk76 _ _ HQ81
  refine ⟨.inr ⟨_, H82⟩, ?_⟩
  refine GX.take (v := .agg #[.string ⟨List.toArray r78.xLo⟩, .string ⟨List.toArray r78.xHi⟩, .bool false]) (rs := []) 7 rfl (by kernel_rfl) (fun _ _ => Yl.kern rfl rfl (fun _ => by kernel_rfl)) ?_
  refine GX.do 8 rfl (by kernel_rfl) (Do.newRow (cs := [.string ⟨List.toArray r78.xLo⟩, .string ⟨List.toArray r78.xHi⟩, .bool false]) (t := 36) (sz := 3) (m := 1) H82 rfl rfl (fun _ => by kernel_rfl) rfl (by decide) ?_)
  intro A83 w84 H85
  replace H85 : Own w D w84 [row A83 1 1 (List.flatMap LockD.cells ([(LockD.mk r78 false)])) 36 3, blk g66 [.bool false, .func (.func 43) #[] #[], .func (.func 44) #[] #[], .func (.func 45) #[] #[], .func (.func 46) #[] #[]] 65, blk g51 (OpD.cells x47) 23, row A33 (List.length l35) c34 (List.flatMap LockD.cells l35) 36 3] := H85
  have H86 : Own w D w84 [blk g66 [.bool false, .func (.func 43) #[] #[], .func (.func 44) #[] #[], .func (.func 45) #[] #[], .func (.func 46) #[] #[]] 65, blk g51 (OpD.cells x47) 23, row A83 1 1 (List.flatMap LockD.cells ([(LockD.mk r78 false)])) 36 3, row A33 (List.length l35) c34 (List.flatMap LockD.cells l35) 36 3] := H85.pick [1, 2, 0, 3] (by decide) rfl
  refine ⟨.inr ⟨_, H86⟩, ?_⟩
  have H87 : Own w D w84 [row A33 (List.length l35) c34 (List.flatMap LockD.cells l35) 36 3, blk g66 [.bool false, .func (.func 43) #[] #[], .func (.func 44) #[] #[], .func (.func 45) #[] #[], .func (.func 46) #[] #[]] 65, blk g51 (OpD.cells x47) 23, row A83 1 1 (List.flatMap LockD.cells ([(LockD.mk r78 false)])) 36 3] := H86.pick [3, 0, 1, 2] (by decide) rfl
  refine GX.do 9 rfl (by kernel_rfl) (Do.appendW (k := List.length l35) (m := 1) (El32) H87 rfl rfl (src_of Try.underlying32 (H87.rds (i := 3) rfl) (flat_one LockD.one ([(LockD.mk r78 false)]))) rfl (by omega) (s := List.length (l35 ++ [(LockD.mk r78 false)])) (by first | (simp only [List.length_append, List.length_cons, List.length_nil]; done) | (simp only [List.length_append, List.length_cons, List.length_nil]; omega)) (List.flatMap_append).symm ?_)
  intro A88 c89 w90 H91
  replace H91 : Own w D w90 [row A88 (List.length (l35 ++ [(LockD.mk r78 false)])) c89 (List.flatMap LockD.cells (l35 ++ [(LockD.mk r78 false)])) 36 3, blk g66 [.bool false, .func (.func 43) #[] #[], .func (.func 44) #[] #[], .func (.func 45) #[] #[], .func (.func 46) #[] #[]] 65, blk g51 (OpD.cells x47) 23, row A83 1 1 (List.flatMap LockD.cells ([(LockD.mk r78 false)])) 36 3] := H91
  have hl92 : List.length (l35 ++ [(LockD.mk r78 false)]) = List.length l35 + 1 := by simp only [List.length_append, List.length_cons, List.length_nil]
  have H93 : Own w D w90 [blk g66 [.bool false, .func (.func 43) #[] #[], .func (.func 44) #[] #[], .func (.func 45) #[] #[], .func (.func 46) #[] #[]] 65, blk g51 (OpD.cells x47) 23, row A88 (List.length (l35 ++ [(LockD.mk r78 false)])) c89 (List.flatMap LockD.cells (l35 ++ [(LockD.mk r78 false)])) 36 3, row A83 1 1 (List.flatMap LockD.cells ([(LockD.mk r78 false)])) 36 3] := H91.pick [1, 2, 0, 3] (by decide) rfl
  refine ⟨.inr ⟨_, H93⟩, ?_⟩
  refine GX.take (v := .slice A88 (List.length (l35 ++ [(LockD.mk r78 false)])) c89) (rs := []) 10 rfl (by kernel_rfl) (fun _ _ => Yl.assign rfl) (GX.done (by kernel_rfl) (Fin.blockN (Fin.then (Wp.region (WL.val (v := .int .i64 ((k36 + 1 : Nat) : Int)) rfl (Yl.int (e := IntKind.i64.wrap (((k36 : Nat) : Int) + 1)) (Yl.kern rfl rfl (fun _ => by kernel_rfl)) (by rw [IntWalk.i64_in _ (by omega)]; omega)) (Mv rfl rfl (WL.nil ?_)))))))
  have H94 : Own w D w90 [row A88 (List.length (l35 ++ [(LockD.mk r78 false)])) c89 (List.flatMap LockD.cells (l35 ++ [(LockD.mk r78 false)])) 36 3] := H93.pick [2] (by decide) rfl
  exact Fin.round (A88, c89, (l35 ++ [(LockD.mk r78 false)]), k36 + 1) ⟨rfl, rfl, rfl, rfl, rfl, rfl, trivial⟩ ⟨H94, (show (k36 + 1) ≤ List.length l0 ∧ List.length (l35 ++ [(LockD.mk r78 false)]) = (k36 + 1) ∧ List.length (l35 ++ [(LockD.mk r78 false)]) ≤ (k36 + 1) ∧ op_Locks_L0 l0 ([]) = op_Locks_L0 (List.drop (k36 + 1) l0) (l35 ++ [(LockD.mk r78 false)]) from ⟨by omega, by omega, by omega, Eq.trans (hq42) (Eq.trans (congrArg (fun q => op_Locks_L0 q l35) hd50) (Eq.trans (if_pos h56) (bnd_of hr79)))⟩)⟩ (by show List.length l0 - (k36 + 1) < List.length l0 - k36; omega)
  by_cases h95 : x47.xKind = 2
  obtain ⟨D96, HP97, ro98, bk99, rr100⟩ := Own.enter0 H55
  refine WL.do rfl (Do.call Try.call30 rfl (op_kindOf_2_ok _ _ x47.xKind HP97 (of_decide_eq_true (decide_eq_true h95))) ?_)
  rintro _ w102 ⟨rfl, HQ103⟩
  have H104 : Own w D w102 [blk g51 (OpD.cells x47) 23, row A33 (List.length l35) c34 (List.flatMap LockD.cells l35) 36 3] := bk99 _ _ HQ103
  refine Mv rfl rfl (Kn (v := .agg #[.bool true, .func (.func 47) #[] #[], .func (.func 48) #[] #[], .func (.func 45) #[] #[], .func (.func 49) #[] #[]]) rfl rfl rfl (fun _ => by kernel_rfl) (Kn (v := .bool true) rfl rfl rfl (fun _ => by kernel_rfl) ?_))
  refine WL.do rfl (Do.newP (cs := [.bool false, .nilFunc, .nilFunc, .nilFunc, .nilFunc]) (t := 65) H104 rfl rfl (fun _ => by kernel_rfl) ?_)
  intro g105 w106 H107
  replace H107 : Own w D w106 [blk g105 [.bool false, .nilFunc, .nilFunc, .nilFunc, .nilFunc] 65, blk g51 (OpD.cells x47) 23, row A33 (List.length l35) c34 (List.flatMap LockD.cells l35) 36 3] := H107
  refine WL.do0 (Do.store (vs := [.bool true, .func (.func 47) #[] #[], .func (.func 48) #[] #[], .func (.func 45) #[] #[], .func (.func 49) #[] #[]]) (o := 0) H107 rfl rfl Try.sizeOf65 rfl rfl rfl rfl ?_)
  intro w108 H109
  replace H109 : Own w D w108 [blk g105 [.bool true, .func (.func 47) #[] #[], .func (.func 48) #[] #[], .func (.func 45) #[] #[], .func (.func 49) #[] #[]] 65, blk g51 (OpD.cells x47) 23, row A33 (List.length l35) c34 (List.flatMap LockD.cells l35) 36 3] := H109
  refine As rfl rfl (WL.nil (Fin.then ?_))
  have H111 := H109.drew
  refine Wp.drawnX [] (fun W => ∃ L', Own w D W ([blk g105 [.bool true, .func (.func 47) #[] #[], .func (.func 48) #[] #[], .func (.func 45) #[] #[], .func (.func 49) #[] #[]] 65, blk g51 (OpD.cells x47) 23] ++ L')) (by kernel_rfl) (by kernel_rfl) (NoP.block (NoP.then (NoP.then (NoP.block (NoP.then NoP.base))))) ⟨_, H111⟩ ?_
  revert H111
  generalize World.drew w108 = w110
  intro H111
  replace H111 : Own w D w110 [blk g105 [.bool true, .func (.func 47) #[] #[], .func (.func 48) #[] #[], .func (.func 45) #[] #[], .func (.func 49) #[] #[]] 65, blk g51 (OpD.cells x47) 23, row A33 (List.length l35) c34 (List.flatMap LockD.cells l35) 36 3] := H111
  refine GX.take (v := .slice A33 (List.length l35) c34) (rs := []) 0 rfl (by kernel_rfl) (fun _ _ => Yl.move rfl) (GX.take (v := .pointer (some ⟨g105, 3, none⟩)) (rs := []) 1 rfl (by kernel_rfl) (fun _ _ => Yl.kern rfl rfl (fun _ => by kernel_rfl)) (GX.take (v := .func (.func 45) #[] #[]) (rs := []) 2 rfl (by kernel_rfl) (fun _ ⟨_, H9⟩ => Yl.load rfl (Lds.one Try.isAgg62 (Cls.of (H9.cls (i := 0) rfl) rfl))) (GX.take (v := .agg (OpD.cells x47).toArray) (rs := []) 3 rfl (by kernel_rfl) (fun _ ⟨_, H9⟩ => Yl.load rfl (Lds.agg (cs := (OpD.cells x47)) Try.isAgg23 Try.sizeOf23 ((H9.cls (i := 1) rfl).lit (k := 0) (m := 6) rfl))) (GX.take (v := .pointer (some ⟨g105, 0, none⟩)) (rs := []) 5 rfl (by kernel_rfl) (fun _ _ => Yl.kern rfl rfl (fun _ => by kernel_rfl)) (GX.take (v := .bool true) (rs := []) 6 rfl (by kernel_rfl) (fun _ ⟨_, H9⟩ => Yl.load rfl (Lds.one Try.isAgg4 (Cls.of (H9.cls (i := 0) rfl) rfl))) ?_)))))
  obtain ⟨r117, hr118⟩ : ∃ q, op_spanKey x47 = q := ⟨_, rfl⟩
  obtain ⟨D112, HP113, ro114, bk115, rr116⟩ := Own.enter0 H111
  refine GX.do 4 rfl (by kernel_rfl) (Do.callV Try.call45 rfl rfl (op_spanKey_ok _ _ x47 r117 HP113 hr118) ?_)
  rintro _ w119 ⟨rfl, HQ120⟩
  have H121 : Own w D w119 [blk g105 [.bool true, .func (.func 47) #[] #[], .func (.func 48) #[] #[], .func (.func 45) #[] #[], .func (.func 49) #[] #[]] 65, blk g51 (OpD.cells x47) 23, row A33 (List.length l35) c34 (List.flatMap LockD.cells l35) 36 3] := bk115 _ _ HQ120
  refine ⟨.inr ⟨_, H121⟩, ?_⟩
  refine GX.take (v := .agg #[.string ⟨List.toArray r117.xLo⟩, .string ⟨List.toArray r117.xHi⟩, .bool true]) (rs := []) 7 rfl (by kernel_rfl) (fun _ _ => Yl.kern rfl rfl (fun _ => by kernel_rfl)) ?_
  refine GX.do 8 rfl (by kernel_rfl) (Do.newRow (cs := [.string ⟨List.toArray r117.xLo⟩, .string ⟨List.toArray r117.xHi⟩, .bool true]) (t := 36) (sz := 3) (m := 1) H121 rfl rfl (fun _ => by kernel_rfl) rfl (by decide) ?_)
  intro A122 w123 H124
  replace H124 : Own w D w123 [row A122 1 1 (List.flatMap LockD.cells ([(LockD.mk r117 true)])) 36 3, blk g105 [.bool true, .func (.func 47) #[] #[], .func (.func 48) #[] #[], .func (.func 45) #[] #[], .func (.func 49) #[] #[]] 65, blk g51 (OpD.cells x47) 23, row A33 (List.length l35) c34 (List.flatMap LockD.cells l35) 36 3] := H124
  have H125 : Own w D w123 [blk g105 [.bool true, .func (.func 47) #[] #[], .func (.func 48) #[] #[], .func (.func 45) #[] #[], .func (.func 49) #[] #[]] 65, blk g51 (OpD.cells x47) 23, row A122 1 1 (List.flatMap LockD.cells ([(LockD.mk r117 true)])) 36 3, row A33 (List.length l35) c34 (List.flatMap LockD.cells l35) 36 3] := H124.pick [1, 2, 0, 3] (by decide) rfl
  refine ⟨.inr ⟨_, H125⟩, ?_⟩
  have H126 : Own w D w123 [row A33 (List.length l35) c34 (List.flatMap LockD.cells l35) 36 3, blk g105 [.bool true, .func (.func 47) #[] #[], .func (.func 48) #[] #[], .func (.func 45) #[] #[], .func (.func 49) #[] #[]] 65, blk g51 (OpD.cells x47) 23, row A122 1 1 (List.flatMap LockD.cells ([(LockD.mk r117 true)])) 36 3] := H125.pick [3, 0, 1, 2] (by decide) rfl
  refine GX.do 9 rfl (by kernel_rfl) (Do.appendW (k := List.length l35) (m := 1) (El32) H126 rfl rfl (src_of Try.underlying32 (H126.rds (i := 3) rfl) (flat_one LockD.one ([(LockD.mk r117 true)]))) rfl (by omega) (s := List.length (l35 ++ [(LockD.mk r117 true)])) (by first | (simp only [List.length_append, List.length_cons, List.length_nil]; done) | (simp only [List.length_append, List.length_cons, List.length_nil]; omega)) (List.flatMap_append).symm ?_)
  intro A127 c128 w129 H130
  replace H130 : Own w D w129 [row A127 (List.length (l35 ++ [(LockD.mk r117 true)])) c128 (List.flatMap LockD.cells (l35 ++ [(LockD.mk r117 true)])) 36 3, blk g105 [.bool true, .func (.func 47) #[] #[], .func (.func 48) #[] #[], .func (.func 45) #[] #[], .func (.func 49) #[] #[]] 65, blk g51 (OpD.cells x47) 23, row A122 1 1 (List.flatMap LockD.cells ([(LockD.mk r117 true)])) 36 3] := H130
  have hl131 : List.length (l35 ++ [(LockD.mk r117 true)]) = List.length l35 + 1 := by simp only [List.length_append, List.length_cons, List.length_nil]
  have H132 : Own w D w129 [blk g105 [.bool true, .func (.func 47) #[] #[], .func (.func 48) #[] #[], .func (.func 45) #[] #[], .func (.func 49) #[] #[]] 65, blk g51 (OpD.cells x47) 23, row A127 (List.length (l35 ++ [(LockD.mk r117 true)])) c128 (List.flatMap LockD.cells (l35 ++ [(LockD.mk r117 true)])) 36 3, row A122 1 1 (List.flatMap LockD.cells ([(LockD.mk r117 true)])) 36 3] := H130.pick [1, 2, 0, 3] (by decide) rfl
  refine ⟨.inr ⟨_, H132⟩, ?_⟩
  refine GX.take (v := .slice A127 (List.length (l35 ++ [(LockD.mk r117 true)])) c128) (rs := []) 10 rfl (by kernel_rfl) (fun _ _ => Yl.assign rfl) (GX.done (by kernel_rfl) (Fin.blockN (Fin.then (Wp.region (WL.val (v := .int .i64 ((k36 + 1 : Nat) : Int)) rfl (Yl.int (e := IntKind.i64.wrap (((k36 : Nat) : Int) + 1)) (Yl.kern rfl rfl (fun _ => by kernel_rfl)) (by rw [IntWalk.i64_in _ (by omega)]; omega)) (Mv rfl rfl (WL.nil ?_)))))))
  have H133 : Own w D w129 [row A127 (List.length (l35 ++ [(LockD.mk r117 true)])) c128 (List.flatMap LockD.cells (l35 ++ [(LockD.mk r117 true)])) 36 3] := H132.pick [2] (by decide) rfl
  exact Fin.round (A127, c128, (l35 ++ [(LockD.mk r117 true)]), k36 + 1) ⟨rfl, rfl, rfl, rfl, rfl, rfl, trivial⟩ ⟨H133, (show (k36 + 1) ≤ List.length l0 ∧ List.length (l35 ++ [(LockD.mk r117 true)]) = (k36 + 1) ∧ List.length (l35 ++ [(LockD.mk r117 true)]) ≤ (k36 + 1) ∧ op_Locks_L0 l0 ([]) = op_Locks_L0 (List.drop (k36 + 1) l0) (l35 ++ [(LockD.mk r117 true)]) from ⟨by omega, by omega, by omega, Eq.trans (hq42) (Eq.trans (congrArg (fun q => op_Locks_L0 q l35) hd50) (Eq.trans (if_neg h56) (Eq.trans (if_pos h95) (bnd_of hr118))))⟩)⟩ (by show List.length l0 - (k36 + 1) < List.length l0 - k36; omega)
  by_cases h134 : x47.xKind = 3
  obtain ⟨D135, HP136, ro137, bk138, rr139⟩ := Own.enter0 H55
  refine WL.do rfl (Do.call Try.call30 rfl (op_kindOf_3_ok _ _ x47.xKind HP136 (of_decide_eq_true (decide_eq_true h134))) ?_)
  rintro _ w141 ⟨rfl, HQ142⟩
  have H143 : Own w D w141 [blk g51 (OpD.cells x47) 23, row A33 (List.length l35) c34 (List.flatMap LockD.cells l35) 36 3] := bk138 _ _ HQ142
  refine Mv rfl rfl (Kn (v := .agg #[.bool true, .func (.func 43) #[] #[], .func (.func 44) #[] #[], .func (.func 45) #[] #[], .func (.func 50) #[] #[]]) rfl rfl rfl (fun _ => by kernel_rfl) (Kn (v := .bool true) rfl rfl rfl (fun _ => by kernel_rfl) ?_))
  refine WL.do rfl (Do.newP (cs := [.bool false, .nilFunc, .nilFunc, .nilFunc, .nilFunc]) (t := 65) H143 rfl rfl (fun _ => by kernel_rfl) ?_)
  intro g144 w145 H146
  replace H146 : Own w D w145 [blk g144 [.bool false, .nilFunc, .nilFunc, .nilFunc, .nilFunc] 65, blk g51 (OpD.cells x47) 23, row A33 (List.length l35) c34 (List.flatMap LockD.cells l35) 36 3] := H146
  refine WL.do0 (Do.store (vs := [.bool true, .func (.func 43) #[] #[], .func (.func 44) #[] #[], .func (.func 45) #[] #[], .func (.func 50) #[] #[]]) (o := 0) H146 rfl rfl Try.sizeOf65 rfl rfl rfl rfl ?_)
  intro w147 H148
  replace H148 : Own w D w147 [blk g144 [.bool true, .func (.func 43) #[] #[], .func (.func 44) #[] #[], .func (.func 45) #[] #[], .func (.func 50) #[] #[]] 65, blk g51 (OpD.cells x47) 23, row A33 (List.length l35) c34 (List.flatMap LockD.cells l35) 36 3] := H148
  refine As rfl rfl (WL.nil (Fin.then ?_))
  have H150 := H148.drew
  refine Wp.drawnX [] (fun W => ∃ L', Own w D W ([blk g144 [.bool true, .func (.func 43) #[] #[], .func (.func 44) #[] #[], .func (.func 45) #[] #[], .func (.func 50) #[] #[]] 65, blk g51 (OpD.cells x47) 23] ++ L')) (by kernel_rfl) (by kernel_rfl) (NoP.block (NoP.then (NoP.then (NoP.block (NoP.then NoP.base))))) ⟨_, H150⟩ ?_
  revert H150
  generalize World.drew w147 = w149
  intro H150
  replace H150 : Own w D w149 [blk g144 [.bool true, .func (.func 43) #[] #[], .func (.func 44) #[] #[], .func (.func 45) #[] #[], .func (.func 50) #[] #[]] 65, blk g51 (OpD.cells x47) 23, row A33 (List.length l35) c34 (List.flatMap LockD.cells l35) 36 3] := H150
  refine GX.take (v := .slice A33 (List.length l35) c34) (rs := []) 0 rfl (by kernel_rfl) (fun _ _ => Yl.move rfl) (GX.take (v := .pointer (some ⟨g144, 3, none⟩)) (rs := []) 1 rfl (by kernel_rfl) (fun _ _ => Yl.kern rfl rfl (fun _ => by kernel_rfl)) (GX.take (v := .func (.func 45) #[] #[]) (rs := []) 2 rfl (by kernel_rfl) (fun _ ⟨_, H9⟩ => Yl.load rfl (Lds.one Try.isAgg62 (Cls.of (H9.cls (i := 0) rfl) rfl))) (GX.take (v := .agg (OpD.cells x47).toArray) (rs := []) 3 rfl (by kernel_rfl) (fun _ ⟨_, H9⟩ => Yl.load rfl (Lds.agg (cs := (OpD.cells x47)) Try.isAgg23 Try.sizeOf23 ((H9.cls (i := 1) rfl).lit (k := 0) (m := 6) rfl))) (GX.take (v := .pointer (some ⟨g144, 0, none⟩)) (rs := []) 5 rfl (by kernel_rfl) (fun _ _ => Yl.kern rfl rfl (fun _ => by kernel_rfl)) (GX.take (v := .bool true) (rs := []) 6 rfl (by kernel_rfl) (fun _ ⟨_, H9⟩ => Yl.load rfl (Lds.one Try.isAgg4 (Cls.of (H9.cls (i := 0) rfl) rfl))) ?_)))))
  obtain ⟨r156, hr157⟩ : ∃ q, op_spanKey x47 = q := ⟨_, rfl⟩
  obtain ⟨D151, HP152, ro153, bk154, rr155⟩ := Own.enter0 H150
  refine GX.do 4 rfl (by kernel_rfl) (Do.callV Try.call45 rfl rfl (op_spanKey_ok _ _ x47 r156 HP152 hr157) ?_)
  rintro _ w158 ⟨rfl, HQ159⟩
  have H160 : Own w D w158 [blk g144 [.bool true, .func (.func 43) #[] #[], .func (.func 44) #[] #[], .func (.func 45) #[] #[], .func (.func 50) #[] #[]] 65, blk g51 (OpD.cells x47) 23, row A33 (List.length l35) c34 (List.flatMap LockD.cells l35) 36 3] := bk154 _ _ HQ159
  refine ⟨.inr ⟨_, H160⟩, ?_⟩
  refine GX.take (v := .agg #[.string ⟨List.toArray r156.xLo⟩, .string ⟨List.toArray r156.xHi⟩, .bool true]) (rs := []) 7 rfl (by kernel_rfl) (fun _ _ => Yl.kern rfl rfl (fun _ => by kernel_rfl)) ?_
  refine GX.do 8 rfl (by kernel_rfl) (Do.newRow (cs := [.string ⟨List.toArray r156.xLo⟩, .string ⟨List.toArray r156.xHi⟩, .bool true]) (t := 36) (sz := 3) (m := 1) H160 rfl rfl (fun _ => by kernel_rfl) rfl (by decide) ?_)
  intro A161 w162 H163
  replace H163 : Own w D w162 [row A161 1 1 (List.flatMap LockD.cells ([(LockD.mk r156 true)])) 36 3, blk g144 [.bool true, .func (.func 43) #[] #[], .func (.func 44) #[] #[], .func (.func 45) #[] #[], .func (.func 50) #[] #[]] 65, blk g51 (OpD.cells x47) 23, row A33 (List.length l35) c34 (List.flatMap LockD.cells l35) 36 3] := H163
  have H164 : Own w D w162 [blk g144 [.bool true, .func (.func 43) #[] #[], .func (.func 44) #[] #[], .func (.func 45) #[] #[], .func (.func 50) #[] #[]] 65, blk g51 (OpD.cells x47) 23, row A161 1 1 (List.flatMap LockD.cells ([(LockD.mk r156 true)])) 36 3, row A33 (List.length l35) c34 (List.flatMap LockD.cells l35) 36 3] := H163.pick [1, 2, 0, 3] (by decide) rfl
  refine ⟨.inr ⟨_, H164⟩, ?_⟩
  have H165 : Own w D w162 [row A33 (List.length l35) c34 (List.flatMap LockD.cells l35) 36 3, blk g144 [.bool true, .func (.func 43) #[] #[], .func (.func 44) #[] #[], .func (.func 45) #[] #[], .func (.func 50) #[] #[]] 65, blk g51 (OpD.cells x47) 23, row A161 1 1 (List.flatMap LockD.cells ([(LockD.mk r156 true)])) 36 3] := H164.pick [3, 0, 1, 2] (by decide) rfl
  refine GX.do 9 rfl (by kernel_rfl) (Do.appendW (k := List.length l35) (m := 1) (El32) H165 rfl rfl (src_of Try.underlying32 (H165.rds (i := 3) rfl) (flat_one LockD.one ([(LockD.mk r156 true)]))) rfl (by omega) (s := List.length (l35 ++ [(LockD.mk r156 true)])) (by first | (simp only [List.length_append, List.length_cons, List.length_nil]; done) | (simp only [List.length_append, List.length_cons, List.length_nil]; omega)) (List.flatMap_append).symm ?_)
  intro A166 c167 w168 H169
  replace H169 : Own w D w168 [row A166 (List.length (l35 ++ [(LockD.mk r156 true)])) c167 (List.flatMap LockD.cells (l35 ++ [(LockD.mk r156 true)])) 36 3, blk g144 [.bool true, .func (.func 43) #[] #[], .func (.func 44) #[] #[], .func (.func 45) #[] #[], .func (.func 50) #[] #[]] 65, blk g51 (OpD.cells x47) 23, row A161 1 1 (List.flatMap LockD.cells ([(LockD.mk r156 true)])) 36 3] := H169
  have hl170 : List.length (l35 ++ [(LockD.mk r156 true)]) = List.length l35 + 1 := by simp only [List.length_append, List.length_cons, List.length_nil]
  have H171 : Own w D w168 [blk g144 [.bool true, .func (.func 43) #[] #[], .func (.func 44) #[] #[], .func (.func 45) #[] #[], .func (.func 50) #[] #[]] 65, blk g51 (OpD.cells x47) 23, row A166 (List.length (l35 ++ [(LockD.mk r156 true)])) c167 (List.flatMap LockD.cells (l35 ++ [(LockD.mk r156 true)])) 36 3, row A161 1 1 (List.flatMap LockD.cells ([(LockD.mk r156 true)])) 36 3] := H169.pick [1, 2, 0, 3] (by decide) rfl
  refine ⟨.inr ⟨_, H171⟩, ?_⟩
  refine GX.take (v := .slice A166 (List.length (l35 ++ [(LockD.mk r156 true)])) c167) (rs := []) 10 rfl (by kernel_rfl) (fun _ _ => Yl.assign rfl) (GX.done (by kernel_rfl) (Fin.blockN (Fin.then (Wp.region (WL.val (v := .int .i64 ((k36 + 1 : Nat) : Int)) rfl (Yl.int (e := IntKind.i64.wrap (((k36 : Nat) : Int) + 1)) (Yl.kern rfl rfl (fun _ => by kernel_rfl)) (by rw [IntWalk.i64_in _ (by omega)]; omega)) (Mv rfl rfl (WL.nil ?_)))))))
  have H172 : Own w D w168 [row A166 (List.length (l35 ++ [(LockD.mk r156 true)])) c167 (List.flatMap LockD.cells (l35 ++ [(LockD.mk r156 true)])) 36 3] := H171.pick [2] (by decide) rfl
  exact Fin.round (A166, c167, (l35 ++ [(LockD.mk r156 true)]), k36 + 1) ⟨rfl, rfl, rfl, rfl, rfl, rfl, trivial⟩ ⟨H172, (show (k36 + 1) ≤ List.length l0 ∧ List.length (l35 ++ [(LockD.mk r156 true)]) = (k36 + 1) ∧ List.length (l35 ++ [(LockD.mk r156 true)]) ≤ (k36 + 1) ∧ op_Locks_L0 l0 ([]) = op_Locks_L0 (List.drop (k36 + 1) l0) (l35 ++ [(LockD.mk r156 true)]) from ⟨by omega, by omega, by omega, Eq.trans (hq42) (Eq.trans (congrArg (fun q => op_Locks_L0 q l35) hd50) (Eq.trans (if_neg h56) (Eq.trans (if_neg h95) (Eq.trans (if_pos h134) (bnd_of hr157)))))⟩)⟩ (by show List.length l0 - (k36 + 1) < List.length l0 - k36; omega)
  by_cases h173 : x47.xKind = 4
  obtain ⟨D174, HP175, ro176, bk177, rr178⟩ := Own.enter0 H55
  refine WL.do rfl (Do.call Try.call30 rfl (op_kindOf_4_ok _ _ x47.xKind HP175 (of_decide_eq_true (decide_eq_true h173))) ?_)
  rintro _ w180 ⟨rfl, HQ181⟩
  have H182 : Own w D w180 [blk g51 (OpD.cells x47) 23, row A33 (List.length l35) c34 (List.flatMap LockD.cells l35) 36 3] := bk177 _ _ HQ181
  refine Mv rfl rfl (Kn (v := .agg #[.bool false, .func (.func 51) #[] #[], .func (.func 52) #[] #[], .func (.func 53) #[] #[], .func (.func 54) #[] #[]]) rfl rfl rfl (fun _ => by kernel_rfl) (Kn (v := .bool true) rfl rfl rfl (fun _ => by kernel_rfl) ?_))
  refine WL.do rfl (Do.newP (cs := [.bool false, .nilFunc, .nilFunc, .nilFunc, .nilFunc]) (t := 65) H182 rfl rfl (fun _ => by kernel_rfl) ?_)
  intro g183 w184 H185
  replace H185 : Own w D w184 [blk g183 [.bool false, .nilFunc, .nilFunc, .nilFunc, .nilFunc] 65, blk g51 (OpD.cells x47) 23, row A33 (List.length l35) c34 (List.flatMap LockD.cells l35) 36 3] := H185
  refine WL.do0 (Do.store (vs := [.bool false, .func (.func 51) #[] #[], .func (.func 52) #[] #[], .func (.func 53) #[] #[], .func (.func 54) #[] #[]]) (o := 0) H185 rfl rfl Try.sizeOf65 rfl rfl rfl rfl ?_)
  intro w186 H187
  replace H187 : Own w D w186 [blk g183 [.bool false, .func (.func 51) #[] #[], .func (.func 52) #[] #[], .func (.func 53) #[] #[], .func (.func 54) #[] #[]] 65, blk g51 (OpD.cells x47) 23, row A33 (List.length l35) c34 (List.flatMap LockD.cells l35) 36 3] := H187
  refine As rfl rfl (WL.nil (Fin.then ?_))
  have H189 := H187.drew
  refine Wp.drawnX [] (fun W => ∃ L', Own w D W ([blk g183 [.bool false, .func (.func 51) #[] #[], .func (.func 52) #[] #[], .func (.func 53) #[] #[], .func (.func 54) #[] #[]] 65, blk g51 (OpD.cells x47) 23] ++ L')) (by kernel_rfl) (by kernel_rfl) (NoP.block (NoP.then (NoP.then (NoP.block (NoP.then NoP.base))))) ⟨_, H189⟩ ?_
  revert H189
  generalize World.drew w186 = w188
  intro H189
  replace H189 : Own w D w188 [blk g183 [.bool false, .func (.func 51) #[] #[], .func (.func 52) #[] #[], .func (.func 53) #[] #[], .func (.func 54) #[] #[]] 65, blk g51 (OpD.cells x47) 23, row A33 (List.length l35) c34 (List.flatMap LockD.cells l35) 36 3] := H189
  refine GX.take (v := .slice A33 (List.length l35) c34) (rs := []) 0 rfl (by kernel_rfl) (fun _ _ => Yl.move rfl) (GX.take (v := .pointer (some ⟨g183, 3, none⟩)) (rs := []) 1 rfl (by kernel_rfl) (fun _ _ => Yl.kern rfl rfl (fun _ => by kernel_rfl)) (GX.take (v := .func (.func 53) #[] #[]) (rs := []) 2 rfl (by kernel_rfl) (fun _ ⟨_, H9⟩ => Yl.load rfl (Lds.one Try.isAgg62 (Cls.of (H9.cls (i := 0) rfl) rfl))) (GX.take (v := .agg (OpD.cells x47).toArray) (rs := []) 3 rfl (by kernel_rfl) (fun _ ⟨_, H9⟩ => Yl.load rfl (Lds.agg (cs := (OpD.cells x47)) Try.isAgg23 Try.sizeOf23 ((H9.cls (i := 1) rfl).lit (k := 0) (m := 6) rfl))) (GX.take (v := .pointer (some ⟨g183, 0, none⟩)) (rs := []) 5 rfl (by kernel_rfl) (fun _ _ => Yl.kern rfl rfl (fun _ => by kernel_rfl)) (GX.take (v := .bool false) (rs := []) 6 rfl (by kernel_rfl) (fun _ ⟨_, H9⟩ => Yl.load rfl (Lds.one Try.isAgg4 (Cls.of (H9.cls (i := 0) rfl) rfl))) ?_)))))
  obtain ⟨r195, hr196⟩ : ∃ q, op_spanRange x47 = q := ⟨_, rfl⟩
  obtain ⟨D190, HP191, ro192, bk193, rr194⟩ := Own.enter0 H189
  refine GX.do 4 rfl (by kernel_rfl) (Do.callV Try.call53 rfl rfl (op_spanRange_ok _ _ x47 r195 HP191 hr196) ?_)
  rintro _ w197 ⟨rfl, HQ198⟩
  have H199 : Own w D w197 [blk g183 [.bool false, .func (.func 51) #[] #[], .func (.func 52) #[] #[], .func (.func 53) #[] #[], .func (.func 54) #[] #[]] 65, blk g51 (OpD.cells x47) 23, row A33 (List.length l35) c34 (List.flatMap LockD.cells l35) 36 3] := bk193 _ _ HQ198
  refine ⟨.inr ⟨_, H199⟩, ?_⟩
  refine GX.take (v := .agg #[.string ⟨List.toArray r195.xLo⟩, .string ⟨List.toArray r195.xHi⟩, .bool false]) (rs := []) 7 rfl (by kernel_rfl) (fun _ _ => Yl.kern rfl rfl (fun _ => by kernel_rfl)) ?_
  refine GX.do 8 rfl (by kernel_rfl) (Do.newRow (cs := [.string ⟨List.toArray r195.xLo⟩, .string ⟨List.toArray r195.xHi⟩, .bool false]) (t := 36) (sz := 3) (m := 1) H199 rfl rfl (fun _ => by kernel_rfl) rfl (by decide) ?_)
  intro A200 w201 H202
  replace H202 : Own w D w201 [row A200 1 1 (List.flatMap LockD.cells ([(LockD.mk r195 false)])) 36 3, blk g183 [.bool false, .func (.func 51) #[] #[], .func (.func 52) #[] #[], .func (.func 53) #[] #[], .func (.func 54) #[] #[]] 65, blk g51 (OpD.cells x47) 23, row A33 (List.length l35) c34 (List.flatMap LockD.cells l35) 36 3] := H202
  have H203 : Own w D w201 [blk g183 [.bool false, .func (.func 51) #[] #[], .func (.func 52) #[] #[], .func (.func 53) #[] #[], .func (.func 54) #[] #[]] 65, blk g51 (OpD.cells x47) 23, row A200 1 1 (List.flatMap LockD.cells ([(LockD.mk r195 false)])) 36 3, row A33 (List.length l35) c34 (List.flatMap LockD.cells l35) 36 3] := H202.pick [1, 2, 0, 3] (by decide) rfl
  refine ⟨.inr ⟨_, H203⟩, ?_⟩
  have H204 : Own w D w201 [row A33 (List.length l35) c34 (List.flatMap LockD.cells l35) 36 3, blk g183 [.bool false, .func (.func 51) #[] #[], .func (.func 52) #[] #[], .func (.func 53) #[] #[], .func (.func 54) #[] #[]] 65, blk g51 (OpD.cells x47) 23, row A200 1 1 (List.flatMap LockD.cells ([(LockD.mk r195 false)])) 36 3] := H203.pick [3, 0, 1, 2] (by decide) rfl
  refine GX.do 9 rfl (by kernel_rfl) (Do.appendW (k := List.length l35) (m := 1) (El32) H204 rfl rfl (src_of Try.underlying32 (H204.rds (i := 3) rfl) (flat_one LockD.one ([(LockD.mk r195 false)]))) rfl (by omega) (s := List.length (l35 ++ [(LockD.mk r195 false)])) (by first | (simp only [List.length_append, List.length_cons, List.length_nil]; done) | (simp only [List.length_append, List.length_cons, List.length_nil]; omega)) (List.flatMap_append).symm ?_)
  intro A205 c206 w207 H208
  replace H208 : Own w D w207 [row A205 (List.length (l35 ++ [(LockD.mk r195 false)])) c206 (List.flatMap LockD.cells (l35 ++ [(LockD.mk r195 false)])) 36 3, blk g183 [.bool false, .func (.func 51) #[] #[], .func (.func 52) #[] #[], .func (.func 53) #[] #[], .func (.func 54) #[] #[]] 65, blk g51 (OpD.cells x47) 23, row A200 1 1 (List.flatMap LockD.cells ([(LockD.mk r195 false)])) 36 3] := H208
  have hl209 : List.length (l35 ++ [(LockD.mk r195 false)]) = List.length l35 + 1 := by simp only [List.length_append, List.length_cons, List.length_nil]
  have H210 : Own w D w207 [blk g183 [.bool false, .func (.func 51) #[] #[], .func (.func 52) #[] #[], .func (.func 53) #[] #[], .func (.func 54) #[] #[]] 65, blk g51 (OpD.cells x47) 23, row A205 (List.length (l35 ++ [(LockD.mk r195 false)])) c206 (List.flatMap LockD.cells (l35 ++ [(LockD.mk r195 false)])) 36 3, row A200 1 1 (List.flatMap LockD.cells ([(LockD.mk r195 false)])) 36 3] := H208.pick [1, 2, 0, 3] (by decide) rfl
  refine ⟨.inr ⟨_, H210⟩, ?_⟩
  refine GX.take (v := .slice A205 (List.length (l35 ++ [(LockD.mk r195 false)])) c206) (rs := []) 10 rfl (by kernel_rfl) (fun _ _ => Yl.assign rfl) (GX.done (by kernel_rfl) (Fin.blockN (Fin.then (Wp.region (WL.val (v := .int .i64 ((k36 + 1 : Nat) : Int)) rfl (Yl.int (e := IntKind.i64.wrap (((k36 : Nat) : Int) + 1)) (Yl.kern rfl rfl (fun _ => by kernel_rfl)) (by rw [IntWalk.i64_in _ (by omega)]; omega)) (Mv rfl rfl (WL.nil ?_)))))))
  have H211 : Own w D w207 [row A205 (List.length (l35 ++ [(LockD.mk r195 false)])) c206 (List.flatMap LockD.cells (l35 ++ [(LockD.mk r195 false)])) 36 3] := H210.pick [2] (by decide) rfl
  exact Fin.round (A205, c206, (l35 ++ [(LockD.mk r195 false)]), k36 + 1) ⟨rfl, rfl, rfl, rfl, rfl, rfl, trivial⟩ ⟨H211, (show (k36 + 1) ≤ List.length l0 ∧ List.length (l35 ++ [(LockD.mk r195 false)]) = (k36 + 1) ∧ List.length (l35 ++ [(LockD.mk r195 false)]) ≤ (k36 + 1) ∧ op_Locks_L0 l0 ([]) = op_Locks_L0 (List.drop (k36 + 1) l0) (l35 ++ [(LockD.mk r195 false)]) from ⟨by omega, by omega, by omega, Eq.trans (hq42) (Eq.trans (congrArg (fun q => op_Locks_L0 q l35) hd50) (Eq.trans (if_neg h56) (Eq.trans (if_neg h95) (Eq.trans (if_neg h134) (Eq.trans (if_pos h173) (bnd_of hr196))))))⟩)⟩ (by show List.length l0 - (k36 + 1) < List.length l0 - k36; omega)
  have hb212 : (decide (x47.xKind = 5)) = true := (decide_eq_true (by omega))
  obtain ⟨D213, HP214, ro215, bk216, rr217⟩ := Own.enter0 H55
  refine WL.do rfl (Do.call Try.call30 rfl (op_kindOf_5_ok _ _ x47.xKind HP214 (of_decide_eq_true hb212)) ?_)
  rintro _ w219 ⟨rfl, HQ220⟩
  have H221 : Own w D w219 [blk g51 (OpD.cells x47) 23, row A33 (List.length l35) c34 (List.flatMap LockD.cells l35) 36 3] := bk216 _ _ HQ220
  refine Mv rfl rfl (Kn (v := .agg #[.bool true, .func (.func 55) #[] #[], .func (.func 56) #[] #[], .func (.func 53) #[] #[], .func (.func 57) #[] #[]]) rfl rfl rfl (fun _ => by kernel_rfl) (Kn (v := .bool true) rfl rfl rfl (fun _ => by kernel_rfl) ?_))
  refine WL.do rfl (Do.newP (cs := [.bool false, .nilFunc, .nilFunc, .nilFunc, .nilFunc]) (t := 65) H221 rfl rfl (fun _ => by kernel_rfl) ?_)
  intro g222 w223 H224
  replace H224 : Own w D w223 [blk g222 [.bool false, .nilFunc, .nilFunc, .nilFunc, .nilFunc] 65, blk g51 (OpD.cells x47) 23, row A33 (List.length l35) c34 (List.flatMap LockD.cells l35) 36 3] := H224
  refine WL.do0 (Do.store (vs := [.bool true, .func (.func 55) #[] #[], .func (.func 56) #[] #[], .func (.func 53) #[] #[], .func (.func 57) #[] #[]]) (o := 0) H224 rfl rfl Try.sizeOf65 rfl rfl rfl rfl ?_)
  intro w225 H226
  replace H226 : Own w D w225 [blk g222 [.bool true, .func (.func 55) #[] #[], .func (.func 56) #[] #[], .func (.func 53) #[] #[], .func (.func 57) #[] #[]] 65, blk g51 (OpD.cells x47) 23, row A33 (List.length l35) c34 (List.flatMap LockD.cells l35) 36 3] := H226
  refine As rfl rfl (WL.nil (Fin.then ?_))
  have H228 := H226.drew
  refine Wp.drawnX [] (fun W => ∃ L', Own w D W ([blk g222 [.bool true, .func (.func 55) #[] #[], .func (.func 56) #[] #[], .func (.func 53) #[] #[], .func (.func 57) #[] #[]] 65, blk g51 (OpD.cells x47) 23] ++ L')) (by kernel_rfl) (by kernel_rfl) (NoP.block (NoP.then (NoP.then (NoP.block (NoP.then NoP.base))))) ⟨_, H228⟩ ?_
  revert H228
  generalize World.drew w225 = w227
  intro H228
  replace H228 : Own w D w227 [blk g222 [.bool true, .func (.func 55) #[] #[], .func (.func 56) #[] #[], .func (.func 53) #[] #[], .func (.func 57) #[] #[]] 65, blk g51 (OpD.cells x47) 23, row A33 (List.length l35) c34 (List.flatMap LockD.cells l35) 36 3] := H228
  refine GX.take (v := .slice A33 (List.length l35) c34) (rs := []) 0 rfl (by kernel_rfl) (fun _ _ => Yl.move rfl) (GX.take (v := .pointer (some ⟨g222, 3, none⟩)) (rs := []) 1 rfl (by kernel_rfl) (fun _ _ => Yl.kern rfl rfl (fun _ => by kernel_rfl)) (GX.take (v := .func (.func 53) #[] #[]) (rs := []) 2 rfl (by kernel_rfl) (fun _ ⟨_, H9⟩ => Yl.load rfl (Lds.one Try.isAgg62 (Cls.of (H9.cls (i := 0) rfl) rfl))) (GX.take (v := .agg (OpD.cells x47).toArray) (rs := []) 3 rfl (by kernel_rfl) (fun _ ⟨_, H9⟩ => Yl.load rfl (Lds.agg (cs := (OpD.cells x47)) Try.isAgg23 Try.sizeOf23 ((H9.cls (i := 1) rfl).lit (k := 0) (m := 6) rfl))) (GX.take (v := .pointer (some ⟨g222, 0, none⟩)) (rs := []) 5 rfl (by kernel_rfl) (fun _ _ => Yl.kern rfl rfl (fun _ => by kernel_rfl)) (GX.take (v := .bool true) (rs := []) 6 rfl (by kernel_rfl) (fun _ ⟨_, H9⟩ => Yl.load rfl (Lds.one Try.isAgg4 (Cls.of (H9.cls (i := 0) rfl) rfl))) ?_)))))
  obtain ⟨r234, hr235⟩ : ∃ q, op_spanRange x47 = q := ⟨_, rfl⟩
  obtain ⟨D229, HP230, ro231, bk232, rr233⟩ := Own.enter0 H228
  refine GX.do 4 rfl (by kernel_rfl) (Do.callV Try.call53 rfl rfl (op_spanRange_ok _ _ x47 r234 HP230 hr235) ?_)
  rintro _ w236 ⟨rfl, HQ237⟩
  have H238 : Own w D w236 [blk g222 [.bool true, .func (.func 55) #[] #[], .func (.func 56) #[] #[], .func (.func 53) #[] #[], .func (.func 57) #[] #[]] 65, blk g51 (OpD.cells x47) 23, row A33 (List.length l35) c34 (List.flatMap LockD.cells l35) 36 3] := bk232 _ _ HQ237
  refine ⟨.inr ⟨_, H238⟩, ?_⟩
  refine GX.take (v := .agg #[.string ⟨List.toArray r234.xLo⟩, .string ⟨List.toArray r234.xHi⟩, .bool true]) (rs := []) 7 rfl (by kernel_rfl) (fun _ _ => Yl.kern rfl rfl (fun _ => by kernel_rfl)) ?_
  refine GX.do 8 rfl (by kernel_rfl) (Do.newRow (cs := [.string ⟨List.toArray r234.xLo⟩, .string ⟨List.toArray r234.xHi⟩, .bool true]) (t := 36) (sz := 3) (m := 1) H238 rfl rfl (fun _ => by kernel_rfl) rfl (by decide) ?_)
  intro A239 w240 H241
  replace H241 : Own w D w240 [row A239 1 1 (List.flatMap LockD.cells ([(LockD.mk r234 true)])) 36 3, blk g222 [.bool true, .func (.func 55) #[] #[], .func (.func 56) #[] #[], .func (.func 53) #[] #[], .func (.func 57) #[] #[]] 65, blk g51 (OpD.cells x47) 23, row A33 (List.length l35) c34 (List.flatMap LockD.cells l35) 36 3] := H241
  have H242 : Own w D w240 [blk g222 [.bool true, .func (.func 55) #[] #[], .func (.func 56) #[] #[], .func (.func 53) #[] #[], .func (.func 57) #[] #[]] 65, blk g51 (OpD.cells x47) 23, row A239 1 1 (List.flatMap LockD.cells ([(LockD.mk r234 true)])) 36 3, row A33 (List.length l35) c34 (List.flatMap LockD.cells l35) 36 3] := H241.pick [1, 2, 0, 3] (by decide) rfl
  refine ⟨.inr ⟨_, H242⟩, ?_⟩
  have H243 : Own w D w240 [row A33 (List.length l35) c34 (List.flatMap LockD.cells l35) 36 3, blk g222 [.bool true, .func (.func 55) #[] #[], .func (.func 56) #[] #[], .func (.func 53) #[] #[], .func (.func 57) #[] #[]] 65, blk g51 (OpD.cells x47) 23, row A239 1 1 (List.flatMap LockD.cells ([(LockD.mk r234 true)])) 36 3] := H242.pick [3, 0, 1, 2] (by decide) rfl
  refine GX.do 9 rfl (by kernel_rfl) (Do.appendW (k := List.length l35) (m := 1) (El32) H243 rfl rfl (src_of Try.underlying32 (H243.rds (i := 3) rfl) (flat_one LockD.one ([(LockD.mk r234 true)]))) rfl (by omega) (s := List.length (l35 ++ [(LockD.mk r234 true)])) (by first | (simp only [List.length_append, List.length_cons, List.length_nil]; done) | (simp only [List.length_append, List.length_cons, List.length_nil]; omega)) (List.flatMap_append).symm ?_)
  intro A244 c245 w246 H247
  replace H247 : Own w D w246 [row A244 (List.length (l35 ++ [(LockD.mk r234 true)])) c245 (List.flatMap LockD.cells (l35 ++ [(LockD.mk r234 true)])) 36 3, blk g222 [.bool true, .func (.func 55) #[] #[], .func (.func 56) #[] #[], .func (.func 53) #[] #[], .func (.func 57) #[] #[]] 65, blk g51 (OpD.cells x47) 23, row A239 1 1 (List.flatMap LockD.cells ([(LockD.mk r234 true)])) 36 3] := H247
  have hl248 : List.length (l35 ++ [(LockD.mk r234 true)]) = List.length l35 + 1 := by simp only [List.length_append, List.length_cons, List.length_nil]
  have H249 : Own w D w246 [blk g222 [.bool true, .func (.func 55) #[] #[], .func (.func 56) #[] #[], .func (.func 53) #[] #[], .func (.func 57) #[] #[]] 65, blk g51 (OpD.cells x47) 23, row A244 (List.length (l35 ++ [(LockD.mk r234 true)])) c245 (List.flatMap LockD.cells (l35 ++ [(LockD.mk r234 true)])) 36 3, row A239 1 1 (List.flatMap LockD.cells ([(LockD.mk r234 true)])) 36 3] := H247.pick [1, 2, 0, 3] (by decide) rfl
  refine ⟨.inr ⟨_, H249⟩, ?_⟩
  refine GX.take (v := .slice A244 (List.length (l35 ++ [(LockD.mk r234 true)])) c245) (rs := []) 10 rfl (by kernel_rfl) (fun _ _ => Yl.assign rfl) (GX.done (by kernel_rfl) (Fin.blockN (Fin.then (Wp.region (WL.val (v := .int .i64 ((k36 + 1 : Nat) : Int)) rfl (Yl.int (e := IntKind.i64.wrap (((k36 : Nat) : Int) + 1)) (Yl.kern rfl rfl (fun _ => by kernel_rfl)) (by rw [IntWalk.i64_in _ (by omega)]; omega)) (Mv rfl rfl (WL.nil ?_)))))))
  have H250 : Own w D w246 [row A244 (List.length (l35 ++ [(LockD.mk r234 true)])) c245 (List.flatMap LockD.cells (l35 ++ [(LockD.mk r234 true)])) 36 3] := H249.pick [2] (by decide) rfl
  exact Fin.round (A244, c245, (l35 ++ [(LockD.mk r234 true)]), k36 + 1) ⟨rfl, rfl, rfl, rfl, rfl, rfl, trivial⟩ ⟨H250, (show (k36 + 1) ≤ List.length l0 ∧ List.length (l35 ++ [(LockD.mk r234 true)]) = (k36 + 1) ∧ List.length (l35 ++ [(LockD.mk r234 true)]) ≤ (k36 + 1) ∧ op_Locks_L0 l0 ([]) = op_Locks_L0 (List.drop (k36 + 1) l0) (l35 ++ [(LockD.mk r234 true)]) from ⟨by omega, by omega, by omega, Eq.trans (hq42) (Eq.trans (congrArg (fun q => op_Locks_L0 q l35) hd50) (Eq.trans (if_neg h56) (Eq.trans (if_neg h95) (Eq.trans (if_neg h134) (Eq.trans (if_neg h173) (bnd_of hr235))))))⟩)⟩ (by show List.length l0 - (k36 + 1) < List.length l0 - k36; omega)
  refine Wp.cond0 rfl (decide_eq_false h46) (Wp.exit (Fin.thenX ?_))
  have hL251 : op_Locks_L0 l0 ([]) = l35 := Eq.trans (hq42) (congrArg (fun q => op_Locks_L0 q l35) (drop_end (ls := l0) (i := k36) (by omega)))
  refine Fin.thenX (Fin.blockX (Fin.then (Wp.seq (Wp.region (Mv rfl rfl (As rfl rfl (As rfl rfl (WL.nil (Fin.then (Wp.ret (Fin.res (res2 rfl rfl rfl) ?_)))))))))))
  have H252 : Own w D w39 [row A33 (List.length l35) c34 (List.flatMap LockD.cells l35) 36 3] := H40.pick [0] (by decide) rfl
  have e : op_Locks l0 = (l35, 0) := Eq.trans (bnd_of hr27) (Eq.trans (if_pos h31) (bnd_of hL251))
  obtain ⟨rfl, rfl⟩ := pj2 (e.symm.trans hr)
  exact ⟨A33, c34, rfl, H252⟩
  refine Wp.cond1 rfl (decide_eq_true h31) (Wp.seq (Wp.region (Mv rfl rfl (As rfl rfl (As rfl rfl (WL.nil (Fin.then (Wp.ret (Fin.thenR (Fin.res (res2 rfl rfl rfl) ?_))))))))))
  have H253 : Own w D w28 [row none 0 0 (List.flatMap LockD.cells ([])) 36 3] := H30.free (row_nil 36 3)
  have H254 : Own w D w28 [row none 0 0 (List.flatMap LockD.cells ([])) 36 3] := H253.pick [0] (by decide) rfl
  have e : op_Locks l0 = ([], r26) := Eq.trans (bnd_of hr27) (if_neg h31)
  obtain ⟨rfl, rfl⟩ := pj2 (e.symm.trans hr)
  exact ⟨none, 0, rfl, H254⟩

def op_Check (l0 : List OpD) : Int :=
  if ((List.length l0 : Nat) : Int) < 1 then 3 else if ((List.length l0 : Nat) : Int) > 4 then 3 else bnd (op_checkEach l0) fun yr30 => yr30

set_option maxRecDepth 100000 in
theorem op_Check_ok (w : World) (D : Nat → Prop) (A0 : Option Addr) (n0 c0 : Nat) (l0 : List OpD) (r0 : Int) (H : Own w D w []) (hx0 : Ro w D fun w' => Rds w' 6 A0 n0 (List.flatMap OpD.cells l0)) (hn0 : n0 = List.length l0) (hl0 : List.length l0 * 80 ≤ 211106232532992) (hr : op_Check l0 = r0) :
    Calls Try.prog 17 #[.slice A0 n0 c0] w (Ret fun v w' => v = .int .i64 r0 ∧ Own w D w' []) := by
  subst hn0
  refine Calls.body (args := [.slice A0 (List.length l0) c0]) Try.func17 rfl rfl rfl ?_
  show Wp _ _ _ [(0, .slice A0 (List.length l0) c0)] _ _
  refine Wp.seq (Wp.region (As rfl rfl (WL.nil (Fin.then (Wp.seq (Wp.seq (Wp.region (Mv rfl rfl (Kn (v := .int .i64 ((List.length l0 : Nat) : Int)) rfl rfl rfl (fun _ => by kernel_rfl) (Kn (v := .bool (decide (((List.length l0 : Nat) : Int) < 1))) rfl rfl rfl (fun _ => by kernel_rfl) (Mv rfl rfl ?_)))))))))))
  by_cases h21 : ((List.length l0 : Nat) : Int) < 1
  refine Sk rfl rfl (decide_eq_true h21) rfl (Sk rfl rfl (decide_eq_true h21) rfl (Sk rfl rfl (decide_eq_true h21) rfl (WL.val (v := .bool true) rfl (Yl.pickT rfl (decide_eq_true h21) rfl) (WL.nil (Fin.then (Wp.cond1 rfl rfl (Wp.seq (Wp.region (As rfl rfl (WL.nil (Fin.then (Wp.ret (Fin.thenR (Fin.res (res1 rfl rfl) ?_))))))))))))))
  have H22 : Own w D w [] := H.pick [] (by decide) rfl
  have e : op_Check l0 = 3 := if_pos h21
  obtain rfl := e.symm.trans hr
  exact ⟨rfl, H22⟩
  refine WL.valG (v := .slice A0 (List.length l0) c0) rfl rfl (decide_eq_false h21) rfl (Yl.move rfl) (WL.valG (v := .int .i64 ((List.length l0 : Nat) : Int)) rfl rfl (decide_eq_false h21) rfl (Yl.kern rfl rfl (fun _ => by kernel_rfl)) (WL.valG (v := .bool (decide (((List.length l0 : Nat) : Int) > 4))) rfl rfl (decide_eq_false h21) rfl (Yl.kern rfl rfl (fun _ => by kernel_rfl)) (WL.val (v := .bool (decide (((List.length l0 : Nat) : Int) > 4))) rfl (Yl.pickF rfl (decide_eq_false h21) rfl) (WL.nil (Fin.then ?_)))))
  by_cases h23 : ((List.length l0 : Nat) : Int) > 4
  refine Wp.cond1 rfl (decide_eq_true h23) (Wp.seq (Wp.region (As rfl rfl (WL.nil (Fin.then (Wp.ret (Fin.thenR (Fin.res (res1 rfl rfl) ?_))))))))
  have H24 : Own w D w [] := H.pick [] (by decide) rfl
  have e : op_Check l0 = 3 := Eq.trans (if_neg h21) (if_pos h23)
  obtain rfl := e.symm.trans hr
  exact ⟨rfl, H24⟩
  refine Wp.cond0 rfl (decide_eq_false h23) (Wp.skip (Fin.then (Wp.seq (Wp.region (Mv rfl rfl ?_)))))
  obtain ⟨r30, hr31⟩ : ∃ q, op_checkEach l0 = q := ⟨_, rfl⟩
  obtain ⟨D25, HP26, ro27, bk28, rr29⟩ := Own.enter0 H
  refine WL.do rfl (Do.call Try.call32 rfl (op_checkEach_ok _ _ A0 (List.length l0) c0 l0 r30 HP26 (ro27 _ hx0) rfl (by omega) hr31) ?_)
  rintro _ w32 ⟨rfl, HQ33⟩
  have H34 : Own w D w32 [] := bk28 _ _ HQ33
  refine As rfl rfl (WL.nil (Fin.then (Wp.ret (Fin.res (res1 rfl rfl) ?_))))
  have H35 : Own w D w32 [] := H34.pick [] (by decide) rfl
  have e : op_Check l0 = r30 := Eq.trans (if_neg h21) (Eq.trans (if_neg h23) (bnd_of hr31))
  obtain rfl := e.symm.trans hr
  exact ⟨rfl, H35⟩

theorem El25 : Elem Try.prog 25 48 2 32 := elem_of (z := .agg #[.string ⟨List.toArray ([])⟩, .string ⟨List.toArray ([])⟩]) Try.underlying25 (by kernel_rfl) rfl (by decide)

structure PairD where
  xKey : List UInt8
  xValue : List UInt8

def PairD.cells (x : PairD) : List Value := [.string ⟨List.toArray x.xKey⟩, .string ⟨List.toArray x.xValue⟩]

theorem PairD.len : ∀ x, (PairD.cells x).length = 2 := fun _ => rfl

theorem PairD.one : ∀ x, ∀ u ∈ PairD.cells x, u.oneCell' = true := fun x u hu => by
  simp only [PairD.cells, List.mem_cons, List.not_mem_nil, or_false] at hu
  rcases hu with rfl | rfl <;> rfl

def PairD.Ok (w : World) (x : PairD) : Prop := (List.length x.xKey ≤ 140737488351232) ∧ (List.length x.xValue ≤ 140737488351232)

theorem opens_PairD (w : World) : Opens Try.prog w 48 2 PairD.cells (PairD.Ok w) :=
  (opens_struct (sz := 2) Try.underlying48 (by kernel_rfl) (OpensF.cons (i := 0) (off := 0) (s := 1) rfl rfl (opens_string Try.underlying9 (by kernel_rfl)) (OpensF.cons (i := 1) (off := 1) (s := 1) rfl rfl (opens_string Try.underlying9 (by kernel_rfl)) OpensF.nil))).map (fun p => ⟨p.1, p.2.1⟩) PairD.len (fun _ => rfl) fun _ h => ⟨h.1, h.2.1⟩

instance : Inhabited PairD := ⟨⟨default, default⟩⟩

def op_CheckMap_L0 (l0 : List PairD) : List PairD → Nat → Unit ⊕ Int
  | [], k21 => Sum.inl ()
  | x30 :: q22, k21 => bnd (span_CheckKey x30.xKey) fun yr43 => if yr43 = 0 then bnd (op_checkValue x30.xValue) fun yr55 => if yr55 = 0 then if ((k21 : Nat) : Int) > 0 then bnd (List.getD l0 (k21 - 1) default) fun yx64 => if x30.xKey ≤ yx64.xKey then Sum.inr (1) else op_CheckMap_L0 l0 q22 (k21 + 1) else op_CheckMap_L0 l0 q22 (k21 + 1) else Sum.inr (yr55) else Sum.inr (yr43)

def op_CheckMap (l0 : List PairD) : Int :=
  lp (op_CheckMap_L0 l0 l0 0) fun _ => 0

set_option maxRecDepth 100000 in
theorem op_CheckMap_ok (w : World) (D : Nat → Prop) (A0 : Option Addr) (n0 c0 : Nat) (l0 : List PairD) (r0 : Int) (H : Own w D w []) (hx0 : Ro w D fun w' => Rds w' 2 A0 n0 (List.flatMap PairD.cells l0)) (hn0 : n0 = List.length l0) (hl0 : List.length l0 * 32 ≤ 211106232532992) (hr : op_CheckMap l0 = r0) :
    Calls Try.prog 19 #[.slice A0 n0 c0] w (Ret fun v w' => v = .int .i64 r0 ∧ Own w D w' []) := by
  subst hn0
  refine Calls.body (args := [.slice A0 (List.length l0) c0]) Try.func19 rfl rfl rfl ?_
  show Wp _ _ _ [(0, .slice A0 (List.length l0) c0)] _ _
  refine Wp.seq (Wp.region (As rfl rfl (WL.nil (Fin.then (Wp.seq (Wp.seq (Wp.region (Mv rfl rfl (Kn (v := .int .i64 ((List.length l0 : Nat) : Int)) rfl rfl rfl (fun _ => by kernel_rfl) (Mv rfl rfl (WL.nil (Fin.then (Wp.block ?_)))))))))))))
  have H23 : Own w D w [] := H.pick [] (by decide) rfl
  refine Wp.loop (ι := Nat) (fun i => [(2, .int .i64 0), (9, .int .i64 ((i : Nat) : Int)), (8, .int .i64 ((List.length l0 : Nat) : Int)), (7, .slice A0 (List.length l0) c0), (0, .slice A0 (List.length l0) c0)]) (fun (i : Nat) w' => Own w D w' [] ∧ (i ≤ List.length l0 ∧ op_CheckMap_L0 l0 l0 0 = op_CheckMap_L0 l0 (List.drop i l0) i)) (fun i => List.length l0 - i) 0 ⟨rfl, rfl, rfl, rfl, rfl, trivial⟩ ⟨H23, (show 0 ≤ List.length l0 ∧ op_CheckMap_L0 l0 l0 0 = op_CheckMap_L0 l0 (List.drop 0 l0) 0 from ⟨by omega, rfl⟩)⟩ ?_
  rintro k21 w24 ⟨H25, hf26⟩
  show Wp _ _ _ [(2, .int .i64 0), (9, .int .i64 ((k21 : Nat) : Int)), (8, .int .i64 ((List.length l0 : Nat) : Int)), (7, .slice A0 (List.length l0) c0), (0, .slice A0 (List.length l0) c0)] _ _
  replace H25 : Own w D w24 [] := H25
  replace hf26 : k21 ≤ List.length l0 ∧ op_CheckMap_L0 l0 l0 0 = op_CheckMap_L0 l0 (List.drop k21 l0) k21 := hf26
  obtain ⟨hi28, hq27⟩ := hf26
  refine Wp.seq (Wp.region (Kn (v := .bool (decide (((k21 : Nat) : Int) < ((List.length l0 : Nat) : Int)))) rfl rfl rfl (fun _ => by kernel_rfl) (WL.nil (Fin.then (Wp.seq ?_)))))
  by_cases h29 : ((k21 : Nat) : Int) < ((List.length l0 : Nat) : Int)
  obtain ⟨x30, hx31⟩ := rds_at (ls := l0) (i := k21) PairD.len (by decide) (H25.ro hx0) (by first | omega | (simp; done) | (simp; omega))
  have hd32 := drop_at hx31
  refine Wp.cond1 rfl (decide_eq_true h29) (Wp.skip (Fin.then (Wp.seq (Wp.block (Wp.seq (Wp.region (Mv rfl rfl (WL.val (v := .pointer (some ⟨ab A0, ao A0 + k21 * 2, none⟩)) rfl (Yl.indexAddr (El25) rfl rfl ((H25.ro hx0).addr (i := k21) (by omega)) (by omega)) (WL.val (v := .agg (PairD.cells x30).toArray) rfl (Yl.load rfl (Lds.agg (cs := (PairD.cells x30)) Try.isAgg48 Try.sizeOf48 ((H25.ro hx0).elem PairD.len hx31 (by decide)))) ?_)))))))))
  refine WL.do rfl (Do.newP (cs := [.string ⟨List.toArray ([])⟩, .string ⟨List.toArray ([])⟩]) (t := 48) H25 rfl rfl (fun _ => by kernel_rfl) ?_)
  intro g33 w34 H35
  replace H35 : Own w D w34 [blk g33 [.string ⟨List.toArray ([])⟩, .string ⟨List.toArray ([])⟩] 48] := H35
  refine As rfl rfl ?_
  refine WL.do0 (Do.store (vs := (PairD.cells x30)) (o := 0) H35 rfl rfl Try.sizeOf48 rfl rfl rfl rfl ?_)
  intro w36 H37
  replace H37 : Own w D w36 [blk g33 (PairD.cells x30) 48] := H37
  refine WL.nil (Fin.then (Wp.seq (Wp.seq (Wp.region (Kn (v := .pointer (some ⟨g33, 0, none⟩)) rfl rfl rfl (fun _ => by kernel_rfl) (WL.val (v := .string ⟨List.toArray x30.xKey⟩) rfl (Yl.load rfl (Lds.one Try.isAgg9 (Cls.of (H37.cls (i := 0) rfl) rfl))) ?_))))))
  obtain ⟨r43, hr44⟩ : ∃ q, span_CheckKey x30.xKey = q := ⟨_, rfl⟩
  obtain ⟨D38, HP39, ro40, bk41, rr42⟩ := Own.enter0 H37
  refine WL.do rfl (Do.call Try.call36 rfl (span_CheckKey_ok _ _ x30.xKey r43 HP39 hr44) ?_)
  rintro _ w45 ⟨rfl, HQ46, hk48⟩
  have H47 : Own w D w45 [blk g33 (PairD.cells x30) 48] := bk41 _ _ HQ46
  replace hk48 : ¬ (r43 = 0) ∨ (1 ≤ List.length x30.xKey ∧ List.length x30.xKey ≤ 12) := hk48
  refine As rfl rfl (WL.nil (Fin.then (Wp.seq (Wp.region (Mv rfl rfl (WL.val (v := .bool (decide (¬ (r43 = 0)))) rfl (Yl.bool (e := !(decide (r43 = 0))) (Yl.kern rfl rfl (fun _ => by kernel_rfl)) decide_not.symm) (WL.nil (Fin.then ?_))))))))
  by_cases h49 : r43 = 0
  refine Wp.cond0 rfl (decide_eq_false (not_not_intro h49)) (Wp.skip (Fin.then (Wp.seq (Wp.seq (Wp.region (Kn (v := .pointer (some ⟨g33, 1, none⟩)) rfl rfl rfl (fun _ => by kernel_rfl) (WL.val (v := .string ⟨List.toArray x30.xValue⟩) rfl (Yl.load rfl (Lds.one Try.isAgg9 (Cls.of (H47.cls (i := 0) rfl) rfl))) ?_)))))))
  obtain ⟨r55, hr56⟩ : ∃ q, op_checkValue x30.xValue = q := ⟨_, rfl⟩
  obtain ⟨D50, HP51, ro52, bk53, rr54⟩ := Own.enter0 H47
  refine WL.do rfl (Do.call Try.call37 rfl (op_checkValue_ok _ _ x30.xValue r55 HP51 hr56) ?_)
  rintro _ w57 ⟨rfl, HQ58⟩
  have H59 : Own w D w57 [blk g33 (PairD.cells x30) 48] := bk53 _ _ HQ58
  refine As rfl rfl (WL.nil (Fin.then (Wp.seq (Wp.region (Mv rfl rfl (WL.val (v := .bool (decide (¬ (r55 = 0)))) rfl (Yl.bool (e := !(decide (r55 = 0))) (Yl.kern rfl rfl (fun _ => by kernel_rfl)) decide_not.symm) (WL.nil (Fin.then ?_))))))))
  by_cases h60 : r55 = 0
  refine Wp.cond0 rfl (decide_eq_false (not_not_intro h60)) (Wp.skip (Fin.then (Wp.seq ?_)))
  have H62 := H59.drew
  refine Wp.drawnX [] (fun W => ∃ L', Own w D W ([blk g33 (PairD.cells x30) 48] ++ L')) (by kernel_rfl) (by kernel_rfl) (NoP.then (NoP.block (NoP.then (NoP.then (NoP.block (NoP.then NoP.base)))))) ⟨_, H62⟩ ?_
  revert H62
  generalize World.drew w57 = w61
  intro H62
  replace H62 : Own w D w61 [blk g33 (PairD.cells x30) 48] := H62
  refine GX.take (v := .int .i64 ((k21 : Nat) : Int)) (rs := []) 0 rfl (by kernel_rfl) (fun _ _ => Yl.move rfl) (GX.take (v := .bool (decide (((k21 : Nat) : Int) > 0))) (rs := []) 1 rfl (by kernel_rfl) (fun _ _ => Yl.kern rfl rfl (fun _ => by kernel_rfl)) (GX.take (v := .bool (decide (((k21 : Nat) : Int) > 0))) (rs := []) 2 rfl (by kernel_rfl) (fun _ _ => Yl.move rfl) ?_))
  by_cases h63 : ((k21 : Nat) : Int) > 0
  refine GX.takeG (v := .pointer (some ⟨g33, 0, none⟩)) (rs := []) 3 rfl rfl rfl (decide_eq_true h63) (by kernel_rfl) (fun _ _ => Yl.kern rfl rfl (fun _ => by kernel_rfl)) (GX.takeG (v := .string ⟨List.toArray x30.xKey⟩) (rs := []) 4 rfl rfl rfl (decide_eq_true h63) (by kernel_rfl) (fun _ ⟨_, H9⟩ => Yl.load rfl (Lds.one Try.isAgg9 (Cls.of (H9.cls (i := 0) rfl) rfl))) (GX.takeG (v := .slice A0 (List.length l0) c0) (rs := []) 5 rfl rfl rfl (decide_eq_true h63) (by kernel_rfl) (fun _ _ => Yl.move rfl) (GX.takeG (v := .int .i64 ((k21 : Nat) : Int)) (rs := []) 6 rfl rfl rfl (decide_eq_true h63) (by kernel_rfl) (fun _ _ => Yl.move rfl) (GX.takeG (v := .int .i64 ((k21 - 1 : Nat) : Int)) (rs := []) 7 rfl rfl rfl (decide_eq_true h63) (by kernel_rfl) (fun _ _ => Yl.int (e := IntKind.i64.wrap (((k21 : Nat) : Int) - 1)) (Yl.kern rfl rfl (fun _ => by kernel_rfl)) (by rw [IntWalk.i64_in _ (by omega)]; omega)) ?_))))
  obtain ⟨x64, hx65⟩ := at_of (ls := l0) (i := k21 - 1) (by first | omega | (simp; done) | (simp; omega))
  refine GX.takeG (v := .pointer (some ⟨ab A0, ao A0 + (k21 - 1) * 2, none⟩)) (rs := []) 8 rfl rfl rfl (decide_eq_true h63) (by kernel_rfl) (fun _ ⟨_, H9⟩ => Yl.indexAddr (El25) rfl rfl ((H9.ro hx0).addr (i := k21 - 1) (by omega)) (by omega)) (GX.takeG (v := .pointer (some ⟨ab A0, ao A0 + (k21 - 1) * 2, none⟩)) (rs := []) 9 rfl rfl rfl (decide_eq_true h63) (by kernel_rfl) (fun _ _ => Yl.kern rfl rfl (fun _ => by kernel_rfl)) (GX.takeG (v := .string ⟨List.toArray x64.xKey⟩) (rs := []) 10 rfl rfl rfl (decide_eq_true h63) (by kernel_rfl) (fun _ ⟨_, H9⟩ => Yl.load rfl (Lds.one Try.isAgg9 (((H9.ro hx0).elem PairD.len hx65 (by decide)).at_ (k := 0) rfl))) (GX.takeG (v := .bool (decide (x30.xKey ≤ x64.xKey))) (rs := []) 11 rfl rfl rfl (decide_eq_true h63) (by kernel_rfl) (fun _ _ => Yl.bool (e := Op.bytesLess x30.xKey x64.xKey || decide (x30.xKey = x64.xKey)) (Yl.strLe rfl rfl) (bl_le _ _)) (GX.take (v := .bool (decide (x30.xKey ≤ x64.xKey))) (rs := []) 12 rfl (by kernel_rfl) (fun _ _ => Yl.pickT rfl (decide_eq_true h63) rfl) (GX.done (by kernel_rfl) (Fin.then ?_))))))
  by_cases h66 : x30.xKey ≤ x64.xKey
  refine Wp.cond1 rfl (decide_eq_true h66) (Wp.seq (Wp.region (As rfl rfl (WL.nil (Fin.then (Wp.ret (Fin.blockR (Fin.thenR (Fin.thenR (Fin.blockR (Fin.thenR (Fin.res (res1 rfl rfl) ?_))))))))))))
  have H67 : Own w D w61 [] := H62.pick [] (by decide) rfl
  have e : op_CheckMap l0 = 1 := lp_r (Eq.trans (hq27) (Eq.trans (congrArg (fun q => op_CheckMap_L0 l0 q k21) hd32) (Eq.trans (bnd_of hr44) (Eq.trans (if_pos h49) (Eq.trans (bnd_of hr56) (Eq.trans (if_pos h60) (Eq.trans (if_pos h63) (Eq.trans (bnd_of (getD_of hx65)) (if_pos h66)))))))))
  obtain rfl := e.symm.trans hr
  exact ⟨rfl, H67⟩
  refine Wp.cond0 rfl (decide_eq_false h66) (Wp.skip (Fin.blockN (Fin.then (Wp.region (WL.val (v := .int .i64 ((k21 + 1 : Nat) : Int)) rfl (Yl.int (e := IntKind.i64.wrap (((k21 : Nat) : Int) + 1)) (Yl.kern rfl rfl (fun _ => by kernel_rfl)) (by rw [IntWalk.i64_in _ (by omega)]; omega)) (Mv rfl rfl (WL.nil ?_)))))))
  have H68 : Own w D w61 [] := H62.pick [] (by decide) rfl
  exact Fin.round (k21 + 1) ⟨rfl, rfl, rfl, rfl, rfl, trivial⟩ ⟨H68, (show (k21 + 1) ≤ List.length l0 ∧ op_CheckMap_L0 l0 l0 0 = op_CheckMap_L0 l0 (List.drop (k21 + 1) l0) (k21 + 1) from ⟨by omega, Eq.trans (hq27) (Eq.trans (congrArg (fun q => op_CheckMap_L0 l0 q k21) hd32) (Eq.trans (bnd_of hr44) (Eq.trans (if_pos h49) (Eq.trans (bnd_of hr56) (Eq.trans (if_pos h60) (Eq.trans (if_pos h63) (Eq.trans (bnd_of (getD_of hx65)) (if_neg h66))))))))⟩)⟩ (by show List.length l0 - (k21 + 1) < List.length l0 - k21; omega)
  refine GX.skipG (rs := []) 3 rfl rfl rfl (decide_eq_false h63) (by kernel_rfl) (GX.skipG (rs := []) 4 rfl rfl rfl (decide_eq_false h63) (by kernel_rfl) (GX.skipG (rs := []) 5 rfl rfl rfl (decide_eq_false h63) (by kernel_rfl) (GX.skipG (rs := []) 6 rfl rfl rfl (decide_eq_false h63) (by kernel_rfl) (GX.skipG (rs := []) 7 rfl rfl rfl (decide_eq_false h63) (by kernel_rfl) (GX.skipG (rs := []) 8 rfl rfl rfl (decide_eq_false h63) (by kernel_rfl) (GX.skipG (rs := []) 9 rfl rfl rfl (decide_eq_false h63) (by kernel_rfl) (GX.skipG (rs := []) 10 rfl rfl rfl (decide_eq_false h63) (by kernel_rfl) (GX.skipG (rs := []) 11 rfl rfl rfl (decide_eq_false h63) (by kernel_rfl) (GX.take (v := .bool false) (rs := []) 12 rfl (by kernel_rfl) (fun _ _ => Yl.pickF rfl (decide_eq_false h63) rfl) (GX.done (by kernel_rfl) (Fin.then (Wp.cond0 rfl rfl (Wp.skip (Fin.blockN (Fin.then (Wp.region (WL.val (v := .int .i64 ((k21 + 1 : Nat) : Int)) rfl (Yl.int (e := IntKind.i64.wrap (((k21 : Nat) : Int) + 1)) (Yl.kern rfl rfl (fun _ => by kernel_rfl)) (by rw [IntWalk.i64_in _ (by omega)]; omega)) (Mv rfl rfl (WL.nil ?_)))))))))))))))))))
  have H69 : Own w D w61 [] := H62.pick [] (by decide) rfl
  exact Fin.round (k21 + 1) ⟨rfl, rfl, rfl, rfl, rfl, trivial⟩ ⟨H69, (show (k21 + 1) ≤ List.length l0 ∧ op_CheckMap_L0 l0 l0 0 = op_CheckMap_L0 l0 (List.drop (k21 + 1) l0) (k21 + 1) from ⟨by omega, Eq.trans (hq27) (Eq.trans (congrArg (fun q => op_CheckMap_L0 l0 q k21) hd32) (Eq.trans (bnd_of hr44) (Eq.trans (if_pos h49) (Eq.trans (bnd_of hr56) (Eq.trans (if_pos h60) (if_neg h63))))))⟩)⟩ (by show List.length l0 - (k21 + 1) < List.length l0 - k21; omega)
  refine Wp.cond1 rfl (decide_eq_true h60) (Wp.seq (Wp.region (Mv rfl rfl (As rfl rfl (WL.nil (Fin.then (Wp.ret (Fin.thenR (Fin.blockR (Fin.thenR (Fin.thenR (Fin.blockR (Fin.thenR (Fin.res (res1 rfl rfl) ?_))))))))))))))
  have H70 : Own w D w57 [] := H59.pick [] (by decide) rfl
  have e : op_CheckMap l0 = r55 := lp_r (Eq.trans (hq27) (Eq.trans (congrArg (fun q => op_CheckMap_L0 l0 q k21) hd32) (Eq.trans (bnd_of hr44) (Eq.trans (if_pos h49) (Eq.trans (bnd_of hr56) (if_neg h60))))))
  obtain rfl := e.symm.trans hr
  exact ⟨rfl, H70⟩
  refine Wp.cond1 rfl (decide_eq_true h49) (Wp.seq (Wp.region (Mv rfl rfl (As rfl rfl (WL.nil (Fin.then (Wp.ret (Fin.thenR (Fin.blockR (Fin.thenR (Fin.thenR (Fin.blockR (Fin.thenR (Fin.res (res1 rfl rfl) ?_))))))))))))))
  have H71 : Own w D w45 [] := H47.pick [] (by decide) rfl
  have e : op_CheckMap l0 = r43 := lp_r (Eq.trans (hq27) (Eq.trans (congrArg (fun q => op_CheckMap_L0 l0 q k21) hd32) (Eq.trans (bnd_of hr44) (if_neg h49))))
  obtain rfl := e.symm.trans hr
  exact ⟨rfl, H71⟩
  refine Wp.cond0 rfl (decide_eq_false h29) (Wp.exit (Fin.thenX ?_))
  have hL72 : op_CheckMap_L0 l0 l0 0 = Sum.inl () := Eq.trans (hq27) (congrArg (fun q => op_CheckMap_L0 l0 q k21) (drop_end (ls := l0) (i := k21) (by omega)))
  refine Fin.thenX (Fin.blockX (Fin.then (Wp.seq (Wp.region (As rfl rfl (WL.nil (Fin.then (Wp.ret (Fin.res (res1 rfl rfl) ?_)))))))))
  have H73 : Own w D w24 [] := H25.pick [] (by decide) rfl
  have e : op_CheckMap l0 = 0 := lp_l hL72
  obtain rfl := e.symm.trans hr
  exact ⟨rfl, H73⟩
end Go.Proofs.Ytcognlpfeoabgaa
