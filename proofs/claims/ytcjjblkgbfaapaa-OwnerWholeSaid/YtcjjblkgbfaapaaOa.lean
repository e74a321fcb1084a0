/-
  op: which operations may be, what they touch; the library's slices.
-/
import Derived.Test.YtcjjblkgbfaapaaKm
namespace Go.Proofs.Ytcjjblkgbfaapaa
open Go.RowKit
set_option linter.unusedVariables false
set_option linter.unusedSectionVars false
set_option linter.unusedSimpArgs false
structure OpD where
  xKind : Int
  xKey : List UInt8
  xValue : List UInt8
  xLo : List UInt8
  xHi : List UInt8
  xMost : Int
def OpD.cells (x : OpD) : List Value := [.int .i64 x.xKind, .string ⟨List.toArray x.xKey⟩, .string ⟨List.toArray x.xValue⟩, .string ⟨List.toArray x.xLo⟩, .string ⟨List.toArray x.xHi⟩, .int .i64 x.xMost]
instance : Bk OpD := ⟨fun x _ => bk x.xKind + (bk x.xKey + (bk x.xValue + (bk x.xLo + (bk x.xHi + (bk x.xMost + (0))))))⟩
theorem OpD.len : ∀ x, (OpD.cells x).length = 6 := fun _ => rfl
theorem OpD.one : ∀ x, ∀ u ∈ OpD.cells x, u.oneCell' = true := fun x u hu => by
  simp only [OpD.cells, List.mem_cons, List.not_mem_nil, or_false] at hu
  rcases hu with rfl | rfl | rfl | rfl | rfl | rfl <;> rfl
def OpD.Ok (w : World) (x : OpD) : Prop := ((-9223372036854775808) ≤ x.xKind ∧ x.xKind ≤ 9223372036854775807) ∧ (x.xKey.length ≤ 140737488351232) ∧ (x.xValue.length ≤ 140737488351232) ∧ (x.xLo.length ≤ 140737488351232) ∧ (x.xHi.length ≤ 140737488351232) ∧ ((-9223372036854775808) ≤ x.xMost ∧ x.xMost ≤ 9223372036854775807)
set_option maxRecDepth 100000 in
theorem opens_OpD (w : World) : Opens Try.prog w 74 6 OpD.cells (OpD.Ok w) :=
  (opens_struct (sz := 6) Try.underlying74 (by kernel_rfl) (OpensF.cons (i := 0) (off := 0) (s := 1) rfl rfl (opens_int (k := .i64) (lo := -9223372036854775808) (hi := 9223372036854775807) Try.underlying3 (by kernel_rfl) (by decide) (by decide)) (OpensF.cons (i := 1) (off := 1) (s := 1) rfl rfl (opens_string Try.underlying9 (by kernel_rfl)) (OpensF.cons (i := 2) (off := 2) (s := 1) rfl rfl (opens_string Try.underlying9 (by kernel_rfl)) (OpensF.cons (i := 3) (off := 3) (s := 1) rfl rfl (opens_string Try.underlying9 (by kernel_rfl)) (OpensF.cons (i := 4) (off := 4) (s := 1) rfl rfl (opens_string Try.underlying9 (by kernel_rfl)) (OpensF.cons (i := 5) (off := 5) (s := 1) rfl rfl (opens_int (k := .i64) (lo := -9223372036854775808) (hi := 9223372036854775807) Try.underlying3 (by kernel_rfl) (by decide) (by decide)) OpensF.nil))))))).map (fun p => ⟨p.1, p.2.1, p.2.2.1, p.2.2.2.1, p.2.2.2.2.1, p.2.2.2.2.2.1⟩) OpD.len (fun _ => rfl) (fun _ h => ⟨h.1, h.2.1, h.2.2.1, h.2.2.2.1, h.2.2.2.2.1, h.2.2.2.2.2.1⟩) fun _ => Nat.le_refl _
instance : Inhabited OpD := ⟨⟨default, default, default, default, default, default⟩⟩
set_option maxRecDepth 100000 in
theorem op_kindOf_1_ok (w : World) (D : Nat → Prop) (p0 : Int) (H : Own w D w []) (hp0 : p0 = 1) :
    Calls Try.prog 54 #[.int .i64 p0] w (Ret fun v w' => v = .tuple #[.agg #[.bool false, .func (.func 67) #[] #[], .func (.func 68) #[] #[], .func (.func 69) #[] #[], .func (.func 70) #[] #[]], .bool true] ∧ Own w D w' []) := by
  subst hp0
  refine Calls.body (args := [.int .i64 1]) Try.func54 rfl rfl rfl ?_
  show Wp _ _ _ [(0, .int .i64 1)] _ _
  refine Wp.seq (Wp.region ?_)
  refine WL.do rfl (Do.newP (cs := [.bool false, .nilFunc, .nilFunc, .nilFunc, .nilFunc]) (t := 95) H rfl rfl (fun _ => by kernel_rfl) ?_)
  intro g21 w22 H23
  refine As rfl rfl (WL.nil (Fin.then (Wp.seq (Wp.region (Kn (v := .agg #[.bool false, .func (.func 67) #[] #[], .func (.func 68) #[] #[], .func (.func 69) #[] #[], .func (.func 70) #[] #[]]) rfl rfl rfl (fun _ => by kernel_rfl) (Kn (v := .agg #[.bool true, .func (.func 71) #[] #[], .func (.func 72) #[] #[], .func (.func 69) #[] #[], .func (.func 73) #[] #[]]) rfl rfl rfl (fun _ => by kernel_rfl) (Kn (v := .agg #[.bool true, .func (.func 67) #[] #[], .func (.func 68) #[] #[], .func (.func 69) #[] #[], .func (.func 74) #[] #[]]) rfl rfl rfl (fun _ => by kernel_rfl) (Kn (v := .agg #[.bool false, .func (.func 75) #[] #[], .func (.func 76) #[] #[], .func (.func 77) #[] #[], .func (.func 78) #[] #[]]) rfl rfl rfl (fun _ => by kernel_rfl) (Kn (v := .agg #[.bool true, .func (.func 79) #[] #[], .func (.func 80) #[] #[], .func (.func 77) #[] #[], .func (.func 81) #[] #[]]) rfl rfl rfl (fun _ => by kernel_rfl) (Kn (v := .agg #[.bool false, .nilFunc, .nilFunc, .nilFunc, .nilFunc, .bool false, .func (.func 67) #[] #[], .func (.func 68) #[] #[], .func (.func 69) #[] #[], .func (.func 70) #[] #[], .bool true, .func (.func 71) #[] #[], .func (.func 72) #[] #[], .func (.func 69) #[] #[], .func (.func 73) #[] #[], .bool true, .func (.func 67) #[] #[], .func (.func 68) #[] #[], .func (.func 69) #[] #[], .func (.func 74) #[] #[], .bool false, .func (.func 75) #[] #[], .func (.func 76) #[] #[], .func (.func 77) #[] #[], .func (.func 78) #[] #[], .bool true, .func (.func 79) #[] #[], .func (.func 80) #[] #[], .func (.func 77) #[] #[], .func (.func 81) #[] #[]]) rfl rfl rfl (fun _ => by kernel_rfl) ?_))))))))))
  refine WL.do rfl (Do.newP (cs := [.bool false, .nilFunc, .nilFunc, .nilFunc, .nilFunc, .bool false, .nilFunc, .nilFunc, .nilFunc, .nilFunc, .bool false, .nilFunc, .nilFunc, .nilFunc, .nilFunc, .bool false, .nilFunc, .nilFunc, .nilFunc, .nilFunc, .bool false, .nilFunc, .nilFunc, .nilFunc, .nilFunc, .bool false, .nilFunc, .nilFunc, .nilFunc, .nilFunc]) (t := 109) H23 rfl rfl (fun _ => by kernel_rfl) ?_)
  intro g24 w25 H26
  refine WL.do0 (Do.store (vs := [.bool false, .nilFunc, .nilFunc, .nilFunc, .nilFunc, .bool false, .func (.func 67) #[] #[], .func (.func 68) #[] #[], .func (.func 69) #[] #[], .func (.func 70) #[] #[], .bool true, .func (.func 71) #[] #[], .func (.func 72) #[] #[], .func (.func 69) #[] #[], .func (.func 73) #[] #[], .bool true, .func (.func 67) #[] #[], .func (.func 68) #[] #[], .func (.func 69) #[] #[], .func (.func 74) #[] #[], .bool false, .func (.func 75) #[] #[], .func (.func 76) #[] #[], .func (.func 77) #[] #[], .func (.func 78) #[] #[], .bool true, .func (.func 79) #[] #[], .func (.func 80) #[] #[], .func (.func 77) #[] #[], .func (.func 81) #[] #[]]) (o := 0) H26 rfl rfl Try.sizeOf109 rfl rfl rfl rfl ?_)
  intro w27 H28
  refine WL.nil (Fin.then (Wp.seq (Wp.seq (Wp.region (Mv rfl rfl (Kn (v := .bool false) rfl rfl rfl (fun _ => by kernel_rfl) (Mv rfl rfl (WL.valG (v := .int .i64 1) rfl rfl rfl rfl (Yl.move rfl) (WL.valG (v := .bool false) rfl rfl rfl rfl (Yl.kern rfl rfl (fun _ => by kernel_rfl)) (WL.val (v := .bool false) rfl (Yl.pickF rfl rfl rfl) (WL.nil (Fin.then (Wp.cond0 rfl rfl (Wp.skip (Fin.then (Wp.seq (Wp.region (Mv rfl rfl (Kn (v := .pointer (some ⟨g24, 5, none⟩)) rfl rfl rfl (fun _ => by kernel_rfl) (WL.val (v := .agg #[.bool false, .func (.func 67) #[] #[], .func (.func 68) #[] #[], .func (.func 69) #[] #[], .func (.func 70) #[] #[]]) rfl (Yl.load rfl (Lds.agg (cs := [.bool false, .func (.func 67) #[] #[], .func (.func 68) #[] #[], .func (.func 69) #[] #[], .func (.func 70) #[] #[]]) Try.isAgg95 Try.sizeOf95 ((H28.cls (i := 0) rfl).lit (k := 5) (m := 5) rfl))) ?_))))))))))))))))))))
  have H29 := H28.pick [1, 0] (by decide) rfl
  refine WL.do0 (Do.store (vs := [.bool false, .func (.func 67) #[] #[], .func (.func 68) #[] #[], .func (.func 69) #[] #[], .func (.func 70) #[] #[]]) (o := 0) H29 rfl rfl Try.sizeOf95 rfl rfl rfl rfl ?_)
  intro w30 H31
  refine As rfl rfl (WL.nil (Fin.then (Wp.ret (Fin.res (resN (vs := [.agg #[.bool false, .func (.func 67) #[] #[], .func (.func 68) #[] #[], .func (.func 69) #[] #[], .func (.func 70) #[] #[]], .bool true]) rfl (ResV.cell rfl (Lds.agg (cs := [.bool false, .func (.func 67) #[] #[], .func (.func 68) #[] #[], .func (.func 69) #[] #[], .func (.func 70) #[] #[]]) Try.isAgg95 Try.sizeOf95 ((H31.cls (i := 0) rfl).lit (k := 0) (m := 5) rfl)) (ResV.tmp rfl ResV.nil)) (Nat.le_of_ble_eq_true rfl)) ?_))))
  have H32 := H31.pick [] (by decide) rfl
  exact ⟨rfl, H32⟩
def op_ownKey (p0 : OpD) : OpD :=
  OpD.mk p0.xKind p0.xKey ([]) ([]) ([]) 0
set_option maxRecDepth 100000 in
theorem op_ownKey_ok (w : World) (D : Nat → Prop) (p0 : OpD) (r0 : OpD) (H : Own w D w [])  (hr : op_ownKey p0 = r0) :
    Calls Try.prog 67 #[.agg (OpD.cells p0).toArray] w (Ret fun v w' => v = .agg (OpD.cells r0).toArray ∧ Own w D w' []) := by
  refine Calls.body (args := [.agg (OpD.cells p0).toArray]) Try.func67 rfl rfl rfl ?_
  show Wp _ _ _ [(0, .agg (OpD.cells p0).toArray)] _ _
  refine Wp.seq (Wp.region ?_)
  refine WL.do rfl (Do.newP (cs := (OpD.cells p0)) (t := 74) H rfl rfl (fun _ => by kernel_rfl) ?_)
  intro g21 w22 H23
  refine WL.do rfl (Do.newP (cs := [.int .i64 0, .string ⟨List.toArray ([])⟩, .string ⟨List.toArray ([])⟩, .string ⟨List.toArray ([])⟩, .string ⟨List.toArray ([])⟩, .int .i64 0]) (t := 74) H23 rfl rfl (fun _ => by kernel_rfl) ?_)
  intro g24 w25 H26
  refine WL.nil (Fin.then (Wp.seq (Wp.region (Kn (v := .pointer (some ⟨g21, 0, none⟩)) rfl rfl rfl (fun _ => by kernel_rfl) (WL.val (v := .int .i64 p0.xKind) rfl (Yl.load rfl (Lds.one Try.isAgg3 (Cls.of (H26.cls (i := 1) rfl) rfl))) (Kn (v := .pointer (some ⟨g21, 1, none⟩)) rfl rfl rfl (fun _ => by kernel_rfl) (WL.val (v := .string ⟨List.toArray p0.xKey⟩) rfl (Yl.load rfl (Lds.one Try.isAgg9 (Cls.of (H26.cls (i := 1) rfl) rfl))) (Kn (v := .agg #[.int .i64 p0.xKind, .string ⟨List.toArray p0.xKey⟩, .string ⟨List.toArray ([])⟩, .string ⟨List.toArray ([])⟩, .string ⟨List.toArray ([])⟩, .int .i64 0]) rfl rfl rfl (fun _ => by kernel_rfl) ?_))))))))
  refine WL.do0 (Do.store (vs := [.int .i64 p0.xKind, .string ⟨List.toArray p0.xKey⟩, .string ⟨List.toArray ([])⟩, .string ⟨List.toArray ([])⟩, .string ⟨List.toArray ([])⟩, .int .i64 0]) (o := 0) H26 rfl rfl Try.sizeOf74 rfl rfl rfl rfl ?_)
  intro w27 H28
  refine WL.nil (Fin.then (Wp.ret (Fin.res (resC rfl rfl (Lds.agg (cs := [.int .i64 p0.xKind, .string ⟨List.toArray p0.xKey⟩, .string ⟨List.toArray ([])⟩, .string ⟨List.toArray ([])⟩, .string ⟨List.toArray ([])⟩, .int .i64 0]) Try.isAgg74 Try.sizeOf74 ((H28.cls (i := 0) rfl).lit (k := 0) (m := 6) rfl))) ?_)))
  have H29 := H28.pick [] (by decide) rfl
  have e : op_ownKey p0 = OpD.mk p0.xKind p0.xKey ([]) ([]) ([]) 0 := rfl
  obtain rfl := e.symm.trans hr
  exact ⟨rfl, H29⟩
def span_CheckKey (p0 : List UInt8) : Int :=
  if ((p0.length : Nat) : Int) < 1 then 20 else if ((p0.length : Nat) : Int) > 12 then 20 else 0
set_option maxRecDepth 100000 in
theorem span_CheckKey_ok (w : World) (D : Nat → Prop) (p0 : List UInt8) (r0 : Int) (H : Own w D w [])  (hr : span_CheckKey p0 = r0) :
    Calls Try.prog 31 #[.string ⟨List.toArray p0⟩] w (Ret fun v w' => v = .int .i64 r0 ∧ Own w D w' [] ∧ (¬ (r0 = 0) ∨ (1 ≤ p0.length ∧ p0.length ≤ 12))) := by
  refine Calls.body (args := [.string ⟨List.toArray p0⟩]) Try.func31 rfl rfl rfl ?_
  show Wp _ _ _ [(0, .string ⟨List.toArray p0⟩)] _ _
  refine Wp.seq (Wp.region (As rfl rfl (WL.nil (Fin.then (Wp.seq (Wp.seq (Wp.region (Mv rfl rfl (Kn (v := .int .i64 ((p0.length : Nat) : Int)) rfl rfl rfl (fun _ => by kernel_rfl) (Kn (v := .bool (decide (((p0.length : Nat) : Int) < 1))) rfl rfl rfl (fun _ => by kernel_rfl) (Mv rfl rfl ?_)))))))))))
  by_cases h21 : ((p0.length : Nat) : Int) < 1
  refine Sk rfl rfl (decide_eq_true h21) rfl (Sk rfl rfl (decide_eq_true h21) rfl (Sk rfl rfl (decide_eq_true h21) rfl (WL.val (v := .bool true) rfl (Yl.pickT rfl (decide_eq_true h21) rfl) (WL.nil (Fin.then (Wp.cond1 rfl rfl (Wp.seq (Wp.region (As rfl rfl (WL.nil (Fin.then (Wp.ret (Fin.thenR (Fin.res (res1 rfl rfl) ?_))))))))))))))
  have H22 : Own w D w [] := H.pick [] (by decide) rfl
  have e : span_CheckKey p0 = 20 := if_pos h21
  obtain rfl := e.symm.trans hr
  exact ⟨rfl, H22, (by omega)⟩
  refine WL.valG (v := .string ⟨List.toArray p0⟩) rfl rfl (decide_eq_false h21) rfl (Yl.move rfl) (WL.valG (v := .int .i64 ((p0.length : Nat) : Int)) rfl rfl (decide_eq_false h21) rfl (Yl.kern rfl rfl (fun _ => by kernel_rfl)) (WL.valG (v := .bool (decide (((p0.length : Nat) : Int) > 12))) rfl rfl (decide_eq_false h21) rfl (Yl.kern rfl rfl (fun _ => by kernel_rfl)) (WL.val (v := .bool (decide (((p0.length : Nat) : Int) > 12))) rfl (Yl.pickF rfl (decide_eq_false h21) rfl) (WL.nil (Fin.then ?_)))))
  by_cases h23 : ((p0.length : Nat) : Int) > 12
  refine Wp.cond1 rfl (decide_eq_true h23) (Wp.seq (Wp.region (As rfl rfl (WL.nil (Fin.then (Wp.ret (Fin.thenR (Fin.res (res1 rfl rfl) ?_))))))))
  have H24 : Own w D w [] := H.pick [] (by decide) rfl
  have e : span_CheckKey p0 = 20 := Eq.trans (if_neg h21) (if_pos h23)
  obtain rfl := e.symm.trans hr
  exact ⟨rfl, H24, (by omega)⟩
  refine Wp.cond0 rfl (decide_eq_false h23) (Wp.skip (Fin.then (Wp.seq (Wp.region (As rfl rfl (WL.nil (Fin.then (Wp.ret (Fin.res (res1 rfl rfl) ?_)))))))))
  have H25 : Own w D w [] := H.pick [] (by decide) rfl
  have e : span_CheckKey p0 = 0 := Eq.trans (if_neg h21) (if_neg h23)
  obtain rfl := e.symm.trans hr
  exact ⟨rfl, H25, (by omega)⟩
def op_checkKey (p0 : OpD) : Int :=
  bnd (span_CheckKey p0.xKey) fun yr29 => yr29
set_option maxRecDepth 100000 in
theorem op_checkKey_ok (w : World) (D : Nat → Prop) (p0 : OpD) (r0 : Int) (H : Own w D w [])  (hr : op_checkKey p0 = r0) :
    Calls Try.prog 68 #[.agg (OpD.cells p0).toArray] w (Ret fun v w' => v = .int .i64 r0 ∧ Own w D w' []) := by
  refine Calls.body (args := [.agg (OpD.cells p0).toArray]) Try.func68 rfl rfl rfl ?_
  show Wp _ _ _ [(0, .agg (OpD.cells p0).toArray)] _ _
  refine Wp.seq (Wp.region ?_)
  refine WL.do rfl (Do.newP (cs := (OpD.cells p0)) (t := 74) H rfl rfl (fun _ => by kernel_rfl) ?_)
  intro g21 w22 H23
  refine As rfl rfl (WL.nil (Fin.then (Wp.seq (Wp.region (Kn (v := .pointer (some ⟨g21, 1, none⟩)) rfl rfl rfl (fun _ => by kernel_rfl) (WL.val (v := .string ⟨List.toArray p0.xKey⟩) rfl (Yl.load rfl (Lds.one Try.isAgg9 (Cls.of (H23.cls (i := 0) rfl) rfl))) ?_))))))
  obtain ⟨r29, hr30⟩ : ∃ q, span_CheckKey p0.xKey = q := ⟨_, rfl⟩
  obtain ⟨D24, HP25, ro26, bk27, rr28⟩ := Own.enter0 H23
  refine WL.do rfl (Do.call Try.call31 rfl (span_CheckKey_ok _ _ p0.xKey r29 HP25 hr30) ?_)
  rintro _ w31 ⟨rfl, HQ32, hk34⟩
  have H33 := bk27 _ _ HQ32
  replace hk34 : ¬ (r29 = 0) ∨ (1 ≤ p0.xKey.length ∧ p0.xKey.length ≤ 12) := hk34
  refine As rfl rfl (WL.nil (Fin.then (Wp.ret (Fin.res (res1 rfl rfl) ?_))))
  have H35 := H33.pick [] (by decide) rfl
  have e : op_checkKey p0 = r29 := bnd_of hr30
  obtain rfl := e.symm.trans hr
  exact ⟨rfl, H35⟩
set_option maxRecDepth 100000 in
theorem op_kindOf_2_ok (w : World) (D : Nat → Prop) (p0 : Int) (H : Own w D w []) (hp0 : p0 = 2) :
    Calls Try.prog 54 #[.int .i64 p0] w (Ret fun v w' => v = .tuple #[.agg #[.bool true, .func (.func 71) #[] #[], .func (.func 72) #[] #[], .func (.func 69) #[] #[], .func (.func 73) #[] #[]], .bool true] ∧ Own w D w' []) := by
  subst hp0
  refine Calls.body (args := [.int .i64 2]) Try.func54 rfl rfl rfl ?_
  show Wp _ _ _ [(0, .int .i64 2)] _ _
  refine Wp.seq (Wp.region ?_)
  refine WL.do rfl (Do.newP (cs := [.bool false, .nilFunc, .nilFunc, .nilFunc, .nilFunc]) (t := 95) H rfl rfl (fun _ => by kernel_rfl) ?_)
  intro g21 w22 H23
  refine As rfl rfl (WL.nil (Fin.then (Wp.seq (Wp.region (Kn (v := .agg #[.bool false, .func (.func 67) #[] #[], .func (.func 68) #[] #[], .func (.func 69) #[] #[], .func (.func 70) #[] #[]]) rfl rfl rfl (fun _ => by kernel_rfl) (Kn (v := .agg #[.bool true, .func (.func 71) #[] #[], .func (.func 72) #[] #[], .func (.func 69) #[] #[], .func (.func 73) #[] #[]]) rfl rfl rfl (fun _ => by kernel_rfl) (Kn (v := .agg #[.bool true, .func (.func 67) #[] #[], .func (.func 68) #[] #[], .func (.func 69) #[] #[], .func (.func 74) #[] #[]]) rfl rfl rfl (fun _ => by kernel_rfl) (Kn (v := .agg #[.bool false, .func (.func 75) #[] #[], .func (.func 76) #[] #[], .func (.func 77) #[] #[], .func (.func 78) #[] #[]]) rfl rfl rfl (fun _ => by kernel_rfl) (Kn (v := .agg #[.bool true, .func (.func 79) #[] #[], .func (.func 80) #[] #[], .func (.func 77) #[] #[], .func (.func 81) #[] #[]]) rfl rfl rfl (fun _ => by kernel_rfl) (Kn (v := .agg #[.bool false, .nilFunc, .nilFunc, .nilFunc, .nilFunc, .bool false, .func (.func 67) #[] #[], .func (.func 68) #[] #[], .func (.func 69) #[] #[], .func (.func 70) #[] #[], .bool true, .func (.func 71) #[] #[], .func (.func 72) #[] #[], .func (.func 69) #[] #[], .func (.func 73) #[] #[], .bool true, .func (.func 67) #[] #[], .func (.func 68) #[] #[], .func (.func 69) #[] #[], .func (.func 74) #[] #[], .bool false, .func (.func 75) #[] #[], .func (.func 76) #[] #[], .func (.func 77) #[] #[], .func (.func 78) #[] #[], .bool true, .func (.func 79) #[] #[], .func (.func 80) #[] #[], .func (.func 77) #[] #[], .func (.func 81) #[] #[]]) rfl rfl rfl (fun _ => by kernel_rfl) ?_))))))))))
  refine WL.do rfl (Do.newP (cs := [.bool false, .nilFunc, .nilFunc, .nilFunc, .nilFunc, .bool false, .nilFunc, .nilFunc, .nilFunc, .nilFunc, .bool false, .nilFunc, .nilFunc, .nilFunc, .nilFunc, .bool false, .nilFunc, .nilFunc, .nilFunc, .nilFunc, .bool false, .nilFunc, .nilFunc, .nilFunc, .nilFunc, .bool false, .nilFunc, .nilFunc, .nilFunc, .nilFunc]) (t := 109) H23 rfl rfl (fun _ => by kernel_rfl) ?_)
  intro g24 w25 H26
  refine WL.do0 (Do.store (vs := [.bool false, .nilFunc, .nilFunc, .nilFunc, .nilFunc, .bool false, .func (.func 67) #[] #[], .func (.func 68) #[] #[], .func (.func 69) #[] #[], .func (.func 70) #[] #[], .bool true, .func (.func 71) #[] #[], .func (.func 72) #[] #[], .func (.func 69) #[] #[], .func (.func 73) #[] #[], .bool true, .func (.func 67) #[] #[], .func (.func 68) #[] #[], .func (.func 69) #[] #[], .func (.func 74) #[] #[], .bool false, .func (.func 75) #[] #[], .func (.func 76) #[] #[], .func (.func 77) #[] #[], .func (.func 78) #[] #[], .bool true, .func (.func 79) #[] #[], .func (.func 80) #[] #[], .func (.func 77) #[] #[], .func (.func 81) #[] #[]]) (o := 0) H26 rfl rfl Try.sizeOf109 rfl rfl rfl rfl ?_)
  intro w27 H28
  refine WL.nil (Fin.then (Wp.seq (Wp.seq (Wp.region (Mv rfl rfl (Kn (v := .bool false) rfl rfl rfl (fun _ => by kernel_rfl) (Mv rfl rfl (WL.valG (v := .int .i64 2) rfl rfl rfl rfl (Yl.move rfl) (WL.valG (v := .bool false) rfl rfl rfl rfl (Yl.kern rfl rfl (fun _ => by kernel_rfl)) (WL.val (v := .bool false) rfl (Yl.pickF rfl rfl rfl) (WL.nil (Fin.then (Wp.cond0 rfl rfl (Wp.skip (Fin.then (Wp.seq (Wp.region (Mv rfl rfl (Kn (v := .pointer (some ⟨g24, 10, none⟩)) rfl rfl rfl (fun _ => by kernel_rfl) (WL.val (v := .agg #[.bool true, .func (.func 71) #[] #[], .func (.func 72) #[] #[], .func (.func 69) #[] #[], .func (.func 73) #[] #[]]) rfl (Yl.load rfl (Lds.agg (cs := [.bool true, .func (.func 71) #[] #[], .func (.func 72) #[] #[], .func (.func 69) #[] #[], .func (.func 73) #[] #[]]) Try.isAgg95 Try.sizeOf95 ((H28.cls (i := 0) rfl).lit (k := 10) (m := 5) rfl))) ?_))))))))))))))))))))
  have H29 := H28.pick [1, 0] (by decide) rfl
  refine WL.do0 (Do.store (vs := [.bool true, .func (.func 71) #[] #[], .func (.func 72) #[] #[], .func (.func 69) #[] #[], .func (.func 73) #[] #[]]) (o := 0) H29 rfl rfl Try.sizeOf95 rfl rfl rfl rfl ?_)
  intro w30 H31
  refine As rfl rfl (WL.nil (Fin.then (Wp.ret (Fin.res (resN (vs := [.agg #[.bool true, .func (.func 71) #[] #[], .func (.func 72) #[] #[], .func (.func 69) #[] #[], .func (.func 73) #[] #[]], .bool true]) rfl (ResV.cell rfl (Lds.agg (cs := [.bool true, .func (.func 71) #[] #[], .func (.func 72) #[] #[], .func (.func 69) #[] #[], .func (.func 73) #[] #[]]) Try.isAgg95 Try.sizeOf95 ((H31.cls (i := 0) rfl).lit (k := 0) (m := 5) rfl)) (ResV.tmp rfl ResV.nil)) (Nat.le_of_ble_eq_true rfl)) ?_))))
  have H32 := H31.pick [] (by decide) rfl
  exact ⟨rfl, H32⟩
def op_ownPair (p0 : OpD) : OpD :=
  OpD.mk p0.xKind p0.xKey p0.xValue ([]) ([]) 0
set_option maxRecDepth 100000 in
theorem op_ownPair_ok (w : World) (D : Nat → Prop) (p0 : OpD) (r0 : OpD) (H : Own w D w [])  (hr : op_ownPair p0 = r0) :
    Calls Try.prog 71 #[.agg (OpD.cells p0).toArray] w (Ret fun v w' => v = .agg (OpD.cells r0).toArray ∧ Own w D w' []) := by
  refine Calls.body (args := [.agg (OpD.cells p0).toArray]) Try.func71 rfl rfl rfl ?_
  show Wp _ _ _ [(0, .agg (OpD.cells p0).toArray)] _ _
  refine Wp.seq (Wp.region ?_)
  refine WL.do rfl (Do.newP (cs := (OpD.cells p0)) (t := 74) H rfl rfl (fun _ => by kernel_rfl) ?_)
  intro g21 w22 H23
  refine WL.do rfl (Do.newP (cs := [.int .i64 0, .string ⟨List.toArray ([])⟩, .string ⟨List.toArray ([])⟩, .string ⟨List.toArray ([])⟩, .string ⟨List.toArray ([])⟩, .int .i64 0]) (t := 74) H23 rfl rfl (fun _ => by kernel_rfl) ?_)
  intro g24 w25 H26
  refine WL.nil (Fin.then (Wp.seq (Wp.region (Kn (v := .pointer (some ⟨g21, 0, none⟩)) rfl rfl rfl (fun _ => by kernel_rfl) (WL.val (v := .int .i64 p0.xKind) rfl (Yl.load rfl (Lds.one Try.isAgg3 (Cls.of (H26.cls (i := 1) rfl) rfl))) (Kn (v := .pointer (some ⟨g21, 1, none⟩)) rfl rfl rfl (fun _ => by kernel_rfl) (WL.val (v := .string ⟨List.toArray p0.xKey⟩) rfl (Yl.load rfl (Lds.one Try.isAgg9 (Cls.of (H26.cls (i := 1) rfl) rfl))) (Kn (v := .pointer (some ⟨g21, 2, none⟩)) rfl rfl rfl (fun _ => by kernel_rfl) (WL.val (v := .string ⟨List.toArray p0.xValue⟩) rfl (Yl.load rfl (Lds.one Try.isAgg9 (Cls.of (H26.cls (i := 1) rfl) rfl))) (Kn (v := .agg #[.int .i64 p0.xKind, .string ⟨List.toArray p0.xKey⟩, .string ⟨List.toArray p0.xValue⟩, .string ⟨List.toArray ([])⟩, .string ⟨List.toArray ([])⟩, .int .i64 0]) rfl rfl rfl (fun _ => by kernel_rfl) ?_))))))))))
  refine WL.do0 (Do.store (vs := [.int .i64 p0.xKind, .string ⟨List.toArray p0.xKey⟩, .string ⟨List.toArray p0.xValue⟩, .string ⟨List.toArray ([])⟩, .string ⟨List.toArray ([])⟩, .int .i64 0]) (o := 0) H26 rfl rfl Try.sizeOf74 rfl rfl rfl rfl ?_)
  intro w27 H28
  refine WL.nil (Fin.then (Wp.ret (Fin.res (resC rfl rfl (Lds.agg (cs := [.int .i64 p0.xKind, .string ⟨List.toArray p0.xKey⟩, .string ⟨List.toArray p0.xValue⟩, .string ⟨List.toArray ([])⟩, .string ⟨List.toArray ([])⟩, .int .i64 0]) Try.isAgg74 Try.sizeOf74 ((H28.cls (i := 0) rfl).lit (k := 0) (m := 6) rfl))) ?_)))
  have H29 := H28.pick [] (by decide) rfl
  have e : op_ownPair p0 = OpD.mk p0.xKind p0.xKey p0.xValue ([]) ([]) 0 := rfl
  obtain rfl := e.symm.trans hr
  exact ⟨rfl, H29⟩
def op_checkValue (p0 : List UInt8) : Int :=
  if ((p0.length : Nat) : Int) > 16 then 2 else 0
set_option maxRecDepth 100000 in
theorem op_checkValue_ok (w : World) (D : Nat → Prop) (p0 : List UInt8) (r0 : Int) (H : Own w D w [])  (hr : op_checkValue p0 = r0) :
    Calls Try.prog 65 #[.string ⟨List.toArray p0⟩] w (Ret fun v w' => v = .int .i64 r0 ∧ Own w D w' []) := by
  refine Calls.body (args := [.string ⟨List.toArray p0⟩]) Try.func65 rfl rfl rfl ?_
  show Wp _ _ _ [(0, .string ⟨List.toArray p0⟩)] _ _
  refine Wp.seq (Wp.region (As rfl rfl (WL.nil (Fin.then (Wp.seq (Wp.seq (Wp.region (Mv rfl rfl (Kn (v := .int .i64 ((p0.length : Nat) : Int)) rfl rfl rfl (fun _ => by kernel_rfl) (Kn (v := .bool (decide (((p0.length : Nat) : Int) > 16))) rfl rfl rfl (fun _ => by kernel_rfl) (WL.nil (Fin.then ?_))))))))))))
  by_cases h21 : ((p0.length : Nat) : Int) > 16
  refine Wp.cond1 rfl (decide_eq_true h21) (Wp.seq (Wp.region (As rfl rfl (WL.nil (Fin.then (Wp.ret (Fin.thenR (Fin.res (res1 rfl rfl) ?_))))))))
  have H22 : Own w D w [] := H.pick [] (by decide) rfl
  have e : op_checkValue p0 = 2 := if_pos h21
  obtain rfl := e.symm.trans hr
  exact ⟨rfl, H22⟩
  refine Wp.cond0 rfl (decide_eq_false h21) (Wp.skip (Fin.then (Wp.seq (Wp.region (As rfl rfl (WL.nil (Fin.then (Wp.ret (Fin.res (res1 rfl rfl) ?_)))))))))
  have H23 : Own w D w [] := H.pick [] (by decide) rfl
  have e : op_checkValue p0 = 0 := if_neg h21
  obtain rfl := e.symm.trans hr
  exact ⟨rfl, H23⟩
def op_checkPair (p0 : OpD) : Int :=
  bnd (span_CheckKey p0.xKey) fun yr29 => if yr29 = 0 then bnd (op_checkValue p0.xValue) fun yr41 => yr41 else yr29
set_option maxRecDepth 100000 in
theorem op_checkPair_ok (w : World) (D : Nat → Prop) (p0 : OpD) (r0 : Int) (H : Own w D w [])  (hr : op_checkPair p0 = r0) :
    Calls Try.prog 72 #[.agg (OpD.cells p0).toArray] w (Ret fun v w' => v = .int .i64 r0 ∧ Own w D w' []) := by
  refine Calls.body (args := [.agg (OpD.cells p0).toArray]) Try.func72 rfl rfl rfl ?_
  show Wp _ _ _ [(0, .agg (OpD.cells p0).toArray)] _ _
  refine Wp.seq (Wp.region ?_)
  refine WL.do rfl (Do.newP (cs := (OpD.cells p0)) (t := 74) H rfl rfl (fun _ => by kernel_rfl) ?_)
  intro g21 w22 H23
  refine As rfl rfl (WL.nil (Fin.then (Wp.seq (Wp.seq (Wp.region (Kn (v := .pointer (some ⟨g21, 1, none⟩)) rfl rfl rfl (fun _ => by kernel_rfl) (WL.val (v := .string ⟨List.toArray p0.xKey⟩) rfl (Yl.load rfl (Lds.one Try.isAgg9 (Cls.of (H23.cls (i := 0) rfl) rfl))) ?_)))))))
  obtain ⟨r29, hr30⟩ : ∃ q, span_CheckKey p0.xKey = q := ⟨_, rfl⟩
  obtain ⟨D24, HP25, ro26, bk27, rr28⟩ := Own.enter0 H23
  refine WL.do rfl (Do.call Try.call31 rfl (span_CheckKey_ok _ _ p0.xKey r29 HP25 hr30) ?_)
  rintro _ w31 ⟨rfl, HQ32, hk34⟩
  have H33 := bk27 _ _ HQ32
  replace hk34 : ¬ (r29 = 0) ∨ (1 ≤ p0.xKey.length ∧ p0.xKey.length ≤ 12) := hk34
  refine As rfl rfl (WL.nil (Fin.then (Wp.seq (Wp.region (Mv rfl rfl (WL.val (v := .bool (decide (¬ (r29 = 0)))) rfl (Yl.bool (e := !(decide (r29 = 0))) (Yl.kern rfl rfl (fun _ => by kernel_rfl)) decide_not.symm) (WL.nil (Fin.then ?_))))))))
  by_cases h35 : r29 = 0
  refine Wp.cond0 rfl (decide_eq_false (not_not_intro h35)) (Wp.skip (Fin.then (Wp.seq (Wp.region (Kn (v := .pointer (some ⟨g21, 2, none⟩)) rfl rfl rfl (fun _ => by kernel_rfl) (WL.val (v := .string ⟨List.toArray p0.xValue⟩) rfl (Yl.load rfl (Lds.one Try.isAgg9 (Cls.of (H33.cls (i := 0) rfl) rfl))) ?_))))))
  obtain ⟨r41, hr42⟩ : ∃ q, op_checkValue p0.xValue = q := ⟨_, rfl⟩
  obtain ⟨D36, HP37, ro38, bk39, rr40⟩ := Own.enter0 H33
  refine WL.do rfl (Do.call Try.call65 rfl (op_checkValue_ok _ _ p0.xValue r41 HP37 hr42) ?_)
  rintro _ w43 ⟨rfl, HQ44⟩
  have H45 := bk39 _ _ HQ44
  refine As rfl rfl (WL.nil (Fin.then (Wp.ret (Fin.res (res1 rfl rfl) ?_))))
  have H46 := H45.pick [] (by decide) rfl
  have e : op_checkPair p0 = r41 := Eq.trans (bnd_of hr30) (Eq.trans (if_pos h35) (bnd_of hr42))
  obtain rfl := e.symm.trans hr
  exact ⟨rfl, H46⟩
  refine Wp.cond1 rfl (decide_eq_true h35) (Wp.seq (Wp.region (Mv rfl rfl (As rfl rfl (WL.nil (Fin.then (Wp.ret (Fin.thenR (Fin.res (res1 rfl rfl) ?_)))))))))
  have H47 := H33.pick [] (by decide) rfl
  have e : op_checkPair p0 = r29 := Eq.trans (bnd_of hr30) (if_neg h35)
  obtain rfl := e.symm.trans hr
  exact ⟨rfl, H47⟩
set_option maxRecDepth 100000 in
theorem op_kindOf_3_ok (w : World) (D : Nat → Prop) (p0 : Int) (H : Own w D w []) (hp0 : p0 = 3) :
    Calls Try.prog 54 #[.int .i64 p0] w (Ret fun v w' => v = .tuple #[.agg #[.bool true, .func (.func 67) #[] #[], .func (.func 68) #[] #[], .func (.func 69) #[] #[], .func (.func 74) #[] #[]], .bool true] ∧ Own w D w' []) := by
  subst hp0
  refine Calls.body (args := [.int .i64 3]) Try.func54 rfl rfl rfl ?_
  show Wp _ _ _ [(0, .int .i64 3)] _ _
  refine Wp.seq (Wp.region ?_)
  refine WL.do rfl (Do.newP (cs := [.bool false, .nilFunc, .nilFunc, .nilFunc, .nilFunc]) (t := 95) H rfl rfl (fun _ => by kernel_rfl) ?_)
  intro g21 w22 H23
  refine As rfl rfl (WL.nil (Fin.then (Wp.seq (Wp.region (Kn (v := .agg #[.bool false, .func (.func 67) #[] #[], .func (.func 68) #[] #[], .func (.func 69) #[] #[], .func (.func 70) #[] #[]]) rfl rfl rfl (fun _ => by kernel_rfl) (Kn (v := .agg #[.bool true, .func (.func 71) #[] #[], .func (.func 72) #[] #[], .func (.func 69) #[] #[], .func (.func 73) #[] #[]]) rfl rfl rfl (fun _ => by kernel_rfl) (Kn (v := .agg #[.bool true, .func (.func 67) #[] #[], .func (.func 68) #[] #[], .func (.func 69) #[] #[], .func (.func 74) #[] #[]]) rfl rfl rfl (fun _ => by kernel_rfl) (Kn (v := .agg #[.bool false, .func (.func 75) #[] #[], .func (.func 76) #[] #[], .func (.func 77) #[] #[], .func (.func 78) #[] #[]]) rfl rfl rfl (fun _ => by kernel_rfl) (Kn (v := .agg #[.bool true, .func (.func 79) #[] #[], .func (.func 80) #[] #[], .func (.func 77) #[] #[], .func (.func 81) #[] #[]]) rfl rfl rfl (fun _ => by kernel_rfl) (Kn (v := .agg #[.bool false, .nilFunc, .nilFunc, .nilFunc, .nilFunc, .bool false, .func (.func 67) #[] #[], .func (.func 68) #[] #[], .func (.func 69) #[] #[], .func (.func 70) #[] #[], .bool true, .func (.func 71) #[] #[], .func (.func 72) #[] #[], .func (.func 69) #[] #[], .func (.func 73) #[] #[], .bool true, .func (.func 67) #[] #[], .func (.func 68) #[] #[], .func (.func 69) #[] #[], .func (.func 74) #[] #[], .bool false, .func (.func 75) #[] #[], .func (.func 76) #[] #[], .func (.func 77) #[] #[], .func (.func 78) #[] #[], .bool true, .func (.func 79) #[] #[], .func (.func 80) #[] #[], .func (.func 77) #[] #[], .func (.func 81) #[] #[]]) rfl rfl rfl (fun _ => by kernel_rfl) ?_))))))))))
  refine WL.do rfl (Do.newP (cs := [.bool false, .nilFunc, .nilFunc, .nilFunc, .nilFunc, .bool false, .nilFunc, .nilFunc, .nilFunc, .nilFunc, .bool false, .nilFunc, .nilFunc, .nilFunc, .nilFunc, .bool false, .nilFunc, .nilFunc, .nilFunc, .nilFunc, .bool false, .nilFunc, .nilFunc, .nilFunc, .nilFunc, .bool false, .nilFunc, .nilFunc, .nilFunc, .nilFunc]) (t := 109) H23 rfl rfl (fun _ => by kernel_rfl) ?_)
  intro g24 w25 H26
  refine WL.do0 (Do.store (vs := [.bool false, .nilFunc, .nilFunc, .nilFunc, .nilFunc, .bool false, .func (.func 67) #[] #[], .func (.func 68) #[] #[], .func (.func 69) #[] #[], .func (.func 70) #[] #[], .bool true, .func (.func 71) #[] #[], .func (.func 72) #[] #[], .func (.func 69) #[] #[], .func (.func 73) #[] #[], .bool true, .func (.func 67) #[] #[], .func (.func 68) #[] #[], .func (.func 69) #[] #[], .func (.func 74) #[] #[], .bool false, .func (.func 75) #[] #[], .func (.func 76) #[] #[], .func (.func 77) #[] #[], .func (.func 78) #[] #[], .bool true, .func (.func 79) #[] #[], .func (.func 80) #[] #[], .func (.func 77) #[] #[], .func (.func 81) #[] #[]]) (o := 0) H26 rfl rfl Try.sizeOf109 rfl rfl rfl rfl ?_)
  intro w27 H28
  refine WL.nil (Fin.then (Wp.seq (Wp.seq (Wp.region (Mv rfl rfl (Kn (v := .bool false) rfl rfl rfl (fun _ => by kernel_rfl) (Mv rfl rfl (WL.valG (v := .int .i64 3) rfl rfl rfl rfl (Yl.move rfl) (WL.valG (v := .bool false) rfl rfl rfl rfl (Yl.kern rfl rfl (fun _ => by kernel_rfl)) (WL.val (v := .bool false) rfl (Yl.pickF rfl rfl rfl) (WL.nil (Fin.then (Wp.cond0 rfl rfl (Wp.skip (Fin.then (Wp.seq (Wp.region (Mv rfl rfl (Kn (v := .pointer (some ⟨g24, 15, none⟩)) rfl rfl rfl (fun _ => by kernel_rfl) (WL.val (v := .agg #[.bool true, .func (.func 67) #[] #[], .func (.func 68) #[] #[], .func (.func 69) #[] #[], .func (.func 74) #[] #[]]) rfl (Yl.load rfl (Lds.agg (cs := [.bool true, .func (.func 67) #[] #[], .func (.func 68) #[] #[], .func (.func 69) #[] #[], .func (.func 74) #[] #[]]) Try.isAgg95 Try.sizeOf95 ((H28.cls (i := 0) rfl).lit (k := 15) (m := 5) rfl))) ?_))))))))))))))))))))
  have H29 := H28.pick [1, 0] (by decide) rfl
  refine WL.do0 (Do.store (vs := [.bool true, .func (.func 67) #[] #[], .func (.func 68) #[] #[], .func (.func 69) #[] #[], .func (.func 74) #[] #[]]) (o := 0) H29 rfl rfl Try.sizeOf95 rfl rfl rfl rfl ?_)
  intro w30 H31
  refine As rfl rfl (WL.nil (Fin.then (Wp.ret (Fin.res (resN (vs := [.agg #[.bool true, .func (.func 67) #[] #[], .func (.func 68) #[] #[], .func (.func 69) #[] #[], .func (.func 74) #[] #[]], .bool true]) rfl (ResV.cell rfl (Lds.agg (cs := [.bool true, .func (.func 67) #[] #[], .func (.func 68) #[] #[], .func (.func 69) #[] #[], .func (.func 74) #[] #[]]) Try.isAgg95 Try.sizeOf95 ((H31.cls (i := 0) rfl).lit (k := 0) (m := 5) rfl)) (ResV.tmp rfl ResV.nil)) (Nat.le_of_ble_eq_true rfl)) ?_))))
  have H32 := H31.pick [] (by decide) rfl
  exact ⟨rfl, H32⟩
set_option maxRecDepth 100000 in
theorem op_kindOf_4_ok (w : World) (D : Nat → Prop) (p0 : Int) (H : Own w D w []) (hp0 : p0 = 4) :
    Calls Try.prog 54 #[.int .i64 p0] w (Ret fun v w' => v = .tuple #[.agg #[.bool false, .func (.func 75) #[] #[], .func (.func 76) #[] #[], .func (.func 77) #[] #[], .func (.func 78) #[] #[]], .bool true] ∧ Own w D w' []) := by
  subst hp0
  refine Calls.body (args := [.int .i64 4]) Try.func54 rfl rfl rfl ?_
  show Wp _ _ _ [(0, .int .i64 4)] _ _
  refine Wp.seq (Wp.region ?_)
  refine WL.do rfl (Do.newP (cs := [.bool false, .nilFunc, .nilFunc, .nilFunc, .nilFunc]) (t := 95) H rfl rfl (fun _ => by kernel_rfl) ?_)
  intro g21 w22 H23
  refine As rfl rfl (WL.nil (Fin.then (Wp.seq (Wp.region (Kn (v := .agg #[.bool false, .func (.func 67) #[] #[], .func (.func 68) #[] #[], .func (.func 69) #[] #[], .func (.func 70) #[] #[]]) rfl rfl rfl (fun _ => by kernel_rfl) (Kn (v := .agg #[.bool true, .func (.func 71) #[] #[], .func (.func 72) #[] #[], .func (.func 69) #[] #[], .func (.func 73) #[] #[]]) rfl rfl rfl (fun _ => by kernel_rfl) (Kn (v := .agg #[.bool true, .func (.func 67) #[] #[], .func (.func 68) #[] #[], .func (.func 69) #[] #[], .func (.func 74) #[] #[]]) rfl rfl rfl (fun _ => by kernel_rfl) (Kn (v := .agg #[.bool false, .func (.func 75) #[] #[], .func (.func 76) #[] #[], .func (.func 77) #[] #[], .func (.func 78) #[] #[]]) rfl rfl rfl (fun _ => by kernel_rfl) (Kn (v := .agg #[.bool true, .func (.func 79) #[] #[], .func (.func 80) #[] #[], .func (.func 77) #[] #[], .func (.func 81) #[] #[]]) rfl rfl rfl (fun _ => by kernel_rfl) (Kn (v := .agg #[.bool false, .nilFunc, .nilFunc, .nilFunc, .nilFunc, .bool false, .func (.func 67) #[] #[], .func (.func 68) #[] #[], .func (.func 69) #[] #[], .func (.func 70) #[] #[], .bool true, .func (.func 71) #[] #[], .func (.func 72) #[] #[], .func (.func 69) #[] #[], .func (.func 73) #[] #[], .bool true, .func (.func 67) #[] #[], .func (.func 68) #[] #[], .func (.func 69) #[] #[], .func (.func 74) #[] #[], .bool false, .func (.func 75) #[] #[], .func (.func 76) #[] #[], .func (.func 77) #[] #[], .func (.func 78) #[] #[], .bool true, .func (.func 79) #[] #[], .func (.func 80) #[] #[], .func (.func 77) #[] #[], .func (.func 81) #[] #[]]) rfl rfl rfl (fun _ => by kernel_rfl) ?_))))))))))
  refine WL.do rfl (Do.newP (cs := [.bool false, .nilFunc, .nilFunc, .nilFunc, .nilFunc, .bool false, .nilFunc, .nilFunc, .nilFunc, .nilFunc, .bool false, .nilFunc, .nilFunc, .nilFunc, .nilFunc, .bool false, .nilFunc, .nilFunc, .nilFunc, .nilFunc, .bool false, .nilFunc, .nilFunc, .nilFunc, .nilFunc, .bool false, .nilFunc, .nilFunc, .nilFunc, .nilFunc]) (t := 109) H23 rfl rfl (fun _ => by kernel_rfl) ?_)
  intro g24 w25 H26
  refine WL.do0 (Do.store (vs := [.bool false, .nilFunc, .nilFunc, .nilFunc, .nilFunc, .bool false, .func (.func 67) #[] #[], .func (.func 68) #[] #[], .func (.func 69) #[] #[], .func (.func 70) #[] #[], .bool true, .func (.func 71) #[] #[], .func (.func 72) #[] #[], .func (.func 69) #[] #[], .func (.func 73) #[] #[], .bool true, .func (.func 67) #[] #[], .func (.func 68) #[] #[], .func (.func 69) #[] #[], .func (.func 74) #[] #[], .bool false, .func (.func 75) #[] #[], .func (.func 76) #[] #[], .func (.func 77) #[] #[], .func (.func 78) #[] #[], .bool true, .func (.func 79) #[] #[], .func (.func 80) #[] #[], .func (.func 77) #[] #[], .func (.func 81) #[] #[]]) (o := 0) H26 rfl rfl Try.sizeOf109 rfl rfl rfl rfl ?_)
  intro w27 H28
  refine WL.nil (Fin.then (Wp.seq (Wp.seq (Wp.region (Mv rfl rfl (Kn (v := .bool false) rfl rfl rfl (fun _ => by kernel_rfl) (Mv rfl rfl (WL.valG (v := .int .i64 4) rfl rfl rfl rfl (Yl.move rfl) (WL.valG (v := .bool false) rfl rfl rfl rfl (Yl.kern rfl rfl (fun _ => by kernel_rfl)) (WL.val (v := .bool false) rfl (Yl.pickF rfl rfl rfl) (WL.nil (Fin.then (Wp.cond0 rfl rfl (Wp.skip (Fin.then (Wp.seq (Wp.region (Mv rfl rfl (Kn (v := .pointer (some ⟨g24, 20, none⟩)) rfl rfl rfl (fun _ => by kernel_rfl) (WL.val (v := .agg #[.bool false, .func (.func 75) #[] #[], .func (.func 76) #[] #[], .func (.func 77) #[] #[], .func (.func 78) #[] #[]]) rfl (Yl.load rfl (Lds.agg (cs := [.bool false, .func (.func 75) #[] #[], .func (.func 76) #[] #[], .func (.func 77) #[] #[], .func (.func 78) #[] #[]]) Try.isAgg95 Try.sizeOf95 ((H28.cls (i := 0) rfl).lit (k := 20) (m := 5) rfl))) ?_))))))))))))))))))))
  have H29 := H28.pick [1, 0] (by decide) rfl
  refine WL.do0 (Do.store (vs := [.bool false, .func (.func 75) #[] #[], .func (.func 76) #[] #[], .func (.func 77) #[] #[], .func (.func 78) #[] #[]]) (o := 0) H29 rfl rfl Try.sizeOf95 rfl rfl rfl rfl ?_)
  intro w30 H31
  refine As rfl rfl (WL.nil (Fin.then (Wp.ret (Fin.res (resN (vs := [.agg #[.bool false, .func (.func 75) #[] #[], .func (.func 76) #[] #[], .func (.func 77) #[] #[], .func (.func 78) #[] #[]], .bool true]) rfl (ResV.cell rfl (Lds.agg (cs := [.bool false, .func (.func 75) #[] #[], .func (.func 76) #[] #[], .func (.func 77) #[] #[], .func (.func 78) #[] #[]]) Try.isAgg95 Try.sizeOf95 ((H31.cls (i := 0) rfl).lit (k := 0) (m := 5) rfl)) (ResV.tmp rfl ResV.nil)) (Nat.le_of_ble_eq_true rfl)) ?_))))
  have H32 := H31.pick [] (by decide) rfl
  exact ⟨rfl, H32⟩
def op_ownScan (p0 : OpD) : OpD :=
  OpD.mk p0.xKind ([]) ([]) p0.xLo p0.xHi p0.xMost
set_option maxRecDepth 100000 in
theorem op_ownScan_ok (w : World) (D : Nat → Prop) (p0 : OpD) (r0 : OpD) (H : Own w D w [])  (hr : op_ownScan p0 = r0) :
    Calls Try.prog 75 #[.agg (OpD.cells p0).toArray] w (Ret fun v w' => v = .agg (OpD.cells r0).toArray ∧ Own w D w' []) := by
  refine Calls.body (args := [.agg (OpD.cells p0).toArray]) Try.func75 rfl rfl rfl ?_
  show Wp _ _ _ [(0, .agg (OpD.cells p0).toArray)] _ _
  refine Wp.seq (Wp.region ?_)
  refine WL.do rfl (Do.newP (cs := (OpD.cells p0)) (t := 74) H rfl rfl (fun _ => by kernel_rfl) ?_)
  intro g21 w22 H23
  refine WL.do rfl (Do.newP (cs := [.int .i64 0, .string ⟨List.toArray ([])⟩, .string ⟨List.toArray ([])⟩, .string ⟨List.toArray ([])⟩, .string ⟨List.toArray ([])⟩, .int .i64 0]) (t := 74) H23 rfl rfl (fun _ => by kernel_rfl) ?_)
  intro g24 w25 H26
  refine WL.nil (Fin.then (Wp.seq (Wp.region (Kn (v := .pointer (some ⟨g21, 0, none⟩)) rfl rfl rfl (fun _ => by kernel_rfl) (WL.val (v := .int .i64 p0.xKind) rfl (Yl.load rfl (Lds.one Try.isAgg3 (Cls.of (H26.cls (i := 1) rfl) rfl))) (Kn (v := .pointer (some ⟨g21, 3, none⟩)) rfl rfl rfl (fun _ => by kernel_rfl) (WL.val (v := .string ⟨List.toArray p0.xLo⟩) rfl (Yl.load rfl (Lds.one Try.isAgg9 (Cls.of (H26.cls (i := 1) rfl) rfl))) (Kn (v := .pointer (some ⟨g21, 4, none⟩)) rfl rfl rfl (fun _ => by kernel_rfl) (WL.val (v := .string ⟨List.toArray p0.xHi⟩) rfl (Yl.load rfl (Lds.one Try.isAgg9 (Cls.of (H26.cls (i := 1) rfl) rfl))) (Kn (v := .pointer (some ⟨g21, 5, none⟩)) rfl rfl rfl (fun _ => by kernel_rfl) (WL.val (v := .int .i64 p0.xMost) rfl (Yl.load rfl (Lds.one Try.isAgg3 (Cls.of (H26.cls (i := 1) rfl) rfl))) (Kn (v := .agg #[.int .i64 p0.xKind, .string ⟨List.toArray ([])⟩, .string ⟨List.toArray ([])⟩, .string ⟨List.toArray p0.xLo⟩, .string ⟨List.toArray p0.xHi⟩, .int .i64 p0.xMost]) rfl rfl rfl (fun _ => by kernel_rfl) ?_))))))))))))
  refine WL.do0 (Do.store (vs := [.int .i64 p0.xKind, .string ⟨List.toArray ([])⟩, .string ⟨List.toArray ([])⟩, .string ⟨List.toArray p0.xLo⟩, .string ⟨List.toArray p0.xHi⟩, .int .i64 p0.xMost]) (o := 0) H26 rfl rfl Try.sizeOf74 rfl rfl rfl rfl ?_)
  intro w27 H28
  refine WL.nil (Fin.then (Wp.ret (Fin.res (resC rfl rfl (Lds.agg (cs := [.int .i64 p0.xKind, .string ⟨List.toArray ([])⟩, .string ⟨List.toArray ([])⟩, .string ⟨List.toArray p0.xLo⟩, .string ⟨List.toArray p0.xHi⟩, .int .i64 p0.xMost]) Try.isAgg74 Try.sizeOf74 ((H28.cls (i := 0) rfl).lit (k := 0) (m := 6) rfl))) ?_)))
  have H29 := H28.pick [] (by decide) rfl
  have e : op_ownScan p0 = OpD.mk p0.xKind ([]) ([]) p0.xLo p0.xHi p0.xMost := rfl
  obtain rfl := e.symm.trans hr
  exact ⟨rfl, H29⟩
structure RangeD where
  xLo : List UInt8
  xHi : List UInt8
def RangeD.cells (x : RangeD) : List Value := [.string ⟨List.toArray x.xLo⟩, .string ⟨List.toArray x.xHi⟩]
instance : Bk RangeD := ⟨fun x _ => bk x.xLo + (bk x.xHi + (0))⟩
theorem RangeD.len : ∀ x, (RangeD.cells x).length = 2 := fun _ => rfl
theorem RangeD.one : ∀ x, ∀ u ∈ RangeD.cells x, u.oneCell' = true := fun x u hu => by
  simp only [RangeD.cells, List.mem_cons, List.not_mem_nil, or_false] at hu
  rcases hu with rfl | rfl <;> rfl
def RangeD.Ok (w : World) (x : RangeD) : Prop := (x.xLo.length ≤ 140737488351232) ∧ (x.xHi.length ≤ 140737488351232)
instance : Inhabited RangeD := ⟨⟨default, default⟩⟩
def op_spanRange (p0 : OpD) : RangeD :=
  RangeD.mk p0.xLo p0.xHi
set_option maxRecDepth 100000 in
theorem op_spanRange_ok (w : World) (D : Nat → Prop) (p0 : OpD) (r0 : RangeD) (H : Own w D w [])  (hr : op_spanRange p0 = r0) :
    Calls Try.prog 77 #[.agg (OpD.cells p0).toArray] w (Ret fun v w' => v = .agg (RangeD.cells r0).toArray ∧ Own w D w' []) := by
  refine Calls.body (args := [.agg (OpD.cells p0).toArray]) Try.func77 rfl rfl rfl ?_
  show Wp _ _ _ [(0, .agg (OpD.cells p0).toArray)] _ _
  refine Wp.seq (Wp.region ?_)
  refine WL.do rfl (Do.newP (cs := (OpD.cells p0)) (t := 74) H rfl rfl (fun _ => by kernel_rfl) ?_)
  intro g21 w22 H23
  refine WL.do rfl (Do.newP (cs := [.string ⟨List.toArray ([])⟩, .string ⟨List.toArray ([])⟩]) (t := 24) H23 rfl rfl (fun _ => by kernel_rfl) ?_)
  intro g24 w25 H26
  refine WL.nil (Fin.then (Wp.seq (Wp.region (Kn (v := .pointer (some ⟨g21, 3, none⟩)) rfl rfl rfl (fun _ => by kernel_rfl) (WL.val (v := .string ⟨List.toArray p0.xLo⟩) rfl (Yl.load rfl (Lds.one Try.isAgg9 (Cls.of (H26.cls (i := 1) rfl) rfl))) (Kn (v := .pointer (some ⟨g21, 4, none⟩)) rfl rfl rfl (fun _ => by kernel_rfl) (WL.val (v := .string ⟨List.toArray p0.xHi⟩) rfl (Yl.load rfl (Lds.one Try.isAgg9 (Cls.of (H26.cls (i := 1) rfl) rfl))) (Kn (v := .agg #[.string ⟨List.toArray p0.xLo⟩, .string ⟨List.toArray p0.xHi⟩]) rfl rfl rfl (fun _ => by kernel_rfl) ?_))))))))
  refine WL.do0 (Do.store (vs := [.string ⟨List.toArray p0.xLo⟩, .string ⟨List.toArray p0.xHi⟩]) (o := 0) H26 rfl rfl Try.sizeOf24 rfl rfl rfl rfl ?_)
  intro w27 H28
  refine WL.nil (Fin.then (Wp.ret (Fin.res (resC rfl rfl (Lds.agg (cs := [.string ⟨List.toArray p0.xLo⟩, .string ⟨List.toArray p0.xHi⟩]) Try.isAgg24 Try.sizeOf24 ((H28.cls (i := 0) rfl).lit (k := 0) (m := 2) rfl))) ?_)))
  have H29 := H28.pick [] (by decide) rfl
  have e : op_spanRange p0 = RangeD.mk p0.xLo p0.xHi := rfl
  obtain rfl := e.symm.trans hr
  exact ⟨rfl, H29⟩
def span_Check (p0 : RangeD) : Int :=
  if p0.xLo ≠ ([]) then bnd (span_CheckKey p0.xLo) fun yr30 => if yr30 = 0 then if p0.xHi ≠ ([]) then bnd (span_CheckKey p0.xHi) fun yr43 => if yr43 = 0 then if p0.xHi ≤ p0.xLo then 21 else 0 else 21 else 0 else 21 else if p0.xHi ≠ ([]) then bnd (span_CheckKey p0.xHi) fun yr62 => if yr62 = 0 then if p0.xHi ≤ p0.xLo then 21 else 0 else 21 else 0
set_option maxRecDepth 100000 in
theorem span_Check_ok (w : World) (D : Nat → Prop) (p0 : RangeD) (r0 : Int) (H : Own w D w [])  (hr : span_Check p0 = r0) :
    Calls Try.prog 29 #[.agg (RangeD.cells p0).toArray] w (Ret fun v w' => v = .int .i64 r0 ∧ Own w D w' []) := by
  refine Calls.body (args := [.agg (RangeD.cells p0).toArray]) Try.func29 rfl rfl rfl ?_
  show Wp _ _ _ [(0, .agg (RangeD.cells p0).toArray)] _ _
  refine Wp.seq (Wp.region ?_)
  refine WL.do rfl (Do.newP (cs := (RangeD.cells p0)) (t := 24) H rfl rfl (fun _ => by kernel_rfl) ?_)
  intro g21 w22 H23
  refine As rfl rfl (WL.nil (Fin.then (Wp.seq (Wp.seq (Wp.region (Kn (v := .pointer (some ⟨g21, 0, none⟩)) rfl rfl rfl (fun _ => by kernel_rfl) (WL.val (v := .string ⟨List.toArray p0.xLo⟩) rfl (Yl.load rfl (Lds.one Try.isAgg9 (Cls.of (H23.cls (i := 0) rfl) rfl))) (WL.val (v := .bool (decide (p0.xLo ≠ ([])))) rfl (Yl.strNe rfl rfl) (Mv rfl rfl ?_)))))))))
  by_cases h24 : p0.xLo ≠ ([])
  refine WL.valG (v := .pointer (some ⟨g21, 0, none⟩)) rfl rfl (decide_eq_true h24) rfl (Yl.kern rfl rfl (fun _ => by kernel_rfl)) (WL.valG (v := .string ⟨List.toArray p0.xLo⟩) rfl rfl (decide_eq_true h24) rfl (Yl.load rfl (Lds.one Try.isAgg9 (Cls.of (H23.cls (i := 0) rfl) rfl))) ?_)
  obtain ⟨r30, hr31⟩ : ∃ q, span_CheckKey p0.xLo = q := ⟨_, rfl⟩
  obtain ⟨D25, HP26, ro27, bk28, rr29⟩ := Own.enter0 H23
  refine WL.doG rfl rfl (decide_eq_true h24) rfl (Do.call Try.call31 rfl (span_CheckKey_ok _ _ p0.xLo r30 HP26 hr31) ?_)
  rintro _ w32 ⟨rfl, HQ33, hk35⟩
  have H34 := bk28 _ _ HQ33
  replace hk35 : ¬ (r30 = 0) ∨ (1 ≤ p0.xLo.length ∧ p0.xLo.length ≤ 12) := hk35
  refine WL.valG (v := .bool (decide (¬ (r30 = 0)))) rfl rfl (decide_eq_true h24) rfl (Yl.bool (e := !(decide (r30 = 0))) (Yl.kern rfl rfl (fun _ => by kernel_rfl)) decide_not.symm) (WL.val (v := .bool (decide (¬ (r30 = 0)))) rfl (Yl.pickT rfl (decide_eq_true h24) rfl) (WL.nil (Fin.then ?_)))
  by_cases h36 : r30 = 0
  refine Wp.cond0 rfl (decide_eq_false (not_not_intro h36)) (Wp.skip (Fin.then (Wp.seq (Wp.seq (Wp.region (Kn (v := .pointer (some ⟨g21, 1, none⟩)) rfl rfl rfl (fun _ => by kernel_rfl) (WL.val (v := .string ⟨List.toArray p0.xHi⟩) rfl (Yl.load rfl (Lds.one Try.isAgg9 (Cls.of (H34.cls (i := 0) rfl) rfl))) (WL.val (v := .bool (decide (p0.xHi ≠ ([])))) rfl (Yl.strNe rfl rfl) (Mv rfl rfl ?_)))))))))
  by_cases h37 : p0.xHi ≠ ([])
  refine WL.valG (v := .pointer (some ⟨g21, 1, none⟩)) rfl rfl (decide_eq_true h37) rfl (Yl.kern rfl rfl (fun _ => by kernel_rfl)) (WL.valG (v := .string ⟨List.toArray p0.xHi⟩) rfl rfl (decide_eq_true h37) rfl (Yl.load rfl (Lds.one Try.isAgg9 (Cls.of (H34.cls (i := 0) rfl) rfl))) ?_)
  obtain ⟨r43, hr44⟩ : ∃ q, span_CheckKey p0.xHi = q := ⟨_, rfl⟩
  obtain ⟨D38, HP39, ro40, bk41, rr42⟩ := Own.enter0 H34
  refine WL.doG rfl rfl (decide_eq_true h37) rfl (Do.call Try.call31 rfl (span_CheckKey_ok _ _ p0.xHi r43 HP39 hr44) ?_)
  rintro _ w45 ⟨rfl, HQ46, hk48⟩
  have H47 := bk41 _ _ HQ46
  replace hk48 : ¬ (r43 = 0) ∨ (1 ≤ p0.xHi.length ∧ p0.xHi.length ≤ 12) := hk48
  refine WL.valG (v := .bool (decide (¬ (r43 = 0)))) rfl rfl (decide_eq_true h37) rfl (Yl.bool (e := !(decide (r43 = 0))) (Yl.kern rfl rfl (fun _ => by kernel_rfl)) decide_not.symm) (WL.valG (v := .bool (decide (¬ (r43 = 0)))) rfl rfl (decide_eq_true h37) rfl (Yl.move rfl) ?_)
  by_cases h49 : r43 = 0
  refine WL.valG (v := .pointer (some ⟨g21, 1, none⟩)) rfl rfl (decide_eq_false (not_not_intro h49)) rfl (Yl.kern rfl rfl (fun _ => by kernel_rfl)) (WL.valG (v := .string ⟨List.toArray p0.xHi⟩) rfl rfl (decide_eq_false (not_not_intro h49)) rfl (Yl.load rfl (Lds.one Try.isAgg9 (Cls.of (H47.cls (i := 0) rfl) rfl))) (WL.valG (v := .pointer (some ⟨g21, 0, none⟩)) rfl rfl (decide_eq_false (not_not_intro h49)) rfl (Yl.kern rfl rfl (fun _ => by kernel_rfl)) (WL.valG (v := .string ⟨List.toArray p0.xLo⟩) rfl rfl (decide_eq_false (not_not_intro h49)) rfl (Yl.load rfl (Lds.one Try.isAgg9 (Cls.of (H47.cls (i := 0) rfl) rfl))) (WL.valG (v := .bool (decide (p0.xHi ≤ p0.xLo))) rfl rfl (decide_eq_false (not_not_intro h49)) rfl (Yl.bool (e := Op.bytesLess p0.xHi p0.xLo || decide (p0.xHi = p0.xLo)) (Yl.strLe rfl rfl) (bl_le _ _)) (WL.valG (v := .bool (decide (p0.xHi ≤ p0.xLo))) rfl rfl (decide_eq_true h37) rfl (Yl.pickF rfl (decide_eq_false (not_not_intro h49)) rfl) (WL.val (v := .bool (decide (p0.xHi ≤ p0.xLo))) rfl (Yl.pickT rfl (decide_eq_true h37) rfl) (WL.nil (Fin.then ?_))))))))
  by_cases h50 : p0.xHi ≤ p0.xLo
  refine Wp.cond1 rfl (decide_eq_true h50) (Wp.seq (Wp.region (As rfl rfl (WL.nil (Fin.then (Wp.ret (Fin.thenR (Fin.res (res1 rfl rfl) ?_))))))))
  have H51 := H47.pick [] (by decide) rfl
  have e : span_Check p0 = 21 := Eq.trans (if_pos h24) (Eq.trans (bnd_of hr31) (Eq.trans (if_pos h36) (Eq.trans (if_pos h37) (Eq.trans (bnd_of hr44) (Eq.trans (if_pos h49) (if_pos h50))))))
  obtain rfl := e.symm.trans hr
  exact ⟨rfl, H51⟩
  refine Wp.cond0 rfl (decide_eq_false h50) (Wp.skip (Fin.then (Wp.seq (Wp.region (As rfl rfl (WL.nil (Fin.then (Wp.ret (Fin.res (res1 rfl rfl) ?_)))))))))
  have H52 := H47.pick [] (by decide) rfl
  have e : span_Check p0 = 0 := Eq.trans (if_pos h24) (Eq.trans (bnd_of hr31) (Eq.trans (if_pos h36) (Eq.trans (if_pos h37) (Eq.trans (bnd_of hr44) (Eq.trans (if_pos h49) (if_neg h50))))))
  obtain rfl := e.symm.trans hr
  exact ⟨rfl, H52⟩
  refine Sk rfl rfl (decide_eq_true h49) rfl (Sk rfl rfl (decide_eq_true h49) rfl (Sk rfl rfl (decide_eq_true h49) rfl (Sk rfl rfl (decide_eq_true h49) rfl (Sk rfl rfl (decide_eq_true h49) rfl (WL.valG (v := .bool true) rfl rfl (decide_eq_true h37) rfl (Yl.pickT rfl (decide_eq_true h49) rfl) (WL.val (v := .bool true) rfl (Yl.pickT rfl (decide_eq_true h37) rfl) (WL.nil (Fin.then (Wp.cond1 rfl rfl (Wp.seq (Wp.region (As rfl rfl (WL.nil (Fin.then (Wp.ret (Fin.thenR (Fin.res (res1 rfl rfl) ?_)))))))))))))))))
  have H53 := H47.pick [] (by decide) rfl
  have e : span_Check p0 = 21 := Eq.trans (if_pos h24) (Eq.trans (bnd_of hr31) (Eq.trans (if_pos h36) (Eq.trans (if_pos h37) (Eq.trans (bnd_of hr44) (if_neg h49)))))
  obtain rfl := e.symm.trans hr
  exact ⟨rfl, H53⟩
  refine Sk rfl rfl (decide_eq_false h37) rfl (Sk rfl rfl (decide_eq_false h37) rfl (Sk rfl rfl (decide_eq_false h37) rfl (Sk rfl rfl (decide_eq_false h37) rfl (Sk rfl rfl (decide_eq_false h37) rfl (WL.skipU rfl rfl rfl (WL.skipU rfl rfl rfl (WL.skipU rfl rfl rfl (WL.skipU rfl rfl rfl (WL.skipU rfl rfl rfl (Sk rfl rfl (decide_eq_false h37) rfl (WL.val (v := .bool false) rfl (Yl.pickF rfl (decide_eq_false h37) rfl) (WL.nil (Fin.then (Wp.cond0 rfl rfl (Wp.skip (Fin.then (Wp.seq (Wp.region (As rfl rfl (WL.nil (Fin.then (Wp.ret (Fin.res (res1 rfl rfl) ?_)))))))))))))))))))))))
  have H54 := H34.pick [] (by decide) rfl
  have e : span_Check p0 = 0 := Eq.trans (if_pos h24) (Eq.trans (bnd_of hr31) (Eq.trans (if_pos h36) (if_neg h37)))
  obtain rfl := e.symm.trans hr
  exact ⟨rfl, H54⟩
  refine Wp.cond1 rfl (decide_eq_true h36) (Wp.seq (Wp.region (As rfl rfl (WL.nil (Fin.then (Wp.ret (Fin.thenR (Fin.res (res1 rfl rfl) ?_))))))))
  have H55 := H34.pick [] (by decide) rfl
  have e : span_Check p0 = 21 := Eq.trans (if_pos h24) (Eq.trans (bnd_of hr31) (if_neg h36))
  obtain rfl := e.symm.trans hr
  exact ⟨rfl, H55⟩
  refine Sk rfl rfl (decide_eq_false h24) rfl (Sk rfl rfl (decide_eq_false h24) rfl (Sk rfl rfl (decide_eq_false h24) rfl (Sk rfl rfl (decide_eq_false h24) rfl (WL.val (v := .bool false) rfl (Yl.pickF rfl (decide_eq_false h24) rfl) (WL.nil (Fin.then (Wp.cond0 rfl rfl (Wp.skip (Fin.then (Wp.seq (Wp.seq (Wp.region (Kn (v := .pointer (some ⟨g21, 1, none⟩)) rfl rfl rfl (fun _ => by kernel_rfl) (WL.val (v := .string ⟨List.toArray p0.xHi⟩) rfl (Yl.load rfl (Lds.one Try.isAgg9 (Cls.of (H23.cls (i := 0) rfl) rfl))) (WL.val (v := .bool (decide (p0.xHi ≠ ([])))) rfl (Yl.strNe rfl rfl) (Mv rfl rfl ?_))))))))))))))))
  by_cases h56 : p0.xHi ≠ ([])
  refine WL.valG (v := .pointer (some ⟨g21, 1, none⟩)) rfl rfl (decide_eq_true h56) rfl (Yl.kern rfl rfl (fun _ => by kernel_rfl)) (WL.valG (v := .string ⟨List.toArray p0.xHi⟩) rfl rfl (decide_eq_true h56) rfl (Yl.load rfl (Lds.one Try.isAgg9 (Cls.of (H23.cls (i := 0) rfl) rfl))) ?_)
  obtain ⟨r62, hr63⟩ : ∃ q, span_CheckKey p0.xHi = q := ⟨_, rfl⟩
  obtain ⟨D57, HP58, ro59, bk60, rr61⟩ := Own.enter0 H23
  refine WL.doG rfl rfl (decide_eq_true h56) rfl (Do.call Try.call31 rfl (span_CheckKey_ok _ _ p0.xHi r62 HP58 hr63) ?_)
  rintro _ w64 ⟨rfl, HQ65, hk67⟩
  have H66 := bk60 _ _ HQ65
  replace hk67 : ¬ (r62 = 0) ∨ (1 ≤ p0.xHi.length ∧ p0.xHi.length ≤ 12) := hk67
  refine WL.valG (v := .bool (decide (¬ (r62 = 0)))) rfl rfl (decide_eq_true h56) rfl (Yl.bool (e := !(decide (r62 = 0))) (Yl.kern rfl rfl (fun _ => by kernel_rfl)) decide_not.symm) (WL.valG (v := .bool (decide (¬ (r62 = 0)))) rfl rfl (decide_eq_true h56) rfl (Yl.move rfl) ?_)
  by_cases h68 : r62 = 0
  refine WL.valG (v := .pointer (some ⟨g21, 1, none⟩)) rfl rfl (decide_eq_false (not_not_intro h68)) rfl (Yl.kern rfl rfl (fun _ => by kernel_rfl)) (WL.valG (v := .string ⟨List.toArray p0.xHi⟩) rfl rfl (decide_eq_false (not_not_intro h68)) rfl (Yl.load rfl (Lds.one Try.isAgg9 (Cls.of (H66.cls (i := 0) rfl) rfl))) (WL.valG (v := .pointer (some ⟨g21, 0, none⟩)) rfl rfl (decide_eq_false (not_not_intro h68)) rfl (Yl.kern rfl rfl (fun _ => by kernel_rfl)) (WL.valG (v := .string ⟨List.toArray p0.xLo⟩) rfl rfl (decide_eq_false (not_not_intro h68)) rfl (Yl.load rfl (Lds.one Try.isAgg9 (Cls.of (H66.cls (i := 0) rfl) rfl))) (WL.valG (v := .bool (decide (p0.xHi ≤ p0.xLo))) rfl rfl (decide_eq_false (not_not_intro h68)) rfl (Yl.bool (e := Op.bytesLess p0.xHi p0.xLo || decide (p0.xHi = p0.xLo)) (Yl.strLe rfl rfl) (bl_le _ _)) (WL.valG (v := .bool (decide (p0.xHi ≤ p0.xLo))) rfl rfl (decide_eq_true h56) rfl (Yl.pickF rfl (decide_eq_false (not_not_intro h68)) rfl) (WL.val (v := .bool (decide (p0.xHi ≤ p0.xLo))) rfl (Yl.pickT rfl (decide_eq_true h56) rfl) (WL.nil (Fin.then ?_))))))))
  by_cases h69 : p0.xHi ≤ p0.xLo
  refine Wp.cond1 rfl (decide_eq_true h69) (Wp.seq (Wp.region (As rfl rfl (WL.nil (Fin.then (Wp.ret (Fin.thenR (Fin.res (res1 rfl rfl) ?_))))))))
  have H70 := H66.pick [] (by decide) rfl
  have e : span_Check p0 = 21 := Eq.trans (if_neg h24) (Eq.trans (if_pos h56) (Eq.trans (bnd_of hr63) (Eq.trans (if_pos h68) (if_pos h69))))
  obtain rfl := e.symm.trans hr
  exact ⟨rfl, H70⟩
  refine Wp.cond0 rfl (decide_eq_false h69) (Wp.skip (Fin.then (Wp.seq (Wp.region (As rfl rfl (WL.nil (Fin.then (Wp.ret (Fin.res (res1 rfl rfl) ?_)))))))))
  have H71 := H66.pick [] (by decide) rfl
  have e : span_Check p0 = 0 := Eq.trans (if_neg h24) (Eq.trans (if_pos h56) (Eq.trans (bnd_of hr63) (Eq.trans (if_pos h68) (if_neg h69))))
  obtain rfl := e.symm.trans hr
  exact ⟨rfl, H71⟩
  refine Sk rfl rfl (decide_eq_true h68) rfl (Sk rfl rfl (decide_eq_true h68) rfl (Sk rfl rfl (decide_eq_true h68) rfl (Sk rfl rfl (decide_eq_true h68) rfl (Sk rfl rfl (decide_eq_true h68) rfl (WL.valG (v := .bool true) rfl rfl (decide_eq_true h56) rfl (Yl.pickT rfl (decide_eq_true h68) rfl) (WL.val (v := .bool true) rfl (Yl.pickT rfl (decide_eq_true h56) rfl) (WL.nil (Fin.then (Wp.cond1 rfl rfl (Wp.seq (Wp.region (As rfl rfl (WL.nil (Fin.then (Wp.ret (Fin.thenR (Fin.res (res1 rfl rfl) ?_)))))))))))))))))
  have H72 := H66.pick [] (by decide) rfl
  have e : span_Check p0 = 21 := Eq.trans (if_neg h24) (Eq.trans (if_pos h56) (Eq.trans (bnd_of hr63) (if_neg h68)))
  obtain rfl := e.symm.trans hr
  exact ⟨rfl, H72⟩
  refine Sk rfl rfl (decide_eq_false h56) rfl (Sk rfl rfl (decide_eq_false h56) rfl (Sk rfl rfl (decide_eq_false h56) rfl (Sk rfl rfl (decide_eq_false h56) rfl (Sk rfl rfl (decide_eq_false h56) rfl (WL.skipU rfl rfl rfl (WL.skipU rfl rfl rfl (WL.skipU rfl rfl rfl (WL.skipU rfl rfl rfl (WL.skipU rfl rfl rfl (Sk rfl rfl (decide_eq_false h56) rfl (WL.val (v := .bool false) rfl (Yl.pickF rfl (decide_eq_false h56) rfl) (WL.nil (Fin.then (Wp.cond0 rfl rfl (Wp.skip (Fin.then (Wp.seq (Wp.region (As rfl rfl (WL.nil (Fin.then (Wp.ret (Fin.res (res1 rfl rfl) ?_)))))))))))))))))))))))
  have H73 := H23.pick [] (by decide) rfl
  have e : span_Check p0 = 0 := Eq.trans (if_neg h24) (if_neg h56)
  obtain rfl := e.symm.trans hr
  exact ⟨rfl, H73⟩
def op_checkRange (p0 : OpD) : Int :=
  bnd (op_spanRange p0) fun yr29 => bnd (span_Check yr29) fun yr39 => yr39
set_option maxRecDepth 100000 in
theorem op_checkRange_ok (w : World) (D : Nat → Prop) (p0 : OpD) (r0 : Int) (H : Own w D w [])  (hr : op_checkRange p0 = r0) :
    Calls Try.prog 80 #[.agg (OpD.cells p0).toArray] w (Ret fun v w' => v = .int .i64 r0 ∧ Own w D w' []) := by
  refine Calls.body (args := [.agg (OpD.cells p0).toArray]) Try.func80 rfl rfl rfl ?_
  show Wp _ _ _ [(0, .agg (OpD.cells p0).toArray)] _ _
  refine Wp.seq (Wp.region ?_)
  refine WL.do rfl (Do.newP (cs := (OpD.cells p0)) (t := 74) H rfl rfl (fun _ => by kernel_rfl) ?_)
  intro g21 w22 H23
  refine As rfl rfl (WL.nil (Fin.then (Wp.seq (Wp.region (WL.val (v := .agg (OpD.cells p0).toArray) rfl (Yl.load rfl (Lds.agg (cs := (OpD.cells p0)) Try.isAgg74 Try.sizeOf74 ((H23.cls (i := 0) rfl).lit (k := 0) (m := 6) rfl))) ?_)))))
  obtain ⟨r29, hr30⟩ : ∃ q, op_spanRange p0 = q := ⟨_, rfl⟩
  obtain ⟨D24, HP25, ro26, bk27, rr28⟩ := Own.enter0 H23
  refine WL.do rfl (Do.call Try.call77 rfl (op_spanRange_ok _ _ p0 r29 HP25 hr30) ?_)
  rintro _ w31 ⟨rfl, HQ32⟩
  have H33 := bk27 _ _ HQ32
  obtain ⟨r39, hr40⟩ : ∃ q, span_Check r29 = q := ⟨_, rfl⟩
  obtain ⟨D34, HP35, ro36, bk37, rr38⟩ := Own.enter0 H33
  refine WL.do rfl (Do.call Try.call29 rfl (span_Check_ok _ _ r29 r39 HP35 hr40) ?_)
  rintro _ w41 ⟨rfl, HQ42⟩
  have H43 := bk37 _ _ HQ42
  refine As rfl rfl (WL.nil (Fin.then (Wp.ret (Fin.res (res1 rfl rfl) ?_))))
  have H44 := H43.pick [] (by decide) rfl
  have e : op_checkRange p0 = r39 := Eq.trans (bnd_of hr30) (bnd_of hr40)
  obtain rfl := e.symm.trans hr
  exact ⟨rfl, H44⟩
def op_checkScan (p0 : OpD) : Int :=
  bnd (op_checkRange p0) fun yr29 => if yr29 = 0 then if p0.xMost < 1 then 1 else if p0.xMost > 4 then 1 else 0 else yr29
set_option maxRecDepth 100000 in
theorem op_checkScan_ok (w : World) (D : Nat → Prop) (p0 : OpD) (r0 : Int) (H : Own w D w [])  (hr : op_checkScan p0 = r0) :
    Calls Try.prog 76 #[.agg (OpD.cells p0).toArray] w (Ret fun v w' => v = .int .i64 r0 ∧ Own w D w' []) := by
  refine Calls.body (args := [.agg (OpD.cells p0).toArray]) Try.func76 rfl rfl rfl ?_
  show Wp _ _ _ [(0, .agg (OpD.cells p0).toArray)] _ _
  refine Wp.seq (Wp.region ?_)
  refine WL.do rfl (Do.newP (cs := (OpD.cells p0)) (t := 74) H rfl rfl (fun _ => by kernel_rfl) ?_)
  intro g21 w22 H23
  refine As rfl rfl (WL.nil (Fin.then (Wp.seq (Wp.seq (Wp.region (WL.val (v := .agg (OpD.cells p0).toArray) rfl (Yl.load rfl (Lds.agg (cs := (OpD.cells p0)) Try.isAgg74 Try.sizeOf74 ((H23.cls (i := 0) rfl).lit (k := 0) (m := 6) rfl))) ?_))))))
  obtain ⟨r29, hr30⟩ : ∃ q, op_checkRange p0 = q := ⟨_, rfl⟩
  obtain ⟨D24, HP25, ro26, bk27, rr28⟩ := Own.enter0 H23
  refine WL.do rfl (Do.call Try.call80 rfl (op_checkRange_ok _ _ p0 r29 HP25 hr30) ?_)
  rintro _ w31 ⟨rfl, HQ32⟩
  have H33 := bk27 _ _ HQ32
  refine As rfl rfl (WL.nil (Fin.then (Wp.seq (Wp.region (Mv rfl rfl (WL.val (v := .bool (decide (¬ (r29 = 0)))) rfl (Yl.bool (e := !(decide (r29 = 0))) (Yl.kern rfl rfl (fun _ => by kernel_rfl)) decide_not.symm) (WL.nil (Fin.then ?_))))))))
  by_cases h34 : r29 = 0
  refine Wp.cond0 rfl (decide_eq_false (not_not_intro h34)) (Wp.skip (Fin.then (Wp.seq (Wp.seq (Wp.region (Kn (v := .pointer (some ⟨g21, 5, none⟩)) rfl rfl rfl (fun _ => by kernel_rfl) (WL.val (v := .int .i64 p0.xMost) rfl (Yl.load rfl (Lds.one Try.isAgg3 (Cls.of (H33.cls (i := 0) rfl) rfl))) (Kn (v := .bool (decide (p0.xMost < 1))) rfl rfl rfl (fun _ => by kernel_rfl) (Mv rfl rfl ?_)))))))))
  by_cases h35 : p0.xMost < 1
  refine Sk rfl rfl (decide_eq_true h35) rfl (Sk rfl rfl (decide_eq_true h35) rfl (Sk rfl rfl (decide_eq_true h35) rfl (WL.val (v := .bool true) rfl (Yl.pickT rfl (decide_eq_true h35) rfl) (WL.nil (Fin.then (Wp.cond1 rfl rfl (Wp.seq (Wp.region (As rfl rfl (WL.nil (Fin.then (Wp.ret (Fin.thenR (Fin.res (res1 rfl rfl) ?_))))))))))))))
  have H36 := H33.pick [] (by decide) rfl
  have e : op_checkScan p0 = 1 := Eq.trans (bnd_of hr30) (Eq.trans (if_pos h34) (if_pos h35))
  obtain rfl := e.symm.trans hr
  exact ⟨rfl, H36⟩
  refine WL.valG (v := .pointer (some ⟨g21, 5, none⟩)) rfl rfl (decide_eq_false h35) rfl (Yl.kern rfl rfl (fun _ => by kernel_rfl)) (WL.valG (v := .int .i64 p0.xMost) rfl rfl (decide_eq_false h35) rfl (Yl.load rfl (Lds.one Try.isAgg3 (Cls.of (H33.cls (i := 0) rfl) rfl))) (WL.valG (v := .bool (decide (p0.xMost > 4))) rfl rfl (decide_eq_false h35) rfl (Yl.kern rfl rfl (fun _ => by kernel_rfl)) (WL.val (v := .bool (decide (p0.xMost > 4))) rfl (Yl.pickF rfl (decide_eq_false h35) rfl) (WL.nil (Fin.then ?_)))))
  by_cases h37 : p0.xMost > 4
  refine Wp.cond1 rfl (decide_eq_true h37) (Wp.seq (Wp.region (As rfl rfl (WL.nil (Fin.then (Wp.ret (Fin.thenR (Fin.res (res1 rfl rfl) ?_))))))))
  have H38 := H33.pick [] (by decide) rfl
  have e : op_checkScan p0 = 1 := Eq.trans (bnd_of hr30) (Eq.trans (if_pos h34) (Eq.trans (if_neg h35) (if_pos h37)))
  obtain rfl := e.symm.trans hr
  exact ⟨rfl, H38⟩
  refine Wp.cond0 rfl (decide_eq_false h37) (Wp.skip (Fin.then (Wp.seq (Wp.region (As rfl rfl (WL.nil (Fin.then (Wp.ret (Fin.res (res1 rfl rfl) ?_)))))))))
  have H39 := H33.pick [] (by decide) rfl
  have e : op_checkScan p0 = 0 := Eq.trans (bnd_of hr30) (Eq.trans (if_pos h34) (Eq.trans (if_neg h35) (if_neg h37)))
  obtain rfl := e.symm.trans hr
  exact ⟨rfl, H39⟩
  refine Wp.cond1 rfl (decide_eq_true h34) (Wp.seq (Wp.region (Mv rfl rfl (As rfl rfl (WL.nil (Fin.then (Wp.ret (Fin.thenR (Fin.res (res1 rfl rfl) ?_)))))))))
  have H40 := H33.pick [] (by decide) rfl
  have e : op_checkScan p0 = r29 := Eq.trans (bnd_of hr30) (if_neg h34)
  obtain rfl := e.symm.trans hr
  exact ⟨rfl, H40⟩
set_option maxRecDepth 100000 in
theorem op_kindOf_5_ok (w : World) (D : Nat → Prop) (p0 : Int) (H : Own w D w []) (hp0 : p0 = 5) :
    Calls Try.prog 54 #[.int .i64 p0] w (Ret fun v w' => v = .tuple #[.agg #[.bool true, .func (.func 79) #[] #[], .func (.func 80) #[] #[], .func (.func 77) #[] #[], .func (.func 81) #[] #[]], .bool true] ∧ Own w D w' []) := by
  subst hp0
  refine Calls.body (args := [.int .i64 5]) Try.func54 rfl rfl rfl ?_
  show Wp _ _ _ [(0, .int .i64 5)] _ _
  refine Wp.seq (Wp.region ?_)
  refine WL.do rfl (Do.newP (cs := [.bool false, .nilFunc, .nilFunc, .nilFunc, .nilFunc]) (t := 95) H rfl rfl (fun _ => by kernel_rfl) ?_)
  intro g21 w22 H23
  refine As rfl rfl (WL.nil (Fin.then (Wp.seq (Wp.region (Kn (v := .agg #[.bool false, .func (.func 67) #[] #[], .func (.func 68) #[] #[], .func (.func 69) #[] #[], .func (.func 70) #[] #[]]) rfl rfl rfl (fun _ => by kernel_rfl) (Kn (v := .agg #[.bool true, .func (.func 71) #[] #[], .func (.func 72) #[] #[], .func (.func 69) #[] #[], .func (.func 73) #[] #[]]) rfl rfl rfl (fun _ => by kernel_rfl) (Kn (v := .agg #[.bool true, .func (.func 67) #[] #[], .func (.func 68) #[] #[], .func (.func 69) #[] #[], .func (.func 74) #[] #[]]) rfl rfl rfl (fun _ => by kernel_rfl) (Kn (v := .agg #[.bool false, .func (.func 75) #[] #[], .func (.func 76) #[] #[], .func (.func 77) #[] #[], .func (.func 78) #[] #[]]) rfl rfl rfl (fun _ => by kernel_rfl) (Kn (v := .agg #[.bool true, .func (.func 79) #[] #[], .func (.func 80) #[] #[], .func (.func 77) #[] #[], .func (.func 81) #[] #[]]) rfl rfl rfl (fun _ => by kernel_rfl) (Kn (v := .agg #[.bool false, .nilFunc, .nilFunc, .nilFunc, .nilFunc, .bool false, .func (.func 67) #[] #[], .func (.func 68) #[] #[], .func (.func 69) #[] #[], .func (.func 70) #[] #[], .bool true, .func (.func 71) #[] #[], .func (.func 72) #[] #[], .func (.func 69) #[] #[], .func (.func 73) #[] #[], .bool true, .func (.func 67) #[] #[], .func (.func 68) #[] #[], .func (.func 69) #[] #[], .func (.func 74) #[] #[], .bool false, .func (.func 75) #[] #[], .func (.func 76) #[] #[], .func (.func 77) #[] #[], .func (.func 78) #[] #[], .bool true, .func (.func 79) #[] #[], .func (.func 80) #[] #[], .func (.func 77) #[] #[], .func (.func 81) #[] #[]]) rfl rfl rfl (fun _ => by kernel_rfl) ?_))))))))))
  refine WL.do rfl (Do.newP (cs := [.bool false, .nilFunc, .nilFunc, .nilFunc, .nilFunc, .bool false, .nilFunc, .nilFunc, .nilFunc, .nilFunc, .bool false, .nilFunc, .nilFunc, .nilFunc, .nilFunc, .bool false, .nilFunc, .nilFunc, .nilFunc, .nilFunc, .bool false, .nilFunc, .nilFunc, .nilFunc, .nilFunc, .bool false, .nilFunc, .nilFunc, .nilFunc, .nilFunc]) (t := 109) H23 rfl rfl (fun _ => by kernel_rfl) ?_)
  intro g24 w25 H26
  refine WL.do0 (Do.store (vs := [.bool false, .nilFunc, .nilFunc, .nilFunc, .nilFunc, .bool false, .func (.func 67) #[] #[], .func (.func 68) #[] #[], .func (.func 69) #[] #[], .func (.func 70) #[] #[], .bool true, .func (.func 71) #[] #[], .func (.func 72) #[] #[], .func (.func 69) #[] #[], .func (.func 73) #[] #[], .bool true, .func (.func 67) #[] #[], .func (.func 68) #[] #[], .func (.func 69) #[] #[], .func (.func 74) #[] #[], .bool false, .func (.func 75) #[] #[], .func (.func 76) #[] #[], .func (.func 77) #[] #[], .func (.func 78) #[] #[], .bool true, .func (.func 79) #[] #[], .func (.func 80) #[] #[], .func (.func 77) #[] #[], .func (.func 81) #[] #[]]) (o := 0) H26 rfl rfl Try.sizeOf109 rfl rfl rfl rfl ?_)
  intro w27 H28
  refine WL.nil (Fin.then (Wp.seq (Wp.seq (Wp.region (Mv rfl rfl (Kn (v := .bool false) rfl rfl rfl (fun _ => by kernel_rfl) (Mv rfl rfl (WL.valG (v := .int .i64 5) rfl rfl rfl rfl (Yl.move rfl) (WL.valG (v := .bool false) rfl rfl rfl rfl (Yl.kern rfl rfl (fun _ => by kernel_rfl)) (WL.val (v := .bool false) rfl (Yl.pickF rfl rfl rfl) (WL.nil (Fin.then (Wp.cond0 rfl rfl (Wp.skip (Fin.then (Wp.seq (Wp.region (Mv rfl rfl (Kn (v := .pointer (some ⟨g24, 25, none⟩)) rfl rfl rfl (fun _ => by kernel_rfl) (WL.val (v := .agg #[.bool true, .func (.func 79) #[] #[], .func (.func 80) #[] #[], .func (.func 77) #[] #[], .func (.func 81) #[] #[]]) rfl (Yl.load rfl (Lds.agg (cs := [.bool true, .func (.func 79) #[] #[], .func (.func 80) #[] #[], .func (.func 77) #[] #[], .func (.func 81) #[] #[]]) Try.isAgg95 Try.sizeOf95 ((H28.cls (i := 0) rfl).lit (k := 25) (m := 5) rfl))) ?_))))))))))))))))))))
  have H29 := H28.pick [1, 0] (by decide) rfl
  refine WL.do0 (Do.store (vs := [.bool true, .func (.func 79) #[] #[], .func (.func 80) #[] #[], .func (.func 77) #[] #[], .func (.func 81) #[] #[]]) (o := 0) H29 rfl rfl Try.sizeOf95 rfl rfl rfl rfl ?_)
  intro w30 H31
  refine As rfl rfl (WL.nil (Fin.then (Wp.ret (Fin.res (resN (vs := [.agg #[.bool true, .func (.func 79) #[] #[], .func (.func 80) #[] #[], .func (.func 77) #[] #[], .func (.func 81) #[] #[]], .bool true]) rfl (ResV.cell rfl (Lds.agg (cs := [.bool true, .func (.func 79) #[] #[], .func (.func 80) #[] #[], .func (.func 77) #[] #[], .func (.func 81) #[] #[]]) Try.isAgg95 Try.sizeOf95 ((H31.cls (i := 0) rfl).lit (k := 0) (m := 5) rfl)) (ResV.tmp rfl ResV.nil)) (Nat.le_of_ble_eq_true rfl)) ?_))))
  have H32 := H31.pick [] (by decide) rfl
  exact ⟨rfl, H32⟩
def op_ownRange (p0 : OpD) : OpD :=
  OpD.mk p0.xKind ([]) ([]) p0.xLo p0.xHi 0
set_option maxRecDepth 100000 in
theorem op_ownRange_ok (w : World) (D : Nat → Prop) (p0 : OpD) (r0 : OpD) (H : Own w D w [])  (hr : op_ownRange p0 = r0) :
    Calls Try.prog 79 #[.agg (OpD.cells p0).toArray] w (Ret fun v w' => v = .agg (OpD.cells r0).toArray ∧ Own w D w' []) := by
  refine Calls.body (args := [.agg (OpD.cells p0).toArray]) Try.func79 rfl rfl rfl ?_
  show Wp _ _ _ [(0, .agg (OpD.cells p0).toArray)] _ _
  refine Wp.seq (Wp.region ?_)
  refine WL.do rfl (Do.newP (cs := (OpD.cells p0)) (t := 74) H rfl rfl (fun _ => by kernel_rfl) ?_)
  intro g21 w22 H23
  refine WL.do rfl (Do.newP (cs := [.int .i64 0, .string ⟨List.toArray ([])⟩, .string ⟨List.toArray ([])⟩, .string ⟨List.toArray ([])⟩, .string ⟨List.toArray ([])⟩, .int .i64 0]) (t := 74) H23 rfl rfl (fun _ => by kernel_rfl) ?_)
  intro g24 w25 H26
  refine WL.nil (Fin.then (Wp.seq (Wp.region (Kn (v := .pointer (some ⟨g21, 0, none⟩)) rfl rfl rfl (fun _ => by kernel_rfl) (WL.val (v := .int .i64 p0.xKind) rfl (Yl.load rfl (Lds.one Try.isAgg3 (Cls.of (H26.cls (i := 1) rfl) rfl))) (Kn (v := .pointer (some ⟨g21, 3, none⟩)) rfl rfl rfl (fun _ => by kernel_rfl) (WL.val (v := .string ⟨List.toArray p0.xLo⟩) rfl (Yl.load rfl (Lds.one Try.isAgg9 (Cls.of (H26.cls (i := 1) rfl) rfl))) (Kn (v := .pointer (some ⟨g21, 4, none⟩)) rfl rfl rfl (fun _ => by kernel_rfl) (WL.val (v := .string ⟨List.toArray p0.xHi⟩) rfl (Yl.load rfl (Lds.one Try.isAgg9 (Cls.of (H26.cls (i := 1) rfl) rfl))) (Kn (v := .agg #[.int .i64 p0.xKind, .string ⟨List.toArray ([])⟩, .string ⟨List.toArray ([])⟩, .string ⟨List.toArray p0.xLo⟩, .string ⟨List.toArray p0.xHi⟩, .int .i64 0]) rfl rfl rfl (fun _ => by kernel_rfl) ?_))))))))))
  refine WL.do0 (Do.store (vs := [.int .i64 p0.xKind, .string ⟨List.toArray ([])⟩, .string ⟨List.toArray ([])⟩, .string ⟨List.toArray p0.xLo⟩, .string ⟨List.toArray p0.xHi⟩, .int .i64 0]) (o := 0) H26 rfl rfl Try.sizeOf74 rfl rfl rfl rfl ?_)
  intro w27 H28
  refine WL.nil (Fin.then (Wp.ret (Fin.res (resC rfl rfl (Lds.agg (cs := [.int .i64 p0.xKind, .string ⟨List.toArray ([])⟩, .string ⟨List.toArray ([])⟩, .string ⟨List.toArray p0.xLo⟩, .string ⟨List.toArray p0.xHi⟩, .int .i64 0]) Try.isAgg74 Try.sizeOf74 ((H28.cls (i := 0) rfl).lit (k := 0) (m := 6) rfl))) ?_)))
  have H29 := H28.pick [] (by decide) rfl
  have e : op_ownRange p0 = OpD.mk p0.xKind ([]) ([]) p0.xLo p0.xHi 0 := rfl
  obtain rfl := e.symm.trans hr
  exact ⟨rfl, H29⟩
set_option maxRecDepth 100000 in
theorem op_kindOf_no_ok (w : World) (D : Nat → Prop) (p0 : Int) (H : Own w D w []) (hh0 : ¬ (p0 = 1)) (hh1 : ¬ (p0 = 2)) (hh2 : ¬ (p0 = 3)) (hh3 : ¬ (p0 = 4)) (hh4 : ¬ (p0 = 5)) :
    Calls Try.prog 54 #[.int .i64 p0] w (Ret fun v w' => v = .tuple #[.agg #[.bool false, .nilFunc, .nilFunc, .nilFunc, .nilFunc], .bool false] ∧ Own w D w' []) := by
  refine Calls.body (args := [.int .i64 p0]) Try.func54 rfl rfl rfl ?_
  show Wp _ _ _ [(0, .int .i64 p0)] _ _
  refine Wp.seq (Wp.region ?_)
  refine WL.do rfl (Do.newP (cs := [.bool false, .nilFunc, .nilFunc, .nilFunc, .nilFunc]) (t := 95) H rfl rfl (fun _ => by kernel_rfl) ?_)
  intro g21 w22 H23
  refine As rfl rfl (WL.nil (Fin.then (Wp.seq (Wp.region (Kn (v := .agg #[.bool false, .func (.func 67) #[] #[], .func (.func 68) #[] #[], .func (.func 69) #[] #[], .func (.func 70) #[] #[]]) rfl rfl rfl (fun _ => by kernel_rfl) (Kn (v := .agg #[.bool true, .func (.func 71) #[] #[], .func (.func 72) #[] #[], .func (.func 69) #[] #[], .func (.func 73) #[] #[]]) rfl rfl rfl (fun _ => by kernel_rfl) (Kn (v := .agg #[.bool true, .func (.func 67) #[] #[], .func (.func 68) #[] #[], .func (.func 69) #[] #[], .func (.func 74) #[] #[]]) rfl rfl rfl (fun _ => by kernel_rfl) (Kn (v := .agg #[.bool false, .func (.func 75) #[] #[], .func (.func 76) #[] #[], .func (.func 77) #[] #[], .func (.func 78) #[] #[]]) rfl rfl rfl (fun _ => by kernel_rfl) (Kn (v := .agg #[.bool true, .func (.func 79) #[] #[], .func (.func 80) #[] #[], .func (.func 77) #[] #[], .func (.func 81) #[] #[]]) rfl rfl rfl (fun _ => by kernel_rfl) (Kn (v := .agg #[.bool false, .nilFunc, .nilFunc, .nilFunc, .nilFunc, .bool false, .func (.func 67) #[] #[], .func (.func 68) #[] #[], .func (.func 69) #[] #[], .func (.func 70) #[] #[], .bool true, .func (.func 71) #[] #[], .func (.func 72) #[] #[], .func (.func 69) #[] #[], .func (.func 73) #[] #[], .bool true, .func (.func 67) #[] #[], .func (.func 68) #[] #[], .func (.func 69) #[] #[], .func (.func 74) #[] #[], .bool false, .func (.func 75) #[] #[], .func (.func 76) #[] #[], .func (.func 77) #[] #[], .func (.func 78) #[] #[], .bool true, .func (.func 79) #[] #[], .func (.func 80) #[] #[], .func (.func 77) #[] #[], .func (.func 81) #[] #[]]) rfl rfl rfl (fun _ => by kernel_rfl) ?_))))))))))
  refine WL.do rfl (Do.newP (cs := [.bool false, .nilFunc, .nilFunc, .nilFunc, .nilFunc, .bool false, .nilFunc, .nilFunc, .nilFunc, .nilFunc, .bool false, .nilFunc, .nilFunc, .nilFunc, .nilFunc, .bool false, .nilFunc, .nilFunc, .nilFunc, .nilFunc, .bool false, .nilFunc, .nilFunc, .nilFunc, .nilFunc, .bool false, .nilFunc, .nilFunc, .nilFunc, .nilFunc]) (t := 109) H23 rfl rfl (fun _ => by kernel_rfl) ?_)
  intro g24 w25 H26
  refine WL.do0 (Do.store (vs := [.bool false, .nilFunc, .nilFunc, .nilFunc, .nilFunc, .bool false, .func (.func 67) #[] #[], .func (.func 68) #[] #[], .func (.func 69) #[] #[], .func (.func 70) #[] #[], .bool true, .func (.func 71) #[] #[], .func (.func 72) #[] #[], .func (.func 69) #[] #[], .func (.func 73) #[] #[], .bool true, .func (.func 67) #[] #[], .func (.func 68) #[] #[], .func (.func 69) #[] #[], .func (.func 74) #[] #[], .bool false, .func (.func 75) #[] #[], .func (.func 76) #[] #[], .func (.func 77) #[] #[], .func (.func 78) #[] #[], .bool true, .func (.func 79) #[] #[], .func (.func 80) #[] #[], .func (.func 77) #[] #[], .func (.func 81) #[] #[]]) (o := 0) H26 rfl rfl Try.sizeOf109 rfl rfl rfl rfl ?_)
  intro w27 H28
  refine WL.nil (Fin.then (Wp.seq (Wp.seq (Wp.region (Mv rfl rfl (Kn (v := .bool (decide (p0 ≤ 0))) rfl rfl rfl (fun _ => by kernel_rfl) (Mv rfl rfl ?_)))))))
  by_cases h29 : p0 ≤ 0
  refine Sk rfl rfl (decide_eq_true h29) rfl (Sk rfl rfl (decide_eq_true h29) rfl (WL.val (v := .bool true) rfl (Yl.pickT rfl (decide_eq_true h29) rfl) (WL.nil (Fin.then (Wp.cond1 rfl rfl (Wp.seq (Wp.region (Kn (v := .agg #[.bool false, .nilFunc, .nilFunc, .nilFunc, .nilFunc]) rfl rfl rfl (fun _ => by kernel_rfl) ?_))))))))
  have H30 := H28.pick [1, 0] (by decide) rfl
  refine WL.do0 (Do.store (vs := [.bool false, .nilFunc, .nilFunc, .nilFunc, .nilFunc]) (o := 0) H30 rfl rfl Try.sizeOf95 rfl rfl rfl rfl ?_)
  intro w31 H32
  refine As rfl rfl (WL.nil (Fin.then (Wp.ret (Fin.thenR (Fin.res (resN (vs := [.agg #[.bool false, .nilFunc, .nilFunc, .nilFunc, .nilFunc], .bool false]) rfl (ResV.cell rfl (Lds.agg (cs := [.bool false, .nilFunc, .nilFunc, .nilFunc, .nilFunc]) Try.isAgg95 Try.sizeOf95 ((H32.cls (i := 0) rfl).lit (k := 0) (m := 5) rfl)) (ResV.tmp rfl ResV.nil)) (Nat.le_of_ble_eq_true rfl)) ?_)))))
  have H33 := H32.pick [] (by decide) rfl
  exact ⟨rfl, H33⟩
  refine WL.valG (v := .int .i64 p0) rfl rfl (decide_eq_false h29) rfl (Yl.move rfl) (WL.valG (v := .bool (decide (p0 ≥ 6))) rfl rfl (decide_eq_false h29) rfl (Yl.kern rfl rfl (fun _ => by kernel_rfl)) (WL.val (v := .bool (decide (p0 ≥ 6))) rfl (Yl.pickF rfl (decide_eq_false h29) rfl) (WL.nil (Fin.then ?_))))
  have hb34 : (decide (p0 ≥ 6)) = true := (decide_eq_true (by omega))
  refine Wp.cond1 rfl hb34 (Wp.seq (Wp.region (Kn (v := .agg #[.bool false, .nilFunc, .nilFunc, .nilFunc, .nilFunc]) rfl rfl rfl (fun _ => by kernel_rfl) ?_)))
  have H35 := H28.pick [1, 0] (by decide) rfl
  refine WL.do0 (Do.store (vs := [.bool false, .nilFunc, .nilFunc, .nilFunc, .nilFunc]) (o := 0) H35 rfl rfl Try.sizeOf95 rfl rfl rfl rfl ?_)
  intro w36 H37
  refine As rfl rfl (WL.nil (Fin.then (Wp.ret (Fin.thenR (Fin.res (resN (vs := [.agg #[.bool false, .nilFunc, .nilFunc, .nilFunc, .nilFunc], .bool false]) rfl (ResV.cell rfl (Lds.agg (cs := [.bool false, .nilFunc, .nilFunc, .nilFunc, .nilFunc]) Try.isAgg95 Try.sizeOf95 ((H37.cls (i := 0) rfl).lit (k := 0) (m := 5) rfl)) (ResV.tmp rfl ResV.nil)) (Nat.le_of_ble_eq_true rfl)) ?_)))))
  have H38 := H37.pick [] (by decide) rfl
  exact ⟨rfl, H38⟩
def op_CheckOp (p0 : OpD) : Int :=
  if p0.xKind = 1 then bnd (op_ownKey p0) fun yr46 => if (yr46.xKind = p0.xKind) ∧ (yr46.xKey = p0.xKey) ∧ (yr46.xValue = p0.xValue) ∧ (yr46.xLo = p0.xLo) ∧ (yr46.xHi = p0.xHi) ∧ (yr46.xMost = p0.xMost) then bnd (op_checkKey p0) fun yr57 => yr57 else 40 else if p0.xKind = 2 then bnd (op_ownPair p0) fun yr86 => if (yr86.xKind = p0.xKind) ∧ (yr86.xKey = p0.xKey) ∧ (yr86.xValue = p0.xValue) ∧ (yr86.xLo = p0.xLo) ∧ (yr86.xHi = p0.xHi) ∧ (yr86.xMost = p0.xMost) then bnd (op_checkPair p0) fun yr97 => yr97 else 40 else if p0.xKind = 3 then bnd (op_ownKey p0) fun yr126 => if (yr126.xKind = p0.xKind) ∧ (yr126.xKey = p0.xKey) ∧ (yr126.xValue = p0.xValue) ∧ (yr126.xLo = p0.xLo) ∧ (yr126.xHi = p0.xHi) ∧ (yr126.xMost = p0.xMost) then bnd (op_checkKey p0) fun yr137 => yr137 else 40 else if p0.xKind = 4 then bnd (op_ownScan p0) fun yr166 => if (yr166.xKind = p0.xKind) ∧ (yr166.xKey = p0.xKey) ∧ (yr166.xValue = p0.xValue) ∧ (yr166.xLo = p0.xLo) ∧ (yr166.xHi = p0.xHi) ∧ (yr166.xMost = p0.xMost) then bnd (op_checkScan p0) fun yr177 => yr177 else 40 else if p0.xKind = 5 then bnd (op_ownRange p0) fun yr206 => if (yr206.xKind = p0.xKind) ∧ (yr206.xKey = p0.xKey) ∧ (yr206.xValue = p0.xValue) ∧ (yr206.xLo = p0.xLo) ∧ (yr206.xHi = p0.xHi) ∧ (yr206.xMost = p0.xMost) then bnd (op_checkRange p0) fun yr217 => yr217 else 40 else 40
set_option maxRecDepth 100000 in
theorem op_CheckOp_ok (w : World) (D : Nat → Prop) (p0 : OpD) (r0 : Int) (H : Own w D w [])  (hr : op_CheckOp p0 = r0) :
    Calls Try.prog 66 #[.agg (OpD.cells p0).toArray] w (Ret fun v w' => v = .int .i64 r0 ∧ Own w D w' [] ∧ (¬ (r0 = 0) ∨ (1 ≤ p0.xKind ∧ p0.xKind ≤ 5))) := by
  refine Calls.body (args := [.agg (OpD.cells p0).toArray]) Try.func66 rfl rfl rfl ?_
  show Wp _ _ _ [(0, .agg (OpD.cells p0).toArray)] _ _
  refine Wp.seq (Wp.region ?_)
  refine WL.do rfl (Do.newP (cs := (OpD.cells p0)) (t := 74) H rfl rfl (fun _ => by kernel_rfl) ?_)
  intro g21 w22 H23
  refine As rfl rfl (WL.nil (Fin.then (Wp.seq (Wp.region (Kn (v := .pointer (some ⟨g21, 0, none⟩)) rfl rfl rfl (fun _ => by kernel_rfl) (WL.val (v := .int .i64 p0.xKind) rfl (Yl.load rfl (Lds.one Try.isAgg3 (Cls.of (H23.cls (i := 0) rfl) rfl))) ?_))))))
  by_cases h24 : p0.xKind = 1
  obtain ⟨D25, HP26, ro27, bk28, rr29⟩ := Own.enter0 H23
  refine WL.do rfl (Do.call Try.call54 rfl (op_kindOf_1_ok _ _ p0.xKind HP26 (of_decide_eq_true (decide_eq_true h24))) ?_)
  rintro _ w31 ⟨rfl, HQ32⟩
  have H33 := bk28 _ _ HQ32
  refine Mv rfl rfl (Kn (v := .agg #[.bool false, .func (.func 67) #[] #[], .func (.func 68) #[] #[], .func (.func 69) #[] #[], .func (.func 70) #[] #[]]) rfl rfl rfl (fun _ => by kernel_rfl) (Kn (v := .bool true) rfl rfl rfl (fun _ => by kernel_rfl) ?_))
  refine WL.do rfl (Do.newP (cs := [.bool false, .nilFunc, .nilFunc, .nilFunc, .nilFunc]) (t := 95) H33 rfl rfl (fun _ => by kernel_rfl) ?_)
  intro g34 w35 H36
  refine WL.do0 (Do.store (vs := [.bool false, .func (.func 67) #[] #[], .func (.func 68) #[] #[], .func (.func 69) #[] #[], .func (.func 70) #[] #[]]) (o := 0) H36 rfl rfl Try.sizeOf95 rfl rfl rfl rfl ?_)
  intro w37 H38
  refine As rfl rfl (WL.nil (Fin.then (Wp.seq (Wp.seq ?_))))
  have H40 := H38.drew
  refine Wp.drawnX [] (fun W => ∃ L', Own w D W ([blk g34 [.bool false, .func (.func 67) #[] #[], .func (.func 68) #[] #[], .func (.func 69) #[] #[], .func (.func 70) #[] #[]] 95, blk g21 (OpD.cells p0) 74] ++ L')) (by kernel_rfl) (by kernel_rfl) (NoP.then (NoP.then NoP.base)) ⟨_, H40⟩ ?_
  revert H40
  generalize World.drew w37 = w39
  intro H40
  refine GX.take (v := .bool true) (rs := []) 0 rfl (by kernel_rfl) (fun _ _ => Yl.move rfl) (GX.take (v := .bool false) (rs := []) 1 rfl (by kernel_rfl) (fun _ _ => Yl.kern rfl rfl (fun _ => by kernel_rfl)) (GX.take (v := .bool false) (rs := []) 2 rfl (by kernel_rfl) (fun _ _ => Yl.move rfl) (GX.takeG (v := .pointer (some ⟨g34, 1, none⟩)) (rs := []) 3 rfl rfl rfl rfl (by kernel_rfl) (fun _ _ => Yl.kern rfl rfl (fun _ => by kernel_rfl)) (GX.takeG (v := .func (.func 67) #[] #[]) (rs := []) 4 rfl rfl rfl rfl (by kernel_rfl) (fun _ ⟨_, H9⟩ => Yl.load rfl (Lds.one Try.isAgg90 (Cls.of (H9.cls (i := 0) rfl) rfl))) (GX.takeG (v := .agg (OpD.cells p0).toArray) (rs := []) 5 rfl rfl rfl rfl (by kernel_rfl) (fun _ ⟨_, H9⟩ => Yl.load rfl (Lds.agg (cs := (OpD.cells p0)) Try.isAgg74 Try.sizeOf74 ((H9.cls (i := 1) rfl).lit (k := 0) (m := 6) rfl))) (GX.takeG (v := .agg (OpD.cells p0).toArray) (rs := []) 7 rfl rfl rfl rfl (by kernel_rfl) (fun _ ⟨_, H9⟩ => Yl.load rfl (Lds.agg (cs := (OpD.cells p0)) Try.isAgg74 Try.sizeOf74 ((H9.cls (i := 1) rfl).lit (k := 0) (m := 6) rfl))) ?_))))))
  obtain ⟨r46, hr47⟩ : ∃ q, op_ownKey p0 = q := ⟨_, rfl⟩
  obtain ⟨D41, HP42, ro43, bk44, rr45⟩ := Own.enter0 H40
  refine GX.doG 6 rfl rfl rfl rfl (by kernel_rfl) (Do.callV Try.call67 rfl rfl (op_ownKey_ok _ _ p0 r46 HP42 hr47) ?_)
  rintro _ w48 ⟨rfl, HQ49⟩
  have H50 := bk44 _ _ HQ49
  refine ⟨.inr ⟨_, H50⟩, ?_⟩
  refine GX.takeG (v := .bool (decide (¬ ((r46.xKind = p0.xKind) ∧ (r46.xKey = p0.xKey) ∧ (r46.xValue = p0.xValue) ∧ (r46.xLo = p0.xLo) ∧ (r46.xHi = p0.xHi) ∧ (r46.xMost = p0.xMost))))) (rs := []) 8 rfl rfl rfl rfl (by kernel_rfl) (fun _ _ => Yl.bool (e := !(decide ((r46.xKind = p0.xKind) ∧ (r46.xKey = p0.xKey) ∧ (r46.xValue = p0.xValue) ∧ (r46.xLo = p0.xLo) ∧ (r46.xHi = p0.xHi) ∧ (r46.xMost = p0.xMost)))) (Yl.neAgg rfl rfl (by kernel_rfl) rfl (Eqv.struct Try.underlying74 (by kernel_rfl) (EqF.dec (EqF.cons (u := .int .i64 r46.xKind) (v := .int .i64 p0.xKind) (by decide) (fun _ => by kernel_rfl) (fun _ => by kernel_rfl) (Eqv.int Try.underlying3) (EqF.cons (u := .string ⟨List.toArray r46.xKey⟩) (v := .string ⟨List.toArray p0.xKey⟩) (by decide) (fun _ => by kernel_rfl) (fun _ => by kernel_rfl) (Eqv.string Try.underlying9) (EqF.cons (u := .string ⟨List.toArray r46.xValue⟩) (v := .string ⟨List.toArray p0.xValue⟩) (by decide) (fun _ => by kernel_rfl) (fun _ => by kernel_rfl) (Eqv.string Try.underlying9) (EqF.cons (u := .string ⟨List.toArray r46.xLo⟩) (v := .string ⟨List.toArray p0.xLo⟩) (by decide) (fun _ => by kernel_rfl) (fun _ => by kernel_rfl) (Eqv.string Try.underlying9) (EqF.cons (u := .string ⟨List.toArray r46.xHi⟩) (v := .string ⟨List.toArray p0.xHi⟩) (by decide) (fun _ => by kernel_rfl) (fun _ => by kernel_rfl) (Eqv.string Try.underlying9) (EqF.cons (u := .int .i64 r46.xMost) (v := .int .i64 p0.xMost) (by decide) (fun _ => by kernel_rfl) (fun _ => by kernel_rfl) (Eqv.int Try.underlying3) (EqF.nil.up (Nat.zero_le _)))))))) ((congrArg (decide (r46.xKind = p0.xKind) && ·) ((congrArg (decide (r46.xKey = p0.xKey) && ·) ((congrArg (decide (r46.xValue = p0.xValue) && ·) ((congrArg (decide (r46.xLo = p0.xLo) && ·) ((congrArg (decide (r46.xHi = p0.xHi) && ·) and_dec1).trans and_dec)).trans and_dec)).trans and_dec)).trans and_dec)).trans and_dec)))) decide_not.symm) (GX.take (v := .bool (decide (¬ ((r46.xKind = p0.xKind) ∧ (r46.xKey = p0.xKey) ∧ (r46.xValue = p0.xValue) ∧ (r46.xLo = p0.xLo) ∧ (r46.xHi = p0.xHi) ∧ (r46.xMost = p0.xMost))))) (rs := []) 9 rfl (by kernel_rfl) (fun _ _ => Yl.pickF rfl rfl rfl) (GX.done (by kernel_rfl) (Fin.then ?_)))
  by_cases h51 : (r46.xKind = p0.xKind) ∧ (r46.xKey = p0.xKey) ∧ (r46.xValue = p0.xValue) ∧ (r46.xLo = p0.xLo) ∧ (r46.xHi = p0.xHi) ∧ (r46.xMost = p0.xMost)
  refine Wp.cond0 rfl (decide_eq_false (not_not_intro h51)) (Wp.skip (Fin.then (Wp.seq (Wp.region (Kn (v := .pointer (some ⟨g34, 2, none⟩)) rfl rfl rfl (fun _ => by kernel_rfl) (WL.val (v := .func (.func 68) #[] #[]) rfl (Yl.load rfl (Lds.one Try.isAgg91 (Cls.of (H50.cls (i := 0) rfl) rfl))) (WL.val (v := .agg (OpD.cells p0).toArray) rfl (Yl.load rfl (Lds.agg (cs := (OpD.cells p0)) Try.isAgg74 Try.sizeOf74 ((H50.cls (i := 1) rfl).lit (k := 0) (m := 6) rfl))) ?_)))))))
  obtain ⟨r57, hr58⟩ : ∃ q, op_checkKey p0 = q := ⟨_, rfl⟩
  obtain ⟨D52, HP53, ro54, bk55, rr56⟩ := Own.enter0 H50
  refine WL.do rfl (Do.callV Try.call68 rfl rfl (op_checkKey_ok _ _ p0 r57 HP53 hr58) ?_)
  rintro _ w59 ⟨rfl, HQ60⟩
  have H61 := bk55 _ _ HQ60
  refine As rfl rfl (WL.nil (Fin.then (Wp.ret (Fin.res (res1 rfl rfl) ?_))))
  have H62 := H61.pick [] (by decide) rfl
  have e : op_CheckOp p0 = r57 := Eq.trans (if_pos h24) (Eq.trans (bnd_of hr47) (Eq.trans (if_pos h51) (bnd_of hr58)))
  obtain rfl := e.symm.trans hr
  exact ⟨rfl, H62, (by omega)⟩
  refine Wp.cond1 rfl (decide_eq_true h51) (Wp.seq (Wp.region (As rfl rfl (WL.nil (Fin.then (Wp.ret (Fin.thenR (Fin.res (res1 rfl rfl) ?_))))))))
  have H63 := H50.pick [] (by decide) rfl
  have e : op_CheckOp p0 = 40 := Eq.trans (if_pos h24) (Eq.trans (bnd_of hr47) (if_neg h51))
  obtain rfl := e.symm.trans hr
  exact ⟨rfl, H63, (by omega)⟩
  by_cases h64 : p0.xKind = 2
  obtain ⟨D65, HP66, ro67, bk68, rr69⟩ := Own.enter0 H23
  refine WL.do rfl (Do.call Try.call54 rfl (op_kindOf_2_ok _ _ p0.xKind HP66 (of_decide_eq_true (decide_eq_true h64))) ?_)
  rintro _ w71 ⟨rfl, HQ72⟩
  have H73 := bk68 _ _ HQ72
  refine Mv rfl rfl (Kn (v := .agg #[.bool true, .func (.func 71) #[] #[], .func (.func 72) #[] #[], .func (.func 69) #[] #[], .func (.func 73) #[] #[]]) rfl rfl rfl (fun _ => by kernel_rfl) (Kn (v := .bool true) rfl rfl rfl (fun _ => by kernel_rfl) ?_))
  refine WL.do rfl (Do.newP (cs := [.bool false, .nilFunc, .nilFunc, .nilFunc, .nilFunc]) (t := 95) H73 rfl rfl (fun _ => by kernel_rfl) ?_)
  intro g74 w75 H76
  refine WL.do0 (Do.store (vs := [.bool true, .func (.func 71) #[] #[], .func (.func 72) #[] #[], .func (.func 69) #[] #[], .func (.func 73) #[] #[]]) (o := 0) H76 rfl rfl Try.sizeOf95 rfl rfl rfl rfl ?_)
  intro w77 H78
  refine As rfl rfl (WL.nil (Fin.then (Wp.seq (Wp.seq ?_))))
  have H80 := H78.drew
  refine Wp.drawnX [] (fun W => ∃ L', Own w D W ([blk g74 [.bool true, .func (.func 71) #[] #[], .func (.func 72) #[] #[], .func (.func 69) #[] #[], .func (.func 73) #[] #[]] 95, blk g21 (OpD.cells p0) 74] ++ L')) (by kernel_rfl) (by kernel_rfl) (NoP.then (NoP.then NoP.base)) ⟨_, H80⟩ ?_
  revert H80
  generalize World.drew w77 = w79
  intro H80
  refine GX.take (v := .bool true) (rs := []) 0 rfl (by kernel_rfl) (fun _ _ => Yl.move rfl) (GX.take (v := .bool false) (rs := []) 1 rfl (by kernel_rfl) (fun _ _ => Yl.kern rfl rfl (fun _ => by kernel_rfl)) (GX.take (v := .bool false) (rs := []) 2 rfl (by kernel_rfl) (fun _ _ => Yl.move rfl) (GX.takeG (v := .pointer (some ⟨g74, 1, none⟩)) (rs := []) 3 rfl rfl rfl rfl (by kernel_rfl) (fun _ _ => Yl.kern rfl rfl (fun _ => by kernel_rfl)) (GX.takeG (v := .func (.func 71) #[] #[]) (rs := []) 4 rfl rfl rfl rfl (by kernel_rfl) (fun _ ⟨_, H9⟩ => Yl.load rfl (Lds.one Try.isAgg90 (Cls.of (H9.cls (i := 0) rfl) rfl))) (GX.takeG (v := .agg (OpD.cells p0).toArray) (rs := []) 5 rfl rfl rfl rfl (by kernel_rfl) (fun _ ⟨_, H9⟩ => Yl.load rfl (Lds.agg (cs := (OpD.cells p0)) Try.isAgg74 Try.sizeOf74 ((H9.cls (i := 1) rfl).lit (k := 0) (m := 6) rfl))) (GX.takeG (v := .agg (OpD.cells p0).toArray) (rs := []) 7 rfl rfl rfl rfl (by kernel_rfl) (fun _ ⟨_, H9⟩ => Yl.load rfl (Lds.agg (cs := (OpD.cells p0)) Try.isAgg74 Try.sizeOf74 ((H9.cls (i := 1) rfl).lit (k := 0) (m := 6) rfl))) ?_))))))
  obtain ⟨r86, hr87⟩ : ∃ q, op_ownPair p0 = q := ⟨_, rfl⟩
  obtain ⟨D81, HP82, ro83, bk84, rr85⟩ := Own.enter0 H80
  refine GX.doG 6 rfl rfl rfl rfl (by kernel_rfl) (Do.callV Try.call71 rfl rfl (op_ownPair_ok _ _ p0 r86 HP82 hr87) ?_)
  rintro _ w88 ⟨rfl, HQ89⟩
  have H90 := bk84 _ _ HQ89
  refine ⟨.inr ⟨_, H90⟩, ?_⟩
  refine GX.takeG (v := .bool (decide (¬ ((r86.xKind = p0.xKind) ∧ (r86.xKey = p0.xKey) ∧ (r86.xValue = p0.xValue) ∧ (r86.xLo = p0.xLo) ∧ (r86.xHi = p0.xHi) ∧ (r86.xMost = p0.xMost))))) (rs := []) 8 rfl rfl rfl rfl (by kernel_rfl) (fun _ _ => Yl.bool (e := !(decide ((r86.xKind = p0.xKind) ∧ (r86.xKey = p0.xKey) ∧ (r86.xValue = p0.xValue) ∧ (r86.xLo = p0.xLo) ∧ (r86.xHi = p0.xHi) ∧ (r86.xMost = p0.xMost)))) (Yl.neAgg rfl rfl (by kernel_rfl) rfl (Eqv.struct Try.underlying74 (by kernel_rfl) (EqF.dec (EqF.cons (u := .int .i64 r86.xKind) (v := .int .i64 p0.xKind) (by decide) (fun _ => by kernel_rfl) (fun _ => by kernel_rfl) (Eqv.int Try.underlying3) (EqF.cons (u := .string ⟨List.toArray r86.xKey⟩) (v := .string ⟨List.toArray p0.xKey⟩) (by decide) (fun _ => by kernel_rfl) (fun _ => by kernel_rfl) (Eqv.string Try.underlying9) (EqF.cons (u := .string ⟨List.toArray r86.xValue⟩) (v := .string ⟨List.toArray p0.xValue⟩) (by decide) (fun _ => by kernel_rfl) (fun _ => by kernel_rfl) (Eqv.string Try.underlying9) (EqF.cons (u := .string ⟨List.toArray r86.xLo⟩) (v := .string ⟨List.toArray p0.xLo⟩) (by decide) (fun _ => by kernel_rfl) (fun _ => by kernel_rfl) (Eqv.string Try.underlying9) (EqF.cons (u := .string ⟨List.toArray r86.xHi⟩) (v := .string ⟨List.toArray p0.xHi⟩) (by decide) (fun _ => by kernel_rfl) (fun _ => by kernel_rfl) (Eqv.string Try.underlying9) (EqF.cons (u := .int .i64 r86.xMost) (v := .int .i64 p0.xMost) (by decide) (fun _ => by kernel_rfl) (fun _ => by kernel_rfl) (Eqv.int Try.underlying3) (EqF.nil.up (Nat.zero_le _)))))))) ((congrArg (decide (r86.xKind = p0.xKind) && ·) ((congrArg (decide (r86.xKey = p0.xKey) && ·) ((congrArg (decide (r86.xValue = p0.xValue) && ·) ((congrArg (decide (r86.xLo = p0.xLo) && ·) ((congrArg (decide (r86.xHi = p0.xHi) && ·) and_dec1).trans and_dec)).trans and_dec)).trans and_dec)).trans and_dec)).trans and_dec)))) decide_not.symm) (GX.take (v := .bool (decide (¬ ((r86.xKind = p0.xKind) ∧ (r86.xKey = p0.xKey) ∧ (r86.xValue = p0.xValue) ∧ (r86.xLo = p0.xLo) ∧ (r86.xHi = p0.xHi) ∧ (r86.xMost = p0.xMost))))) (rs := []) 9 rfl (by kernel_rfl) (fun _ _ => Yl.pickF rfl rfl rfl) (GX.done (by kernel_rfl) (Fin.then ?_)))
  by_cases h91 : (r86.xKind = p0.xKind) ∧ (r86.xKey = p0.xKey) ∧ (r86.xValue = p0.xValue) ∧ (r86.xLo = p0.xLo) ∧ (r86.xHi = p0.xHi) ∧ (r86.xMost = p0.xMost)
  refine Wp.cond0 rfl (decide_eq_false (not_not_intro h91)) (Wp.skip (Fin.then (Wp.seq (Wp.region (Kn (v := .pointer (some ⟨g74, 2, none⟩)) rfl rfl rfl (fun _ => by kernel_rfl) (WL.val (v := .func (.func 72) #[] #[]) rfl (Yl.load rfl (Lds.one Try.isAgg91 (Cls.of (H90.cls (i := 0) rfl) rfl))) (WL.val (v := .agg (OpD.cells p0).toArray) rfl (Yl.load rfl (Lds.agg (cs := (OpD.cells p0)) Try.isAgg74 Try.sizeOf74 ((H90.cls (i := 1) rfl).lit (k := 0) (m := 6) rfl))) ?_)))))))
  obtain ⟨r97, hr98⟩ : ∃ q, op_checkPair p0 = q := ⟨_, rfl⟩
  obtain ⟨D92, HP93, ro94, bk95, rr96⟩ := Own.enter0 H90
  refine WL.do rfl (Do.callV Try.call72 rfl rfl (op_checkPair_ok _ _ p0 r97 HP93 hr98) ?_)
  rintro _ w99 ⟨rfl, HQ100⟩
  have H101 := bk95 _ _ HQ100
  refine As rfl rfl (WL.nil (Fin.then (Wp.ret (Fin.res (res1 rfl rfl) ?_))))
  have H102 := H101.pick [] (by decide) rfl
  have e : op_CheckOp p0 = r97 := Eq.trans (if_neg h24) (Eq.trans (if_pos h64) (Eq.trans (bnd_of hr87) (Eq.trans (if_pos h91) (bnd_of hr98))))
  obtain rfl := e.symm.trans hr
  exact ⟨rfl, H102, (by omega)⟩
  refine Wp.cond1 rfl (decide_eq_true h91) (Wp.seq (Wp.region (As rfl rfl (WL.nil (Fin.then (Wp.ret (Fin.thenR (Fin.res (res1 rfl rfl) ?_))))))))
  have H103 := H90.pick [] (by decide) rfl
  have e : op_CheckOp p0 = 40 := Eq.trans (if_neg h24) (Eq.trans (if_pos h64) (Eq.trans (bnd_of hr87) (if_neg h91)))
  obtain rfl := e.symm.trans hr
  exact ⟨rfl, H103, (by omega)⟩
  by_cases h104 : p0.xKind = 3
  obtain ⟨D105, HP106, ro107, bk108, rr109⟩ := Own.enter0 H23
  refine WL.do rfl (Do.call Try.call54 rfl (op_kindOf_3_ok _ _ p0.xKind HP106 (of_decide_eq_true (decide_eq_true h104))) ?_)
  rintro _ w111 ⟨rfl, HQ112⟩
  have H113 := bk108 _ _ HQ112
  refine Mv rfl rfl (Kn (v := .agg #[.bool true, .func (.func 67) #[] #[], .func (.func 68) #[] #[], .func (.func 69) #[] #[], .func (.func 74) #[] #[]]) rfl rfl rfl (fun _ => by kernel_rfl) (Kn (v := .bool true) rfl rfl rfl (fun _ => by kernel_rfl) ?_))
  refine WL.do rfl (Do.newP (cs := [.bool false, .nilFunc, .nilFunc, .nilFunc, .nilFunc]) (t := 95) H113 rfl rfl (fun _ => by kernel_rfl) ?_)
  intro g114 w115 H116
  refine WL.do0 (Do.store (vs := [.bool true, .func (.func 67) #[] #[], .func (.func 68) #[] #[], .func (.func 69) #[] #[], .func (.func 74) #[] #[]]) (o := 0) H116 rfl rfl Try.sizeOf95 rfl rfl rfl rfl ?_)
  intro w117 H118
  refine As rfl rfl (WL.nil (Fin.then (Wp.seq (Wp.seq ?_))))
  have H120 := H118.drew
  refine Wp.drawnX [] (fun W => ∃ L', Own w D W ([blk g114 [.bool true, .func (.func 67) #[] #[], .func (.func 68) #[] #[], .func (.func 69) #[] #[], .func (.func 74) #[] #[]] 95, blk g21 (OpD.cells p0) 74] ++ L')) (by kernel_rfl) (by kernel_rfl) (NoP.then (NoP.then NoP.base)) ⟨_, H120⟩ ?_
  revert H120
  generalize World.drew w117 = w119
  intro H120
  refine GX.take (v := .bool true) (rs := []) 0 rfl (by kernel_rfl) (fun _ _ => Yl.move rfl) (GX.take (v := .bool false) (rs := []) 1 rfl (by kernel_rfl) (fun _ _ => Yl.kern rfl rfl (fun _ => by kernel_rfl)) (GX.take (v := .bool false) (rs := []) 2 rfl (by kernel_rfl) (fun _ _ => Yl.move rfl) (GX.takeG (v := .pointer (some ⟨g114, 1, none⟩)) (rs := []) 3 rfl rfl rfl rfl (by kernel_rfl) (fun _ _ => Yl.kern rfl rfl (fun _ => by kernel_rfl)) (GX.takeG (v := .func (.func 67) #[] #[]) (rs := []) 4 rfl rfl rfl rfl (by kernel_rfl) (fun _ ⟨_, H9⟩ => Yl.load rfl (Lds.one Try.isAgg90 (Cls.of (H9.cls (i := 0) rfl) rfl))) (GX.takeG (v := .agg (OpD.cells p0).toArray) (rs := []) 5 rfl rfl rfl rfl (by kernel_rfl) (fun _ ⟨_, H9⟩ => Yl.load rfl (Lds.agg (cs := (OpD.cells p0)) Try.isAgg74 Try.sizeOf74 ((H9.cls (i := 1) rfl).lit (k := 0) (m := 6) rfl))) (GX.takeG (v := .agg (OpD.cells p0).toArray) (rs := []) 7 rfl rfl rfl rfl (by kernel_rfl) (fun _ ⟨_, H9⟩ => Yl.load rfl (Lds.agg (cs := (OpD.cells p0)) Try.isAgg74 Try.sizeOf74 ((H9.cls (i := 1) rfl).lit (k := 0) (m := 6) rfl))) ?_))))))
  obtain ⟨r126, hr127⟩ : ∃ q, op_ownKey p0 = q := ⟨_, rfl⟩
  obtain ⟨D121, HP122, ro123, bk124, rr125⟩ := Own.enter0 H120
  refine GX.doG 6 rfl rfl rfl rfl (by kernel_rfl) (Do.callV Try.call67 rfl rfl (op_ownKey_ok _ _ p0 r126 HP122 hr127) ?_)
  rintro _ w128 ⟨rfl, HQ129⟩
  have H130 := bk124 _ _ HQ129
  refine ⟨.inr ⟨_, H130⟩, ?_⟩
  refine GX.takeG (v := .bool (decide (¬ ((r126.xKind = p0.xKind) ∧ (r126.xKey = p0.xKey) ∧ (r126.xValue = p0.xValue) ∧ (r126.xLo = p0.xLo) ∧ (r126.xHi = p0.xHi) ∧ (r126.xMost = p0.xMost))))) (rs := []) 8 rfl rfl rfl rfl (by kernel_rfl) (fun _ _ => Yl.bool (e := !(decide ((r126.xKind = p0.xKind) ∧ (r126.xKey = p0.xKey) ∧ (r126.xValue = p0.xValue) ∧ (r126.xLo = p0.xLo) ∧ (r126.xHi = p0.xHi) ∧ (r126.xMost = p0.xMost)))) (Yl.neAgg rfl rfl (by kernel_rfl) rfl (Eqv.struct Try.underlying74 (by kernel_rfl) (EqF.dec (EqF.cons (u := .int .i64 r126.xKind) (v := .int .i64 p0.xKind) (by decide) (fun _ => by kernel_rfl) (fun _ => by kernel_rfl) (Eqv.int Try.underlying3) (EqF.cons (u := .string ⟨List.toArray r126.xKey⟩) (v := .string ⟨List.toArray p0.xKey⟩) (by decide) (fun _ => by kernel_rfl) (fun _ => by kernel_rfl) (Eqv.string Try.underlying9) (EqF.cons (u := .string ⟨List.toArray r126.xValue⟩) (v := .string ⟨List.toArray p0.xValue⟩) (by decide) (fun _ => by kernel_rfl) (fun _ => by kernel_rfl) (Eqv.string Try.underlying9) (EqF.cons (u := .string ⟨List.toArray r126.xLo⟩) (v := .string ⟨List.toArray p0.xLo⟩) (by decide) (fun _ => by kernel_rfl) (fun _ => by kernel_rfl) (Eqv.string Try.underlying9) (EqF.cons (u := .string ⟨List.toArray r126.xHi⟩) (v := .string ⟨List.toArray p0.xHi⟩) (by decide) (fun _ => by kernel_rfl) (fun _ => by kernel_rfl) (Eqv.string Try.underlying9) (EqF.cons (u := .int .i64 r126.xMost) (v := .int .i64 p0.xMost) (by decide) (fun _ => by kernel_rfl) (fun _ => by kernel_rfl) (Eqv.int Try.underlying3) (EqF.nil.up (Nat.zero_le _)))))))) ((congrArg (decide (r126.xKind = p0.xKind) && ·) ((congrArg (decide (r126.xKey = p0.xKey) && ·) ((congrArg (decide (r126.xValue = p0.xValue) && ·) ((congrArg (decide (r126.xLo = p0.xLo) && ·) ((congrArg (decide (r126.xHi = p0.xHi) && ·) and_dec1).trans and_dec)).trans and_dec)).trans and_dec)).trans and_dec)).trans and_dec)))) decide_not.symm) (GX.take (v := .bool (decide (¬ ((r126.xKind = p0.xKind) ∧ (r126.xKey = p0.xKey) ∧ (r126.xValue = p0.xValue) ∧ (r126.xLo = p0.xLo) ∧ (r126.xHi = p0.xHi) ∧ (r126.xMost = p0.xMost))))) (rs := []) 9 rfl (by kernel_rfl) (fun _ _ => Yl.pickF rfl rfl rfl) (GX.done (by kernel_rfl) (Fin.then ?_)))
  by_cases h131 : (r126.xKind = p0.xKind) ∧ (r126.xKey = p0.xKey) ∧ (r126.xValue = p0.xValue) ∧ (r126.xLo = p0.xLo) ∧ (r126.xHi = p0.xHi) ∧ (r126.xMost = p0.xMost)
  refine Wp.cond0 rfl (decide_eq_false (not_not_intro h131)) (Wp.skip (Fin.then (Wp.seq (Wp.region (Kn (v := .pointer (some ⟨g114, 2, none⟩)) rfl rfl rfl (fun _ => by kernel_rfl) (WL.val (v := .func (.func 68) #[] #[]) rfl (Yl.load rfl (Lds.one Try.isAgg91 (Cls.of (H130.cls (i := 0) rfl) rfl))) (WL.val (v := .agg (OpD.cells p0).toArray) rfl (Yl.load rfl (Lds.agg (cs := (OpD.cells p0)) Try.isAgg74 Try.sizeOf74 ((H130.cls (i := 1) rfl).lit (k := 0) (m := 6) rfl))) ?_)))))))
  obtain ⟨r137, hr138⟩ : ∃ q, op_checkKey p0 = q := ⟨_, rfl⟩
  obtain ⟨D132, HP133, ro134, bk135, rr136⟩ := Own.enter0 H130
  refine WL.do rfl (Do.callV Try.call68 rfl rfl (op_checkKey_ok _ _ p0 r137 HP133 hr138) ?_)
  rintro _ w139 ⟨rfl, HQ140⟩
  have H141 := bk135 _ _ HQ140
  refine As rfl rfl (WL.nil (Fin.then (Wp.ret (Fin.res (res1 rfl rfl) ?_))))
  have H142 := H141.pick [] (by decide) rfl
  have e : op_CheckOp p0 = r137 := Eq.trans (if_neg h24) (Eq.trans (if_neg h64) (Eq.trans (if_pos h104) (Eq.trans (bnd_of hr127) (Eq.trans (if_pos h131) (bnd_of hr138)))))
  obtain rfl := e.symm.trans hr
  exact ⟨rfl, H142, (by omega)⟩
  refine Wp.cond1 rfl (decide_eq_true h131) (Wp.seq (Wp.region (As rfl rfl (WL.nil (Fin.then (Wp.ret (Fin.thenR (Fin.res (res1 rfl rfl) ?_))))))))
  have H143 := H130.pick [] (by decide) rfl
  have e : op_CheckOp p0 = 40 := Eq.trans (if_neg h24) (Eq.trans (if_neg h64) (Eq.trans (if_pos h104) (Eq.trans (bnd_of hr127) (if_neg h131))))
  obtain rfl := e.symm.trans hr
  exact ⟨rfl, H143, (by omega)⟩
  by_cases h144 : p0.xKind = 4
  obtain ⟨D145, HP146, ro147, bk148, rr149⟩ := Own.enter0 H23
  refine WL.do rfl (Do.call Try.call54 rfl (op_kindOf_4_ok _ _ p0.xKind HP146 (of_decide_eq_true (decide_eq_true h144))) ?_)
  rintro _ w151 ⟨rfl, HQ152⟩
  have H153 := bk148 _ _ HQ152
  refine Mv rfl rfl (Kn (v := .agg #[.bool false, .func (.func 75) #[] #[], .func (.func 76) #[] #[], .func (.func 77) #[] #[], .func (.func 78) #[] #[]]) rfl rfl rfl (fun _ => by kernel_rfl) (Kn (v := .bool true) rfl rfl rfl (fun _ => by kernel_rfl) ?_))
  refine WL.do rfl (Do.newP (cs := [.bool false, .nilFunc, .nilFunc, .nilFunc, .nilFunc]) (t := 95) H153 rfl rfl (fun _ => by kernel_rfl) ?_)
  intro g154 w155 H156
  refine WL.do0 (Do.store (vs := [.bool false, .func (.func 75) #[] #[], .func (.func 76) #[] #[], .func (.func 77) #[] #[], .func (.func 78) #[] #[]]) (o := 0) H156 rfl rfl Try.sizeOf95 rfl rfl rfl rfl ?_)
  intro w157 H158
  refine As rfl rfl (WL.nil (Fin.then (Wp.seq (Wp.seq ?_))))
  have H160 := H158.drew
  refine Wp.drawnX [] (fun W => ∃ L', Own w D W ([blk g154 [.bool false, .func (.func 75) #[] #[], .func (.func 76) #[] #[], .func (.func 77) #[] #[], .func (.func 78) #[] #[]] 95, blk g21 (OpD.cells p0) 74] ++ L')) (by kernel_rfl) (by kernel_rfl) (NoP.then (NoP.then NoP.base)) ⟨_, H160⟩ ?_
  revert H160
  generalize World.drew w157 = w159
  intro H160
  refine GX.take (v := .bool true) (rs := []) 0 rfl (by kernel_rfl) (fun _ _ => Yl.move rfl) (GX.take (v := .bool false) (rs := []) 1 rfl (by kernel_rfl) (fun _ _ => Yl.kern rfl rfl (fun _ => by kernel_rfl)) (GX.take (v := .bool false) (rs := []) 2 rfl (by kernel_rfl) (fun _ _ => Yl.move rfl) (GX.takeG (v := .pointer (some ⟨g154, 1, none⟩)) (rs := []) 3 rfl rfl rfl rfl (by kernel_rfl) (fun _ _ => Yl.kern rfl rfl (fun _ => by kernel_rfl)) (GX.takeG (v := .func (.func 75) #[] #[]) (rs := []) 4 rfl rfl rfl rfl (by kernel_rfl) (fun _ ⟨_, H9⟩ => Yl.load rfl (Lds.one Try.isAgg90 (Cls.of (H9.cls (i := 0) rfl) rfl))) (GX.takeG (v := .agg (OpD.cells p0).toArray) (rs := []) 5 rfl rfl rfl rfl (by kernel_rfl) (fun _ ⟨_, H9⟩ => Yl.load rfl (Lds.agg (cs := (OpD.cells p0)) Try.isAgg74 Try.sizeOf74 ((H9.cls (i := 1) rfl).lit (k := 0) (m := 6) rfl))) (GX.takeG (v := .agg (OpD.cells p0).toArray) (rs := []) 7 rfl rfl rfl rfl (by kernel_rfl) (fun _ ⟨_, H9⟩ => Yl.load rfl (Lds.agg (cs := (OpD.cells p0)) Try.isAgg74 Try.sizeOf74 ((H9.cls (i := 1) rfl).lit (k := 0) (m := 6) rfl))) ?_))))))
  obtain ⟨r166, hr167⟩ : ∃ q, op_ownScan p0 = q := ⟨_, rfl⟩
  obtain ⟨D161, HP162, ro163, bk164, rr165⟩ := Own.enter0 H160
  refine GX.doG 6 rfl rfl rfl rfl (by kernel_rfl) (Do.callV Try.call75 rfl rfl (op_ownScan_ok _ _ p0 r166 HP162 hr167) ?_)
  rintro _ w168 ⟨rfl, HQ169⟩
  have H170 := bk164 _ _ HQ169
  refine ⟨.inr ⟨_, H170⟩, ?_⟩
  refine GX.takeG (v := .bool (decide (¬ ((r166.xKind = p0.xKind) ∧ (r166.xKey = p0.xKey) ∧ (r166.xValue = p0.xValue) ∧ (r166.xLo = p0.xLo) ∧ (r166.xHi = p0.xHi) ∧ (r166.xMost = p0.xMost))))) (rs := []) 8 rfl rfl rfl rfl (by kernel_rfl) (fun _ _ => Yl.bool (e := !(decide ((r166.xKind = p0.xKind) ∧ (r166.xKey = p0.xKey) ∧ (r166.xValue = p0.xValue) ∧ (r166.xLo = p0.xLo) ∧ (r166.xHi = p0.xHi) ∧ (r166.xMost = p0.xMost)))) (Yl.neAgg rfl rfl (by kernel_rfl) rfl (Eqv.struct Try.underlying74 (by kernel_rfl) (EqF.dec (EqF.cons (u := .int .i64 r166.xKind) (v := .int .i64 p0.xKind) (by decide) (fun _ => by kernel_rfl) (fun _ => by kernel_rfl) (Eqv.int Try.underlying3) (EqF.cons (u := .string ⟨List.toArray r166.xKey⟩) (v := .string ⟨List.toArray p0.xKey⟩) (by decide) (fun _ => by kernel_rfl) (fun _ => by kernel_rfl) (Eqv.string Try.underlying9) (EqF.cons (u := .string ⟨List.toArray r166.xValue⟩) (v := .string ⟨List.toArray p0.xValue⟩) (by decide) (fun _ => by kernel_rfl) (fun _ => by kernel_rfl) (Eqv.string Try.underlying9) (EqF.cons (u := .string ⟨List.toArray r166.xLo⟩) (v := .string ⟨List.toArray p0.xLo⟩) (by decide) (fun _ => by kernel_rfl) (fun _ => by kernel_rfl) (Eqv.string Try.underlying9) (EqF.cons (u := .string ⟨List.toArray r166.xHi⟩) (v := .string ⟨List.toArray p0.xHi⟩) (by decide) (fun _ => by kernel_rfl) (fun _ => by kernel_rfl) (Eqv.string Try.underlying9) (EqF.cons (u := .int .i64 r166.xMost) (v := .int .i64 p0.xMost) (by decide) (fun _ => by kernel_rfl) (fun _ => by kernel_rfl) (Eqv.int Try.underlying3) (EqF.nil.up (Nat.zero_le _)))))))) ((congrArg (decide (r166.xKind = p0.xKind) && ·) ((congrArg (decide (r166.xKey = p0.xKey) && ·) ((congrArg (decide (r166.xValue = p0.xValue) && ·) ((congrArg (decide (r166.xLo = p0.xLo) && ·) ((congrArg (decide (r166.xHi = p0.xHi) && ·) and_dec1).trans and_dec)).trans and_dec)).trans and_dec)).trans and_dec)).trans and_dec)))) decide_not.symm) (GX.take (v := .bool (decide (¬ ((r166.xKind = p0.xKind) ∧ (r166.xKey = p0.xKey) ∧ (r166.xValue = p0.xValue) ∧ (r166.xLo = p0.xLo) ∧ (r166.xHi = p0.xHi) ∧ (r166.xMost = p0.xMost))))) (rs := []) 9 rfl (by kernel_rfl) (fun _ _ => Yl.pickF rfl rfl rfl) (GX.done (by kernel_rfl) (Fin.then ?_)))
  by_cases h171 : (r166.xKind = p0.xKind) ∧ (r166.xKey = p0.xKey) ∧ (r166.xValue = p0.xValue) ∧ (r166.xLo = p0.xLo) ∧ (r166.xHi = p0.xHi) ∧ (r166.xMost = p0.xMost)
  refine Wp.cond0 rfl (decide_eq_false (not_not_intro h171)) (Wp.skip (Fin.then (Wp.seq (Wp.region (Kn (v := .pointer (some ⟨g154, 2, none⟩)) rfl rfl rfl (fun _ => by kernel_rfl) (WL.val (v := .func (.func 76) #[] #[]) rfl (Yl.load rfl (Lds.one Try.isAgg91 (Cls.of (H170.cls (i := 0) rfl) rfl))) (WL.val (v := .agg (OpD.cells p0).toArray) rfl (Yl.load rfl (Lds.agg (cs := (OpD.cells p0)) Try.isAgg74 Try.sizeOf74 ((H170.cls (i := 1) rfl).lit (k := 0) (m := 6) rfl))) ?_)))))))
  obtain ⟨r177, hr178⟩ : ∃ q, op_checkScan p0 = q := ⟨_, rfl⟩
  obtain ⟨D172, HP173, ro174, bk175, rr176⟩ := Own.enter0 H170
  refine WL.do rfl (Do.callV Try.call76 rfl rfl (op_checkScan_ok _ _ p0 r177 HP173 hr178) ?_)
  rintro _ w179 ⟨rfl, HQ180⟩
  have H181 := bk175 _ _ HQ180
  refine As rfl rfl (WL.nil (Fin.then (Wp.ret (Fin.res (res1 rfl rfl) ?_))))
  have H182 := H181.pick [] (by decide) rfl
  have e : op_CheckOp p0 = r177 := Eq.trans (if_neg h24) (Eq.trans (if_neg h64) (Eq.trans (if_neg h104) (Eq.trans (if_pos h144) (Eq.trans (bnd_of hr167) (Eq.trans (if_pos h171) (bnd_of hr178))))))
  obtain rfl := e.symm.trans hr
  exact ⟨rfl, H182, (by omega)⟩
  refine Wp.cond1 rfl (decide_eq_true h171) (Wp.seq (Wp.region (As rfl rfl (WL.nil (Fin.then (Wp.ret (Fin.thenR (Fin.res (res1 rfl rfl) ?_))))))))
  have H183 := H170.pick [] (by decide) rfl
  have e : op_CheckOp p0 = 40 := Eq.trans (if_neg h24) (Eq.trans (if_neg h64) (Eq.trans (if_neg h104) (Eq.trans (if_pos h144) (Eq.trans (bnd_of hr167) (if_neg h171)))))
  obtain rfl := e.symm.trans hr
  exact ⟨rfl, H183, (by omega)⟩
  by_cases h184 : p0.xKind = 5
  obtain ⟨D185, HP186, ro187, bk188, rr189⟩ := Own.enter0 H23
  refine WL.do rfl (Do.call Try.call54 rfl (op_kindOf_5_ok _ _ p0.xKind HP186 (of_decide_eq_true (decide_eq_true h184))) ?_)
  rintro _ w191 ⟨rfl, HQ192⟩
  have H193 := bk188 _ _ HQ192
  refine Mv rfl rfl (Kn (v := .agg #[.bool true, .func (.func 79) #[] #[], .func (.func 80) #[] #[], .func (.func 77) #[] #[], .func (.func 81) #[] #[]]) rfl rfl rfl (fun _ => by kernel_rfl) (Kn (v := .bool true) rfl rfl rfl (fun _ => by kernel_rfl) ?_))
  refine WL.do rfl (Do.newP (cs := [.bool false, .nilFunc, .nilFunc, .nilFunc, .nilFunc]) (t := 95) H193 rfl rfl (fun _ => by kernel_rfl) ?_)
  intro g194 w195 H196
  refine WL.do0 (Do.store (vs := [.bool true, .func (.func 79) #[] #[], .func (.func 80) #[] #[], .func (.func 77) #[] #[], .func (.func 81) #[] #[]]) (o := 0) H196 rfl rfl Try.sizeOf95 rfl rfl rfl rfl ?_)
  intro w197 H198
  refine As rfl rfl (WL.nil (Fin.then (Wp.seq (Wp.seq ?_))))
  have H200 := H198.drew
  refine Wp.drawnX [] (fun W => ∃ L', Own w D W ([blk g194 [.bool true, .func (.func 79) #[] #[], .func (.func 80) #[] #[], .func (.func 77) #[] #[], .func (.func 81) #[] #[]] 95, blk g21 (OpD.cells p0) 74] ++ L')) (by kernel_rfl) (by kernel_rfl) (NoP.then (NoP.then NoP.base)) ⟨_, H200⟩ ?_
  revert H200
  generalize World.drew w197 = w199
  intro H200
  refine GX.take (v := .bool true) (rs := []) 0 rfl (by kernel_rfl) (fun _ _ => Yl.move rfl) (GX.take (v := .bool false) (rs := []) 1 rfl (by kernel_rfl) (fun _ _ => Yl.kern rfl rfl (fun _ => by kernel_rfl)) (GX.take (v := .bool false) (rs := []) 2 rfl (by kernel_rfl) (fun _ _ => Yl.move rfl) (GX.takeG (v := .pointer (some ⟨g194, 1, none⟩)) (rs := []) 3 rfl rfl rfl rfl (by kernel_rfl) (fun _ _ => Yl.kern rfl rfl (fun _ => by kernel_rfl)) (GX.takeG (v := .func (.func 79) #[] #[]) (rs := []) 4 rfl rfl rfl rfl (by kernel_rfl) (fun _ ⟨_, H9⟩ => Yl.load rfl (Lds.one Try.isAgg90 (Cls.of (H9.cls (i := 0) rfl) rfl))) (GX.takeG (v := .agg (OpD.cells p0).toArray) (rs := []) 5 rfl rfl rfl rfl (by kernel_rfl) (fun _ ⟨_, H9⟩ => Yl.load rfl (Lds.agg (cs := (OpD.cells p0)) Try.isAgg74 Try.sizeOf74 ((H9.cls (i := 1) rfl).lit (k := 0) (m := 6) rfl))) (GX.takeG (v := .agg (OpD.cells p0).toArray) (rs := []) 7 rfl rfl rfl rfl (by kernel_rfl) (fun _ ⟨_, H9⟩ => Yl.load rfl (Lds.agg (cs := (OpD.cells p0)) Try.isAgg74 Try.sizeOf74 ((H9.cls (i := 1) rfl).lit (k := 0) (m := 6) rfl))) ?_))))))
  obtain ⟨r206, hr207⟩ : ∃ q, op_ownRange p0 = q := ⟨_, rfl⟩
  obtain ⟨D201, HP202, ro203, bk204, rr205⟩ := Own.enter0 H200
  refine GX.doG 6 rfl rfl rfl rfl (by kernel_rfl) (Do.callV Try.call79 rfl rfl (op_ownRange_ok _ _ p0 r206 HP202 hr207) ?_)
  rintro _ w208 ⟨rfl, HQ209⟩
  have H210 := bk204 _ _ HQ209
  refine ⟨.inr ⟨_, H210⟩, ?_⟩
  refine GX.takeG (v := .bool (decide (¬ ((r206.xKind = p0.xKind) ∧ (r206.xKey = p0.xKey) ∧ (r206.xValue = p0.xValue) ∧ (r206.xLo = p0.xLo) ∧ (r206.xHi = p0.xHi) ∧ (r206.xMost = p0.xMost))))) (rs := []) 8 rfl rfl rfl rfl (by kernel_rfl) (fun _ _ => Yl.bool (e := !(decide ((r206.xKind = p0.xKind) ∧ (r206.xKey = p0.xKey) ∧ (r206.xValue = p0.xValue) ∧ (r206.xLo = p0.xLo) ∧ (r206.xHi = p0.xHi) ∧ (r206.xMost = p0.xMost)))) (Yl.neAgg rfl rfl (by kernel_rfl) rfl (Eqv.struct Try.underlying74 (by kernel_rfl) (EqF.dec (EqF.cons (u := .int .i64 r206.xKind) (v := .int .i64 p0.xKind) (by decide) (fun _ => by kernel_rfl) (fun _ => by kernel_rfl) (Eqv.int Try.underlying3) (EqF.cons (u := .string ⟨List.toArray r206.xKey⟩) (v := .string ⟨List.toArray p0.xKey⟩) (by decide) (fun _ => by kernel_rfl) (fun _ => by kernel_rfl) (Eqv.string Try.underlying9) (EqF.cons (u := .string ⟨List.toArray r206.xValue⟩) (v := .string ⟨List.toArray p0.xValue⟩) (by decide) (fun _ => by kernel_rfl) (fun _ => by kernel_rfl) (Eqv.string Try.underlying9) (EqF.cons (u := .string ⟨List.toArray r206.xLo⟩) (v := .string ⟨List.toArray p0.xLo⟩) (by decide) (fun _ => by kernel_rfl) (fun _ => by kernel_rfl) (Eqv.string Try.underlying9) (EqF.cons (u := .string ⟨List.toArray r206.xHi⟩) (v := .string ⟨List.toArray p0.xHi⟩) (by decide) (fun _ => by kernel_rfl) (fun _ => by kernel_rfl) (Eqv.string Try.underlying9) (EqF.cons (u := .int .i64 r206.xMost) (v := .int .i64 p0.xMost) (by decide) (fun _ => by kernel_rfl) (fun _ => by kernel_rfl) (Eqv.int Try.underlying3) (EqF.nil.up (Nat.zero_le _)))))))) ((congrArg (decide (r206.xKind = p0.xKind) && ·) ((congrArg (decide (r206.xKey = p0.xKey) && ·) ((congrArg (decide (r206.xValue = p0.xValue) && ·) ((congrArg (decide (r206.xLo = p0.xLo) && ·) ((congrArg (decide (r206.xHi = p0.xHi) && ·) and_dec1).trans and_dec)).trans and_dec)).trans and_dec)).trans and_dec)).trans and_dec)))) decide_not.symm) (GX.take (v := .bool (decide (¬ ((r206.xKind = p0.xKind) ∧ (r206.xKey = p0.xKey) ∧ (r206.xValue = p0.xValue) ∧ (r206.xLo = p0.xLo) ∧ (r206.xHi = p0.xHi) ∧ (r206.xMost = p0.xMost))))) (rs := []) 9 rfl (by kernel_rfl) (fun _ _ => Yl.pickF rfl rfl rfl) (GX.done (by kernel_rfl) (Fin.then ?_)))
  by_cases h211 : (r206.xKind = p0.xKind) ∧ (r206.xKey = p0.xKey) ∧ (r206.xValue = p0.xValue) ∧ (r206.xLo = p0.xLo) ∧ (r206.xHi = p0.xHi) ∧ (r206.xMost = p0.xMost)
  refine Wp.cond0 rfl (decide_eq_false (not_not_intro h211)) (Wp.skip (Fin.then (Wp.seq (Wp.region (Kn (v := .pointer (some ⟨g194, 2, none⟩)) rfl rfl rfl (fun _ => by kernel_rfl) (WL.val (v := .func (.func 80) #[] #[]) rfl (Yl.load rfl (Lds.one Try.isAgg91 (Cls.of (H210.cls (i := 0) rfl) rfl))) (WL.val (v := .agg (OpD.cells p0).toArray) rfl (Yl.load rfl (Lds.agg (cs := (OpD.cells p0)) Try.isAgg74 Try.sizeOf74 ((H210.cls (i := 1) rfl).lit (k := 0) (m := 6) rfl))) ?_)))))))
  obtain ⟨r217, hr218⟩ : ∃ q, op_checkRange p0 = q := ⟨_, rfl⟩
  obtain ⟨D212, HP213, ro214, bk215, rr216⟩ := Own.enter0 H210
  refine WL.do rfl (Do.callV Try.call80 rfl rfl (op_checkRange_ok _ _ p0 r217 HP213 hr218) ?_)
  rintro _ w219 ⟨rfl, HQ220⟩
  have H221 := bk215 _ _ HQ220
  refine As rfl rfl (WL.nil (Fin.then (Wp.ret (Fin.res (res1 rfl rfl) ?_))))
  have H222 := H221.pick [] (by decide) rfl
  have e : op_CheckOp p0 = r217 := Eq.trans (if_neg h24) (Eq.trans (if_neg h64) (Eq.trans (if_neg h104) (Eq.trans (if_neg h144) (Eq.trans (if_pos h184) (Eq.trans (bnd_of hr207) (Eq.trans (if_pos h211) (bnd_of hr218)))))))
  obtain rfl := e.symm.trans hr
  exact ⟨rfl, H222, (by omega)⟩
  refine Wp.cond1 rfl (decide_eq_true h211) (Wp.seq (Wp.region (As rfl rfl (WL.nil (Fin.then (Wp.ret (Fin.thenR (Fin.res (res1 rfl rfl) ?_))))))))
  have H223 := H210.pick [] (by decide) rfl
  have e : op_CheckOp p0 = 40 := Eq.trans (if_neg h24) (Eq.trans (if_neg h64) (Eq.trans (if_neg h104) (Eq.trans (if_neg h144) (Eq.trans (if_pos h184) (Eq.trans (bnd_of hr207) (if_neg h211))))))
  obtain rfl := e.symm.trans hr
  exact ⟨rfl, H223, (by omega)⟩
  obtain ⟨D224, HP225, ro226, bk227, rr228⟩ := Own.enter0 H23
  refine WL.do rfl (Do.call Try.call54 rfl (op_kindOf_no_ok _ _ p0.xKind HP225 (by omega) (by omega) (by omega) (by omega) (by omega)) ?_)
  rintro _ w230 ⟨rfl, HQ231⟩
  have H232 := bk227 _ _ HQ231
  refine Mv rfl rfl (Kn (v := .agg #[.bool false, .nilFunc, .nilFunc, .nilFunc, .nilFunc]) rfl rfl rfl (fun _ => by kernel_rfl) (Kn (v := .bool false) rfl rfl rfl (fun _ => by kernel_rfl) ?_))
  refine WL.do rfl (Do.newP (cs := [.bool false, .nilFunc, .nilFunc, .nilFunc, .nilFunc]) (t := 95) H232 rfl rfl (fun _ => by kernel_rfl) ?_)
  intro g233 w234 H235
  refine WL.do0 (Do.store (vs := [.bool false, .nilFunc, .nilFunc, .nilFunc, .nilFunc]) (o := 0) H235 rfl rfl Try.sizeOf95 rfl rfl rfl rfl ?_)
  intro w236 H237
  refine As rfl rfl (WL.nil (Fin.then (Wp.seq (Wp.seq ?_))))
  have H239 := H237.drew
  refine Wp.drawnX [] (fun W => ∃ L', Own w D W ([blk g233 [.bool false, .nilFunc, .nilFunc, .nilFunc, .nilFunc] 95, blk g21 (OpD.cells p0) 74] ++ L')) (by kernel_rfl) (by kernel_rfl) (NoP.then (NoP.then NoP.base)) ⟨_, H239⟩ ?_
  revert H239
  generalize World.drew w236 = w238
  intro H239
  refine GX.take (v := .bool false) (rs := []) 0 rfl (by kernel_rfl) (fun _ _ => Yl.move rfl) (GX.take (v := .bool true) (rs := []) 1 rfl (by kernel_rfl) (fun _ _ => Yl.kern rfl rfl (fun _ => by kernel_rfl)) (GX.take (v := .bool true) (rs := []) 2 rfl (by kernel_rfl) (fun _ _ => Yl.move rfl) (GX.skipG (rs := []) 3 rfl rfl rfl rfl (by kernel_rfl) (GX.skipG (rs := []) 4 rfl rfl rfl rfl (by kernel_rfl) (GX.skipG (rs := []) 5 rfl rfl rfl rfl (by kernel_rfl) (GX.skipG (rs := []) 6 rfl rfl rfl rfl (by kernel_rfl) (GX.skipG (rs := []) 7 rfl rfl rfl rfl (by kernel_rfl) (GX.skipG (rs := []) 8 rfl rfl rfl rfl (by kernel_rfl) (GX.take (v := .bool true) (rs := []) 9 rfl (by kernel_rfl) (fun _ _ => Yl.pickT rfl rfl rfl) (GX.done (by kernel_rfl) (Fin.then (Wp.cond1 rfl rfl (Wp.seq (Wp.region (As rfl rfl (WL.nil (Fin.then (Wp.ret (Fin.thenR (Fin.res (res1 rfl rfl) ?_))))))))))))))))))))
  have H240 := H239.pick [] (by decide) rfl
  have e : op_CheckOp p0 = 40 := Eq.trans (if_neg h24) (Eq.trans (if_neg h64) (Eq.trans (if_neg h104) (Eq.trans (if_neg h144) (if_neg h184))))
  obtain rfl := e.symm.trans hr
  exact ⟨rfl, H240, (by omega)⟩
theorem El41 : Elem Try.prog 41 74 6 80 := elem_of (z := .agg #[.int .i64 0, .string ⟨List.toArray ([])⟩, .string ⟨List.toArray ([])⟩, .string ⟨List.toArray ([])⟩, .string ⟨List.toArray ([])⟩, .int .i64 0]) Try.underlying41 (by kernel_rfl) rfl (by decide)
def op_checkEach_L0 : List OpD → Unit ⊕ Int
  | [] => Sum.inl ()
  | x30 :: q22 => bnd (op_CheckOp x30) fun yr43 => if yr43 = 0 then op_checkEach_L0 q22 else Sum.inr (yr43)
def op_checkEach (l0 : List OpD) : Int :=
  lp (op_checkEach_L0 l0) fun _ => 0
set_option maxRecDepth 100000 in
theorem op_checkEach_ok (w : World) (D : Nat → Prop) (A0 : Option Addr) (n0 c0 : Nat) (l0 : List OpD) (r0 : Int) (H : Own w D w []) (hx0 : Ro w D fun w' => Rds w' 6 A0 n0 (List.flatMap OpD.cells l0)) (hn0 : n0 = l0.length) (hl0 : l0.length * 80 ≤ 211106232532992) (hr : op_checkEach l0 = r0) :
    Calls Try.prog 52 #[.slice A0 n0 c0] w (Ret fun v w' => v = .int .i64 r0 ∧ Own w D w' []) := by
  subst hn0
  refine Calls.body (args := [.slice A0 l0.length c0]) Try.func52 rfl rfl rfl ?_
  show Wp _ _ _ [(0, .slice A0 l0.length c0)] _ _
  refine Wp.seq (Wp.region (As rfl rfl (WL.nil (Fin.then (Wp.seq (Wp.seq (Wp.region (Mv rfl rfl (Kn (v := .int .i64 ((l0.length : Nat) : Int)) rfl rfl rfl (fun _ => by kernel_rfl) (Mv rfl rfl (WL.nil (Fin.then (Wp.block ?_)))))))))))))
  have H23 : Own w D w [] := H.pick [] (by decide) rfl
  refine Wp.loop (ι := Nat) (fun i => [(2, .int .i64 0), (8, .int .i64 ((i : Nat) : Int)), (7, .int .i64 ((l0.length : Nat) : Int)), (6, .slice A0 l0.length c0)]) (fun (i : Nat) w' => Own w D w' [] ∧ (i ≤ l0.length ∧ op_checkEach_L0 l0 = op_checkEach_L0 (List.drop i l0))) (fun i => l0.length - i) 0 ⟨rfl, rfl, rfl, rfl, trivial⟩ ⟨H23, (show 0 ≤ l0.length ∧ op_checkEach_L0 l0 = op_checkEach_L0 (List.drop 0 l0) from ⟨by omega, rfl⟩)⟩ ?_
  rintro k21 w24 ⟨H25, hf26⟩
  show Wp _ _ _ [(2, .int .i64 0), (8, .int .i64 ((k21 : Nat) : Int)), (7, .int .i64 ((l0.length : Nat) : Int)), (6, .slice A0 l0.length c0)] _ _
  replace hf26 : k21 ≤ l0.length ∧ op_checkEach_L0 l0 = op_checkEach_L0 (List.drop k21 l0) := hf26
  obtain ⟨hi28, hq27⟩ := hf26
  refine Wp.seq (Wp.region (Kn (v := .bool (decide (((k21 : Nat) : Int) < ((l0.length : Nat) : Int)))) rfl rfl rfl (fun _ => by kernel_rfl) (WL.nil (Fin.then (Wp.seq ?_)))))
  by_cases h29 : ((k21 : Nat) : Int) < ((l0.length : Nat) : Int)
  obtain ⟨x30, hx31⟩ := rds_at (ls := l0) (i := k21) OpD.len (by decide) (H25.ro hx0) (by first | omega | (simp; done) | (simp; omega))
  have hd32 := drop_at hx31
  refine Wp.cond1 rfl (decide_eq_true h29) (Wp.skip (Fin.then (Wp.seq (Wp.block (Wp.seq (Wp.region (WL.val (v := .pointer (some ⟨ab A0, ao A0 + k21 * 6, none⟩)) rfl (Yl.indexAddr (El41) rfl rfl ((H25.ro hx0).addr (i := k21) (by omega)) (by omega)) (WL.val (v := .agg (OpD.cells x30).toArray) rfl (Yl.load rfl (Lds.agg (cs := (OpD.cells x30)) Try.isAgg74 Try.sizeOf74 ((H25.ro hx0).elem OpD.len hx31 (by decide)))) ?_))))))))
  refine WL.do rfl (Do.newP (cs := [.int .i64 0, .string ⟨List.toArray ([])⟩, .string ⟨List.toArray ([])⟩, .string ⟨List.toArray ([])⟩, .string ⟨List.toArray ([])⟩, .int .i64 0]) (t := 74) H25 rfl rfl (fun _ => by kernel_rfl) ?_)
  intro g33 w34 H35
  refine WL.do0 (Do.store (vs := (OpD.cells x30)) (o := 0) H35 rfl rfl Try.sizeOf74 rfl rfl rfl rfl ?_)
  intro w36 H37
  refine WL.nil (Fin.then (Wp.seq (Wp.region (WL.val (v := .agg (OpD.cells x30).toArray) rfl (Yl.load rfl (Lds.agg (cs := (OpD.cells x30)) Try.isAgg74 Try.sizeOf74 ((H37.cls (i := 0) rfl).lit (k := 0) (m := 6) rfl))) ?_))))
  obtain ⟨r43, hr44⟩ : ∃ q, op_CheckOp x30 = q := ⟨_, rfl⟩
  obtain ⟨D38, HP39, ro40, bk41, rr42⟩ := Own.enter0 H37
  refine WL.do rfl (Do.call Try.call66 rfl (op_CheckOp_ok _ _ x30 r43 HP39 hr44) ?_)
  rintro _ w45 ⟨rfl, HQ46, hk48⟩
  have H47 := bk41 _ _ HQ46
  replace hk48 : ¬ (r43 = 0) ∨ (1 ≤ x30.xKind ∧ x30.xKind ≤ 5) := hk48
  refine As rfl rfl (WL.nil (Fin.then (Wp.seq (Wp.region (Mv rfl rfl (WL.val (v := .bool (decide (¬ (r43 = 0)))) rfl (Yl.bool (e := !(decide (r43 = 0))) (Yl.kern rfl rfl (fun _ => by kernel_rfl)) decide_not.symm) (WL.nil (Fin.then ?_))))))))
  by_cases h49 : r43 = 0
  refine Wp.cond0 rfl (decide_eq_false (not_not_intro h49)) (Wp.skip (Fin.blockN (Fin.then (Wp.region (WL.val (v := .int .i64 ((k21 + 1 : Nat) : Int)) rfl (Yl.int (e := IntKind.i64.wrap (((k21 : Nat) : Int) + 1)) (Yl.kern rfl rfl (fun _ => by kernel_rfl)) (by rw [IntWalk.i64_in _ (by omega)]; omega)) (Mv rfl rfl (WL.nil ?_)))))))
  have H50 := H47.pick [] (by decide) rfl
  exact Fin.round (k21 + 1) ⟨rfl, rfl, rfl, rfl, trivial⟩ ⟨H50, (show (k21 + 1) ≤ l0.length ∧ op_checkEach_L0 l0 = op_checkEach_L0 (List.drop (k21 + 1) l0) from ⟨by omega, Eq.trans (hq27) (Eq.trans (congrArg (fun q => op_checkEach_L0 q) hd32) (Eq.trans (bnd_of hr44) (if_pos h49)))⟩)⟩ (by show l0.length - (k21 + 1) < l0.length - k21; omega)
  refine Wp.cond1 rfl (decide_eq_true h49) (Wp.seq (Wp.region (Mv rfl rfl (As rfl rfl (WL.nil (Fin.then (Wp.ret (Fin.blockR (Fin.thenR (Fin.thenR (Fin.blockR (Fin.thenR (Fin.res (res1 rfl rfl) ?_)))))))))))))
  have H51 := H47.pick [] (by decide) rfl
  have e : op_checkEach l0 = r43 := lp_r (Eq.trans (hq27) (Eq.trans (congrArg (fun q => op_checkEach_L0 q) hd32) (Eq.trans (bnd_of hr44) (if_neg h49))))
  obtain rfl := e.symm.trans hr
  exact ⟨rfl, H51⟩
  refine Wp.cond0 rfl (decide_eq_false h29) (Wp.exit (Fin.thenX ?_))
  have hL52 : op_checkEach_L0 l0 = Sum.inl () := Eq.trans (hq27) (Eq.trans (congrArg (fun q => op_checkEach_L0 q) (drop_end (ls := l0) (i := k21) (by omega))) rfl)
  refine Fin.thenX (Fin.blockX (Fin.then (Wp.seq (Wp.region (As rfl rfl (WL.nil (Fin.then (Wp.ret (Fin.res (res1 rfl rfl) ?_)))))))))
  have H53 := H25.pick [] (by decide) rfl
  have e : op_checkEach l0 = 0 := lp_l hL52
  obtain rfl := e.symm.trans hr
  exact ⟨rfl, H53⟩
theorem op_each_kind {x : OpD} (h : op_CheckOp x = 0) : 1 ≤ x.xKind ∧ x.xKind ≤ 5 := by
  unfold op_CheckOp at h
  repeat' (split at h <;> first | omega | skip)
theorem op_each_ok0 {l : List OpD} (h : op_checkEach l = 0) : ∀ x ∈ l, op_CheckOp x = 0 := by
  have key : ∀ l : List OpD, lp (op_checkEach_L0 l) (fun _ => 0) = 0 → ∀ x ∈ l, op_CheckOp x = 0 := by
    intro l
    induction l with
    | nil => intro _ x hx; cases hx
    | cons y q ih =>
      intro h x hx
      simp only [op_checkEach_L0, bnd] at h
      by_cases e : op_CheckOp y = 0
      · rw [if_pos e] at h
        rcases List.mem_cons.1 hx with rfl | hx
        · exact e
        · exact ih h x hx
      · rw [if_neg e] at h
        exact absurd h e
  exact key l h
theorem op_each {l : List OpD} (h : op_checkEach l = 0) {i : Nat} {x : OpD} (hx : l[i]? = some x) : 1 ≤ x.xKind ∧ x.xKind ≤ 5 :=
  op_each_kind (op_each_ok0 h x (List.mem_of_getElem? hx))
def op_Check (l0 : List OpD) : Int :=
  if ((l0.length : Nat) : Int) < 1 then 3 else if ((l0.length : Nat) : Int) > 4 then 3 else bnd (op_checkEach l0) fun yr30 => yr30
set_option maxRecDepth 100000 in
theorem op_Check_ok (w : World) (D : Nat → Prop) (A0 : Option Addr) (n0 c0 : Nat) (l0 : List OpD) (r0 : Int) (H : Own w D w []) (hx0 : Ro w D fun w' => Rds w' 6 A0 n0 (List.flatMap OpD.cells l0)) (hn0 : n0 = l0.length) (hl0 : l0.length * 80 ≤ 211106232532992) (hr : op_Check l0 = r0) :
    Calls Try.prog 48 #[.slice A0 n0 c0] w (Ret fun v w' => v = .int .i64 r0 ∧ Own w D w' [] ∧ (¬ (r0 = 0) ∨ (1 ≤ l0.length ∧ l0.length ≤ 4))) := by
  subst hn0
  refine Calls.body (args := [.slice A0 l0.length c0]) Try.func48 rfl rfl rfl ?_
  show Wp _ _ _ [(0, .slice A0 l0.length c0)] _ _
  refine Wp.seq (Wp.region (As rfl rfl (WL.nil (Fin.then (Wp.seq (Wp.seq (Wp.region (Mv rfl rfl (Kn (v := .int .i64 ((l0.length : Nat) : Int)) rfl rfl rfl (fun _ => by kernel_rfl) (Kn (v := .bool (decide (((l0.length : Nat) : Int) < 1))) rfl rfl rfl (fun _ => by kernel_rfl) (Mv rfl rfl ?_)))))))))))
  by_cases h21 : ((l0.length : Nat) : Int) < 1
  refine Sk rfl rfl (decide_eq_true h21) rfl (Sk rfl rfl (decide_eq_true h21) rfl (Sk rfl rfl (decide_eq_true h21) rfl (WL.val (v := .bool true) rfl (Yl.pickT rfl (decide_eq_true h21) rfl) (WL.nil (Fin.then (Wp.cond1 rfl rfl (Wp.seq (Wp.region (As rfl rfl (WL.nil (Fin.then (Wp.ret (Fin.thenR (Fin.res (res1 rfl rfl) ?_))))))))))))))
  have H22 : Own w D w [] := H.pick [] (by decide) rfl
  have e : op_Check l0 = 3 := if_pos h21
  obtain rfl := e.symm.trans hr
  exact ⟨rfl, H22, (by omega)⟩
  refine WL.valG (v := .slice A0 l0.length c0) rfl rfl (decide_eq_false h21) rfl (Yl.move rfl) (WL.valG (v := .int .i64 ((l0.length : Nat) : Int)) rfl rfl (decide_eq_false h21) rfl (Yl.kern rfl rfl (fun _ => by kernel_rfl)) (WL.valG (v := .bool (decide (((l0.length : Nat) : Int) > 4))) rfl rfl (decide_eq_false h21) rfl (Yl.kern rfl rfl (fun _ => by kernel_rfl)) (WL.val (v := .bool (decide (((l0.length : Nat) : Int) > 4))) rfl (Yl.pickF rfl (decide_eq_false h21) rfl) (WL.nil (Fin.then ?_)))))
  by_cases h23 : ((l0.length : Nat) : Int) > 4
  refine Wp.cond1 rfl (decide_eq_true h23) (Wp.seq (Wp.region (As rfl rfl (WL.nil (Fin.then (Wp.ret (Fin.thenR (Fin.res (res1 rfl rfl) ?_))))))))
  have H24 : Own w D w [] := H.pick [] (by decide) rfl
  have e : op_Check l0 = 3 := Eq.trans (if_neg h21) (if_pos h23)
  obtain rfl := e.symm.trans hr
  exact ⟨rfl, H24, (by omega)⟩
  refine Wp.cond0 rfl (decide_eq_false h23) (Wp.skip (Fin.then (Wp.seq (Wp.region (Mv rfl rfl ?_)))))
  obtain ⟨r30, hr31⟩ : ∃ q, op_checkEach l0 = q := ⟨_, rfl⟩
  obtain ⟨D25, HP26, ro27, bk28, rr29⟩ := Own.enter0 H
  refine WL.do rfl (Do.call Try.call52 rfl (op_checkEach_ok _ _ A0 l0.length c0 l0 r30 HP26 (ro27 _ hx0) rfl (by omega) hr31) ?_)
  rintro _ w32 ⟨rfl, HQ33⟩
  have H34 := bk28 _ _ HQ33
  refine As rfl rfl (WL.nil (Fin.then (Wp.ret (Fin.res (res1 rfl rfl) ?_))))
  have H35 := H34.pick [] (by decide) rfl
  have e : op_Check l0 = r30 := Eq.trans (if_neg h21) (Eq.trans (if_neg h23) (bnd_of hr31))
  obtain rfl := e.symm.trans hr
  exact ⟨rfl, H35, (by omega)⟩
theorem El54 : Elem Try.prog 54 58 2 32 := elem_of (z := .agg #[.string ⟨List.toArray ([])⟩, .string ⟨List.toArray ([])⟩]) Try.underlying54 (by kernel_rfl) rfl (by decide)
structure PairD where
  xKey : List UInt8
  xValue : List UInt8
def PairD.cells (x : PairD) : List Value := [.string ⟨List.toArray x.xKey⟩, .string ⟨List.toArray x.xValue⟩]
instance : Bk PairD := ⟨fun x _ => bk x.xKey + (bk x.xValue + (0))⟩
theorem PairD.len : ∀ x, (PairD.cells x).length = 2 := fun _ => rfl
theorem PairD.one : ∀ x, ∀ u ∈ PairD.cells x, u.oneCell' = true := fun x u hu => by
  simp only [PairD.cells, List.mem_cons, List.not_mem_nil, or_false] at hu
  rcases hu with rfl | rfl <;> rfl
def PairD.Ok (w : World) (x : PairD) : Prop := (x.xKey.length ≤ 140737488351232) ∧ (x.xValue.length ≤ 140737488351232)
set_option maxRecDepth 100000 in
theorem opens_PairD (w : World) : Opens Try.prog w 58 2 PairD.cells (PairD.Ok w) :=
  (opens_struct (sz := 2) Try.underlying58 (by kernel_rfl) (OpensF.cons (i := 0) (off := 0) (s := 1) rfl rfl (opens_string Try.underlying9 (by kernel_rfl)) (OpensF.cons (i := 1) (off := 1) (s := 1) rfl rfl (opens_string Try.underlying9 (by kernel_rfl)) OpensF.nil))).map (fun p => ⟨p.1, p.2.1⟩) PairD.len (fun _ => rfl) (fun _ h => ⟨h.1, h.2.1⟩) fun _ => Nat.le_refl _
instance : Inhabited PairD := ⟨⟨default, default⟩⟩
def op_CheckMap_L0 (l0 : List PairD) : List PairD → Nat → Unit ⊕ Int
  | [], k21 => Sum.inl ()
  | x30 :: q22, k21 => bnd (span_CheckKey x30.xKey) fun yr43 => if yr43 = 0 then bnd (op_checkValue x30.xValue) fun yr55 => if yr55 = 0 then if ((k21 : Nat) : Int) > 0 then bnd (List.getD l0 (k21 - 1) default) fun yx64 => if x30.xKey ≤ yx64.xKey then Sum.inr (1) else op_CheckMap_L0 l0 q22 (k21 + 1) else op_CheckMap_L0 l0 q22 (k21 + 1) else Sum.inr (yr55) else Sum.inr (yr43)
def op_CheckMap (l0 : List PairD) : Int :=
  lp (op_CheckMap_L0 l0 l0 0) fun _ => 0
set_option maxRecDepth 100000 in
theorem op_CheckMap_ok (w : World) (D : Nat → Prop) (A0 : Option Addr) (n0 c0 : Nat) (l0 : List PairD) (r0 : Int) (H : Own w D w []) (hx0 : Ro w D fun w' => Rds w' 2 A0 n0 (List.flatMap PairD.cells l0)) (hn0 : n0 = l0.length) (hl0 : l0.length * 32 ≤ 211106232532992) (hr : op_CheckMap l0 = r0) :
    Calls Try.prog 51 #[.slice A0 n0 c0] w (Ret fun v w' => v = .int .i64 r0 ∧ Own w D w' []) := by
  subst hn0
  refine Calls.body (args := [.slice A0 l0.length c0]) Try.func51 rfl rfl rfl ?_
  show Wp _ _ _ [(0, .slice A0 l0.length c0)] _ _
  refine Wp.seq (Wp.region (As rfl rfl (WL.nil (Fin.then (Wp.seq (Wp.seq (Wp.region (Mv rfl rfl (Kn (v := .int .i64 ((l0.length : Nat) : Int)) rfl rfl rfl (fun _ => by kernel_rfl) (Mv rfl rfl (WL.nil (Fin.then (Wp.block ?_)))))))))))))
  have H23 : Own w D w [] := H.pick [] (by decide) rfl
  refine Wp.loop (ι := Nat) (fun i => [(2, .int .i64 0), (9, .int .i64 ((i : Nat) : Int)), (8, .int .i64 ((l0.length : Nat) : Int)), (7, .slice A0 l0.length c0), (0, .slice A0 l0.length c0)]) (fun (i : Nat) w' => Own w D w' [] ∧ (i ≤ l0.length ∧ op_CheckMap_L0 l0 l0 0 = op_CheckMap_L0 l0 (List.drop i l0) i)) (fun i => l0.length - i) 0 ⟨rfl, rfl, rfl, rfl, rfl, trivial⟩ ⟨H23, (show 0 ≤ l0.length ∧ op_CheckMap_L0 l0 l0 0 = op_CheckMap_L0 l0 (List.drop 0 l0) 0 from ⟨by omega, rfl⟩)⟩ ?_
  rintro k21 w24 ⟨H25, hf26⟩
  show Wp _ _ _ [(2, .int .i64 0), (9, .int .i64 ((k21 : Nat) : Int)), (8, .int .i64 ((l0.length : Nat) : Int)), (7, .slice A0 l0.length c0), (0, .slice A0 l0.length c0)] _ _
  replace hf26 : k21 ≤ l0.length ∧ op_CheckMap_L0 l0 l0 0 = op_CheckMap_L0 l0 (List.drop k21 l0) k21 := hf26
  obtain ⟨hi28, hq27⟩ := hf26
  refine Wp.seq (Wp.region (Kn (v := .bool (decide (((k21 : Nat) : Int) < ((l0.length : Nat) : Int)))) rfl rfl rfl (fun _ => by kernel_rfl) (WL.nil (Fin.then (Wp.seq ?_)))))
  by_cases h29 : ((k21 : Nat) : Int) < ((l0.length : Nat) : Int)
  obtain ⟨x30, hx31⟩ := rds_at (ls := l0) (i := k21) PairD.len (by decide) (H25.ro hx0) (by first | omega | (simp; done) | (simp; omega))
  have hd32 := drop_at hx31
  refine Wp.cond1 rfl (decide_eq_true h29) (Wp.skip (Fin.then (Wp.seq (Wp.block (Wp.seq (Wp.region (Mv rfl rfl (WL.val (v := .pointer (some ⟨ab A0, ao A0 + k21 * 2, none⟩)) rfl (Yl.indexAddr (El54) rfl rfl ((H25.ro hx0).addr (i := k21) (by omega)) (by omega)) (WL.val (v := .agg (PairD.cells x30).toArray) rfl (Yl.load rfl (Lds.agg (cs := (PairD.cells x30)) Try.isAgg58 Try.sizeOf58 ((H25.ro hx0).elem PairD.len hx31 (by decide)))) ?_)))))))))
  refine WL.do rfl (Do.newP (cs := [.string ⟨List.toArray ([])⟩, .string ⟨List.toArray ([])⟩]) (t := 58) H25 rfl rfl (fun _ => by kernel_rfl) ?_)
  intro g33 w34 H35
  refine As rfl rfl ?_
  refine WL.do0 (Do.store (vs := (PairD.cells x30)) (o := 0) H35 rfl rfl Try.sizeOf58 rfl rfl rfl rfl ?_)
  intro w36 H37
  refine WL.nil (Fin.then (Wp.seq (Wp.seq (Wp.region (Kn (v := .pointer (some ⟨g33, 0, none⟩)) rfl rfl rfl (fun _ => by kernel_rfl) (WL.val (v := .string ⟨List.toArray x30.xKey⟩) rfl (Yl.load rfl (Lds.one Try.isAgg9 (Cls.of (H37.cls (i := 0) rfl) rfl))) ?_))))))
  obtain ⟨r43, hr44⟩ : ∃ q, span_CheckKey x30.xKey = q := ⟨_, rfl⟩
  obtain ⟨D38, HP39, ro40, bk41, rr42⟩ := Own.enter0 H37
  refine WL.do rfl (Do.call Try.call31 rfl (span_CheckKey_ok _ _ x30.xKey r43 HP39 hr44) ?_)
  rintro _ w45 ⟨rfl, HQ46, hk48⟩
  have H47 := bk41 _ _ HQ46
  replace hk48 : ¬ (r43 = 0) ∨ (1 ≤ x30.xKey.length ∧ x30.xKey.length ≤ 12) := hk48
  refine As rfl rfl (WL.nil (Fin.then (Wp.seq (Wp.region (Mv rfl rfl (WL.val (v := .bool (decide (¬ (r43 = 0)))) rfl (Yl.bool (e := !(decide (r43 = 0))) (Yl.kern rfl rfl (fun _ => by kernel_rfl)) decide_not.symm) (WL.nil (Fin.then ?_))))))))
  by_cases h49 : r43 = 0
  refine Wp.cond0 rfl (decide_eq_false (not_not_intro h49)) (Wp.skip (Fin.then (Wp.seq (Wp.seq (Wp.region (Kn (v := .pointer (some ⟨g33, 1, none⟩)) rfl rfl rfl (fun _ => by kernel_rfl) (WL.val (v := .string ⟨List.toArray x30.xValue⟩) rfl (Yl.load rfl (Lds.one Try.isAgg9 (Cls.of (H47.cls (i := 0) rfl) rfl))) ?_)))))))
  obtain ⟨r55, hr56⟩ : ∃ q, op_checkValue x30.xValue = q := ⟨_, rfl⟩
  obtain ⟨D50, HP51, ro52, bk53, rr54⟩ := Own.enter0 H47
  refine WL.do rfl (Do.call Try.call65 rfl (op_checkValue_ok _ _ x30.xValue r55 HP51 hr56) ?_)
  rintro _ w57 ⟨rfl, HQ58⟩
  have H59 := bk53 _ _ HQ58
  refine As rfl rfl (WL.nil (Fin.then (Wp.seq (Wp.region (Mv rfl rfl (WL.val (v := .bool (decide (¬ (r55 = 0)))) rfl (Yl.bool (e := !(decide (r55 = 0))) (Yl.kern rfl rfl (fun _ => by kernel_rfl)) decide_not.symm) (WL.nil (Fin.then ?_))))))))
  by_cases h60 : r55 = 0
  refine Wp.cond0 rfl (decide_eq_false (not_not_intro h60)) (Wp.skip (Fin.then (Wp.seq ?_)))
  have H62 := H59.drew
  refine Wp.drawnX [] (fun W => ∃ L', Own w D W ([blk g33 (PairD.cells x30) 58] ++ L')) (by kernel_rfl) (by kernel_rfl) (NoP.then (NoP.block (NoP.then (NoP.then (NoP.block (NoP.then NoP.base)))))) ⟨_, H62⟩ ?_
  revert H62
  generalize World.drew w57 = w61
  intro H62
  refine GX.take (v := .int .i64 ((k21 : Nat) : Int)) (rs := []) 0 rfl (by kernel_rfl) (fun _ _ => Yl.move rfl) (GX.take (v := .bool (decide (((k21 : Nat) : Int) > 0))) (rs := []) 1 rfl (by kernel_rfl) (fun _ _ => Yl.kern rfl rfl (fun _ => by kernel_rfl)) (GX.take (v := .bool (decide (((k21 : Nat) : Int) > 0))) (rs := []) 2 rfl (by kernel_rfl) (fun _ _ => Yl.move rfl) ?_))
  by_cases h63 : ((k21 : Nat) : Int) > 0
  refine GX.takeG (v := .pointer (some ⟨g33, 0, none⟩)) (rs := []) 3 rfl rfl rfl (decide_eq_true h63) (by kernel_rfl) (fun _ _ => Yl.kern rfl rfl (fun _ => by kernel_rfl)) (GX.takeG (v := .string ⟨List.toArray x30.xKey⟩) (rs := []) 4 rfl rfl rfl (decide_eq_true h63) (by kernel_rfl) (fun _ ⟨_, H9⟩ => Yl.load rfl (Lds.one Try.isAgg9 (Cls.of (H9.cls (i := 0) rfl) rfl))) (GX.takeG (v := .slice A0 l0.length c0) (rs := []) 5 rfl rfl rfl (decide_eq_true h63) (by kernel_rfl) (fun _ _ => Yl.move rfl) (GX.takeG (v := .int .i64 ((k21 : Nat) : Int)) (rs := []) 6 rfl rfl rfl (decide_eq_true h63) (by kernel_rfl) (fun _ _ => Yl.move rfl) (GX.takeG (v := .int .i64 ((k21 - 1 : Nat) : Int)) (rs := []) 7 rfl rfl rfl (decide_eq_true h63) (by kernel_rfl) (fun _ _ => Yl.int (e := IntKind.i64.wrap (((k21 : Nat) : Int) - 1)) (Yl.kern rfl rfl (fun _ => by kernel_rfl)) (by rw [IntWalk.i64_in _ (by omega)]; omega)) ?_))))
  obtain ⟨x64, hx65⟩ := at_of (ls := l0) (i := k21 - 1) (by first | omega | (simp; done) | (simp; omega))
  refine GX.takeG (v := .pointer (some ⟨ab A0, ao A0 + (k21 - 1) * 2, none⟩)) (rs := []) 8 rfl rfl rfl (decide_eq_true h63) (by kernel_rfl) (fun _ ⟨_, H9⟩ => Yl.indexAddr (El54) rfl rfl ((H9.ro hx0).addr (i := k21 - 1) (by omega)) (by omega)) (GX.takeG (v := .pointer (some ⟨ab A0, ao A0 + (k21 - 1) * 2, none⟩)) (rs := []) 9 rfl rfl rfl (decide_eq_true h63) (by kernel_rfl) (fun _ _ => Yl.kern rfl rfl (fun _ => by kernel_rfl)) (GX.takeG (v := .string ⟨List.toArray x64.xKey⟩) (rs := []) 10 rfl rfl rfl (decide_eq_true h63) (by kernel_rfl) (fun _ ⟨_, H9⟩ => Yl.load rfl (Lds.one Try.isAgg9 (((H9.ro hx0).elem PairD.len hx65 (by decide)).at_ (k := 0) rfl))) (GX.takeG (v := .bool (decide (x30.xKey ≤ x64.xKey))) (rs := []) 11 rfl rfl rfl (decide_eq_true h63) (by kernel_rfl) (fun _ _ => Yl.bool (e := Op.bytesLess x30.xKey x64.xKey || decide (x30.xKey = x64.xKey)) (Yl.strLe rfl rfl) (bl_le _ _)) (GX.take (v := .bool (decide (x30.xKey ≤ x64.xKey))) (rs := []) 12 rfl (by kernel_rfl) (fun _ _ => Yl.pickT rfl (decide_eq_true h63) rfl) (GX.done (by kernel_rfl) (Fin.then ?_))))))
  by_cases h66 : x30.xKey ≤ x64.xKey
  refine Wp.cond1 rfl (decide_eq_true h66) (Wp.seq (Wp.region (As rfl rfl (WL.nil (Fin.then (Wp.ret (Fin.blockR (Fin.thenR (Fin.thenR (Fin.blockR (Fin.thenR (Fin.res (res1 rfl rfl) ?_))))))))))))
  have H67 := H62.pick [] (by decide) rfl
  have e : op_CheckMap l0 = 1 := lp_r (Eq.trans (hq27) (Eq.trans (congrArg (fun q => op_CheckMap_L0 l0 q k21) hd32) (Eq.trans (bnd_of hr44) (Eq.trans (if_pos h49) (Eq.trans (bnd_of hr56) (Eq.trans (if_pos h60) (Eq.trans (if_pos h63) (Eq.trans (bnd_of (getD_of hx65)) (if_pos h66)))))))))
  obtain rfl := e.symm.trans hr
  exact ⟨rfl, H67⟩
  refine Wp.cond0 rfl (decide_eq_false h66) (Wp.skip (Fin.blockN (Fin.then (Wp.region (WL.val (v := .int .i64 ((k21 + 1 : Nat) : Int)) rfl (Yl.int (e := IntKind.i64.wrap (((k21 : Nat) : Int) + 1)) (Yl.kern rfl rfl (fun _ => by kernel_rfl)) (by rw [IntWalk.i64_in _ (by omega)]; omega)) (Mv rfl rfl (WL.nil ?_)))))))
  have H68 := H62.pick [] (by decide) rfl
  exact Fin.round (k21 + 1) ⟨rfl, rfl, rfl, rfl, rfl, trivial⟩ ⟨H68, (show (k21 + 1) ≤ l0.length ∧ op_CheckMap_L0 l0 l0 0 = op_CheckMap_L0 l0 (List.drop (k21 + 1) l0) (k21 + 1) from ⟨by omega, Eq.trans (hq27) (Eq.trans (congrArg (fun q => op_CheckMap_L0 l0 q k21) hd32) (Eq.trans (bnd_of hr44) (Eq.trans (if_pos h49) (Eq.trans (bnd_of hr56) (Eq.trans (if_pos h60) (Eq.trans (if_pos h63) (Eq.trans (bnd_of (getD_of hx65)) (if_neg h66))))))))⟩)⟩ (by show l0.length - (k21 + 1) < l0.length - k21; omega)
  refine GX.skipG (rs := []) 3 rfl rfl rfl (decide_eq_false h63) (by kernel_rfl) (GX.skipG (rs := []) 4 rfl rfl rfl (decide_eq_false h63) (by kernel_rfl) (GX.skipG (rs := []) 5 rfl rfl rfl (decide_eq_false h63) (by kernel_rfl) (GX.skipG (rs := []) 6 rfl rfl rfl (decide_eq_false h63) (by kernel_rfl) (GX.skipG (rs := []) 7 rfl rfl rfl (decide_eq_false h63) (by kernel_rfl) (GX.skipG (rs := []) 8 rfl rfl rfl (decide_eq_false h63) (by kernel_rfl) (GX.skipG (rs := []) 9 rfl rfl rfl (decide_eq_false h63) (by kernel_rfl) (GX.skipG (rs := []) 10 rfl rfl rfl (decide_eq_false h63) (by kernel_rfl) (GX.skipG (rs := []) 11 rfl rfl rfl (decide_eq_false h63) (by kernel_rfl) (GX.take (v := .bool false) (rs := []) 12 rfl (by kernel_rfl) (fun _ _ => Yl.pickF rfl (decide_eq_false h63) rfl) (GX.done (by kernel_rfl) (Fin.then (Wp.cond0 rfl rfl (Wp.skip (Fin.blockN (Fin.then (Wp.region (WL.val (v := .int .i64 ((k21 + 1 : Nat) : Int)) rfl (Yl.int (e := IntKind.i64.wrap (((k21 : Nat) : Int) + 1)) (Yl.kern rfl rfl (fun _ => by kernel_rfl)) (by rw [IntWalk.i64_in _ (by omega)]; omega)) (Mv rfl rfl (WL.nil ?_)))))))))))))))))))
  have H69 := H62.pick [] (by decide) rfl
  exact Fin.round (k21 + 1) ⟨rfl, rfl, rfl, rfl, rfl, trivial⟩ ⟨H69, (show (k21 + 1) ≤ l0.length ∧ op_CheckMap_L0 l0 l0 0 = op_CheckMap_L0 l0 (List.drop (k21 + 1) l0) (k21 + 1) from ⟨by omega, Eq.trans (hq27) (Eq.trans (congrArg (fun q => op_CheckMap_L0 l0 q k21) hd32) (Eq.trans (bnd_of hr44) (Eq.trans (if_pos h49) (Eq.trans (bnd_of hr56) (Eq.trans (if_pos h60) (if_neg h63))))))⟩)⟩ (by show l0.length - (k21 + 1) < l0.length - k21; omega)
  refine Wp.cond1 rfl (decide_eq_true h60) (Wp.seq (Wp.region (Mv rfl rfl (As rfl rfl (WL.nil (Fin.then (Wp.ret (Fin.thenR (Fin.blockR (Fin.thenR (Fin.thenR (Fin.blockR (Fin.thenR (Fin.res (res1 rfl rfl) ?_))))))))))))))
  have H70 := H59.pick [] (by decide) rfl
  have e : op_CheckMap l0 = r55 := lp_r (Eq.trans (hq27) (Eq.trans (congrArg (fun q => op_CheckMap_L0 l0 q k21) hd32) (Eq.trans (bnd_of hr44) (Eq.trans (if_pos h49) (Eq.trans (bnd_of hr56) (if_neg h60))))))
  obtain rfl := e.symm.trans hr
  exact ⟨rfl, H70⟩
  refine Wp.cond1 rfl (decide_eq_true h49) (Wp.seq (Wp.region (Mv rfl rfl (As rfl rfl (WL.nil (Fin.then (Wp.ret (Fin.thenR (Fin.blockR (Fin.thenR (Fin.thenR (Fin.blockR (Fin.thenR (Fin.res (res1 rfl rfl) ?_))))))))))))))
  have H71 := H47.pick [] (by decide) rfl
  have e : op_CheckMap l0 = r43 := lp_r (Eq.trans (hq27) (Eq.trans (congrArg (fun q => op_CheckMap_L0 l0 q k21) hd32) (Eq.trans (bnd_of hr44) (if_neg h49))))
  obtain rfl := e.symm.trans hr
  exact ⟨rfl, H71⟩
  refine Wp.cond0 rfl (decide_eq_false h29) (Wp.exit (Fin.thenX ?_))
  have hL72 : op_CheckMap_L0 l0 l0 0 = Sum.inl () := Eq.trans (hq27) (Eq.trans (congrArg (fun q => op_CheckMap_L0 l0 q k21) (drop_end (ls := l0) (i := k21) (by omega))) rfl)
  refine Fin.thenX (Fin.blockX (Fin.then (Wp.seq (Wp.region (As rfl rfl (WL.nil (Fin.then (Wp.ret (Fin.res (res1 rfl rfl) ?_)))))))))
  have H73 := H25.pick [] (by decide) rfl
  have e : op_CheckMap l0 = 0 := lp_l hL72
  obtain rfl := e.symm.trans hr
  exact ⟨rfl, H73⟩
end Go.Proofs.Ytcjjblkgbfaapaa
