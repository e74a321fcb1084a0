/-
  owner: operations cut.
-/
import Derived.Test.YtcjjblkgbfaapaaNa
namespace Go.Proofs.Ytcjjblkgbfaapaa
open Go.RowKit
set_option linter.unusedVariables false
set_option linter.unusedSectionVars false
set_option linter.unusedSimpArgs false

theorem El41 : Elem Try.prog 41 74 6 80 := elem_of (z := .agg #[.int .i64 0, .string ⟨List.toArray ([])⟩, .string ⟨List.toArray ([])⟩, .string ⟨List.toArray ([])⟩, .string ⟨List.toArray ([])⟩, .int .i64 0]) Try.underlying41 (by kernel_rfl) rfl (by decide)

structure OpD where
  xKind : Int
  xKey : List UInt8
  xValue : List UInt8
  xLo : List UInt8
  xHi : List UInt8
  xMost : Int

def OpD.cells (x : OpD) : List Value := [.int .i64 x.xKind, .string ⟨List.toArray x.xKey⟩, .string ⟨List.toArray x.xValue⟩, .string ⟨List.toArray x.xLo⟩, .string ⟨List.toArray x.xHi⟩, .int .i64 x.xMost]

theorem OpD.len : ∀ x, (OpD.cells x).length = 6 := fun _ => rfl

theorem OpD.one : ∀ x, ∀ u ∈ OpD.cells x, u.oneCell' = true := fun x u hu => by
  simp only [OpD.cells, List.mem_cons, List.not_mem_nil, or_false] at hu
  rcases hu with rfl | rfl | rfl | rfl | rfl | rfl <;> rfl

def OpD.Ok (w : World) (x : OpD) : Prop := ((-9223372036854775808) ≤ x.xKind ∧ x.xKind ≤ 9223372036854775807) ∧ (List.length x.xKey ≤ 140737488351232) ∧ (List.length x.xValue ≤ 140737488351232) ∧ (List.length x.xLo ≤ 140737488351232) ∧ (List.length x.xHi ≤ 140737488351232) ∧ ((-9223372036854775808) ≤ x.xMost ∧ x.xMost ≤ 9223372036854775807)

set_option maxRecDepth 100000 in
theorem opens_OpD (w : World) : Opens Try.prog w 74 6 OpD.cells (OpD.Ok w) :=
  (opens_struct (sz := 6) Try.underlying74 (by kernel_rfl) (OpensF.cons (i := 0) (off := 0) (s := 1) rfl rfl (opens_int (k := .i64) (lo := -9223372036854775808) (hi := 9223372036854775807) Try.underlying3 (by kernel_rfl) (by decide) (by decide)) (OpensF.cons (i := 1) (off := 1) (s := 1) rfl rfl (opens_string Try.underlying9 (by kernel_rfl)) (OpensF.cons (i := 2) (off := 2) (s := 1) rfl rfl (opens_string Try.underlying9 (by kernel_rfl)) (OpensF.cons (i := 3) (off := 3) (s := 1) rfl rfl (opens_string Try.underlying9 (by kernel_rfl)) (OpensF.cons (i := 4) (off := 4) (s := 1) rfl rfl (opens_string Try.underlying9 (by kernel_rfl)) (OpensF.cons (i := 5) (off := 5) (s := 1) rfl rfl (opens_int (k := .i64) (lo := -9223372036854775808) (hi := 9223372036854775807) Try.underlying3 (by kernel_rfl) (by decide) (by decide)) OpensF.nil))))))).map (fun p => ⟨p.1, p.2.1, p.2.2.1, p.2.2.2.1, p.2.2.2.2.1, p.2.2.2.2.2.1⟩) OpD.len (fun _ => rfl) fun _ h => ⟨h.1, h.2.1, h.2.2.1, h.2.2.2.1, h.2.2.2.2.1, h.2.2.2.2.2.1⟩

instance : Inhabited OpD := ⟨⟨default, default, default, default, default, default⟩⟩

set_option maxRecDepth 100000 in
theorem op_kindOf_1_ok (w : World) (D : Nat → Prop) (p0 : Int) (H : Own w D w []) (hp0 : p0 = 1) :
    Calls Try.prog 54 #[.int .i64 p0] w (Ret fun v w' => v = .tuple #[.agg #[.bool false, .func (.func 67) #[] #[], .func (.func 68) #[] #[], .func (.func 69) #[] #[], .func (.func 70) #[] #[]], .bool true] ∧ Own w D w' []) := by
  subst hp0
  refine Calls.body (args := [.int .i64 1]) Try.func54 rfl rfl rfl ?_
  show Wp _ _ _ [(0, .int .i64 1)] _ _
  refine Wp.seq (Wp.region ?_)
  refine WL.do rfl (Do.newP (cs := [.bool false, .nilFunc, .nilFunc, .nilFunc, .nilFunc]) (t := 95) H rfl rfl (fun _ => by kernel_rfl) ?_)
  intro g21 w22 H23
  replace H23 : Own w D w22 [blk g21 [.bool false, .nilFunc, .nilFunc, .nilFunc, .nilFunc] 95] := H23
  refine As rfl rfl (WL.nil (Fin.then (Wp.seq (Wp.region (Kn (v := .agg #[.bool false, .func (.func 67) #[] #[], .func (.func 68) #[] #[], .func (.func 69) #[] #[], .func (.func 70) #[] #[]]) rfl rfl rfl (fun _ => by kernel_rfl) (Kn (v := .agg #[.bool true, .func (.func 71) #[] #[], .func (.func 72) #[] #[], .func (.func 69) #[] #[], .func (.func 73) #[] #[]]) rfl rfl rfl (fun _ => by kernel_rfl) (Kn (v := .agg #[.bool true, .func (.func 67) #[] #[], .func (.func 68) #[] #[], .func (.func 69) #[] #[], .func (.func 74) #[] #[]]) rfl rfl rfl (fun _ => by kernel_rfl) (Kn (v := .agg #[.bool false, .func (.func 75) #[] #[], .func (.func 76) #[] #[], .func (.func 77) #[] #[], .func (.func 78) #[] #[]]) rfl rfl rfl (fun _ => by kernel_rfl) (Kn (v := .agg #[.bool true, .func (.func 79) #[] #[], .func (.func 80) #[] #[], .func (.func 77) #[] #[], .func (.func 81) #[] #[]]) rfl rfl rfl (fun _ => by kernel_rfl) (Kn (v := .agg #[.bool false, .nilFunc, .nilFunc, .nilFunc, .nilFunc, .bool false, .func (.func 67) #[] #[], .func (.func 68) #[] #[], .func (.func 69) #[] #[], .func (.func 70) #[] #[], .bool true, .func (.func 71) #[] #[], .func (.func 72) #[] #[], .func (.func 69) #[] #[], .func (.func 73) #[] #[], .bool true, .func (.func 67) #[] #[], .func (.func 68) #[] #[], .func (.func 69) #[] #[], .func (.func 74) #[] #[], .bool false, .func (.func 75) #[] #[], .func (.func 76) #[] #[], .func (.func 77) #[] #[], .func (.func 78) #[] #[], .bool true, .func (.func 79) #[] #[], .func (.func 80) #[] #[], .func (.func 77) #[] #[], .func (.func 81) #[] #[]]) rfl rfl rfl (fun _ => by kernel_rfl) ?_))))))))))
  refine WL.do rfl (Do.newP (cs := [.bool false, .nilFunc, .nilFunc, .nilFunc, .nilFunc, .bool false, .nilFunc, .nilFunc, .nilFunc, .nilFunc, .bool false, .nilFunc, .nilFunc, .nilFunc, .nilFunc, .bool false, .nilFunc, .nilFunc, .nilFunc, .nilFunc, .bool false, .nilFunc, .nilFunc, .nilFunc, .nilFunc, .bool false, .nilFunc, .nilFunc, .nilFunc, .nilFunc]) (t := 109) H23 rfl rfl (fun _ => by kernel_rfl) ?_)
  intro g24 w25 H26
  replace H26 : Own w D w25 [blk g24 [.bool false, .nilFunc, .nilFunc, .nilFunc, .nilFunc, .bool false, .nilFunc, .nilFunc, .nilFunc, .nilFunc, .bool false, .nilFunc, .nilFunc, .nilFunc, .nilFunc, .bool false, .nilFunc, .nilFunc, .nilFunc, .nilFunc, .bool false, .nilFunc, .nilFunc, .nilFunc, .nilFunc, .bool false, .nilFunc, .nilFunc, .nilFunc, .nilFunc] 109, blk g21 [.bool false, .nilFunc, .nilFunc, .nilFunc, .nilFunc] 95] := H26
  refine WL.do0 (Do.store (vs := [.bool false, .nilFunc, .nilFunc, .nilFunc, .nilFunc, .bool false, .func (.func 67) #[] #[], .func (.func 68) #[] #[], .func (.func 69) #[] #[], .func (.func 70) #[] #[], .bool true, .func (.func 71) #[] #[], .func (.func 72) #[] #[], .func (.func 69) #[] #[], .func (.func 73) #[] #[], .bool true, .func (.func 67) #[] #[], .func (.func 68) #[] #[], .func (.func 69) #[] #[], .func (.func 74) #[] #[], .bool false, .func (.func 75) #[] #[], .func (.func 76) #[] #[], .func (.func 77) #[] #[], .func (.func 78) #[] #[], .bool true, .func (.func 79) #[] #[], .func (.func 80) #[] #[], .func (.func 77) #[] #[], .func (.func 81) #[] #[]]) (o := 0) H26 rfl rfl Try.sizeOf109 rfl rfl rfl rfl ?_)
  intro w27 H28
  replace H28 : Own w D w27 [blk g24 [.bool false, .nilFunc, .nilFunc, .nilFunc, .nilFunc, .bool false, .func (.func 67) #[] #[], .func (.func 68) #[] #[], .func (.func 69) #[] #[], .func (.func 70) #[] #[], .bool true, .func (.func 71) #[] #[], .func (.func 72) #[] #[], .func (.func 69) #[] #[], .func (.func 73) #[] #[], .bool true, .func (.func 67) #[] #[], .func (.func 68) #[] #[], .func (.func 69) #[] #[], .func (.func 74) #[] #[], .bool false, .func (.func 75) #[] #[], .func (.func 76) #[] #[], .func (.func 77) #[] #[], .func (.func 78) #[] #[], .bool true, .func (.func 79) #[] #[], .func (.func 80) #[] #[], .func (.func 77) #[] #[], .func (.func 81) #[] #[]] 109, blk g21 [.bool false, .nilFunc, .nilFunc, .nilFunc, .nilFunc] 95] := H28
  refine WL.nil (Fin.then (Wp.seq (Wp.seq (Wp.region (Mv rfl rfl (Kn (v := .bool false) rfl rfl rfl (fun _ => by kernel_rfl) (Mv rfl rfl (WL.valG (v := .int .i64 1) rfl rfl rfl rfl (Yl.move rfl) (WL.valG (v := .bool false) rfl rfl rfl rfl (Yl.kern rfl rfl (fun _ => by kernel_rfl)) (WL.val (v := .bool false) rfl (Yl.pickF rfl rfl rfl) (WL.nil (Fin.then (Wp.cond0 rfl rfl (Wp.skip (Fin.then (Wp.seq (Wp.region (Mv rfl rfl (Kn (v := .pointer (some ⟨g24, 5, none⟩)) rfl rfl rfl (fun _ => by kernel_rfl) (WL.val (v := .agg #[.bool false, .func (.func 67) #[] #[], .func (.func 68) #[] #[], .func (.func 69) #[] #[], .func (.func 70) #[] #[]]) rfl (Yl.load rfl (Lds.agg (cs := [.bool false, .func (.func 67) #[] #[], .func (.func 68) #[] #[], .func (.func 69) #[] #[], .func (.func 70) #[] #[]]) Try.isAgg95 Try.sizeOf95 ((H28.cls (i := 0) rfl).lit (k := 5) (m := 5) rfl))) ?_))))))))))))))))))))
  have H29 : Own w D w27 [blk g21 [.bool false, .nilFunc, .nilFunc, .nilFunc, .nilFunc] 95, blk g24 [.bool false, .nilFunc, .nilFunc, .nilFunc, .nilFunc, .bool false, .func (.func 67) #[] #[], .func (.func 68) #[] #[], .func (.func 69) #[] #[], .func (.func 70) #[] #[], .bool true, .func (.func 71) #[] #[], .func (.func 72) #[] #[], .func (.func 69) #[] #[], .func (.func 73) #[] #[], .bool true, .func (.func 67) #[] #[], .func (.func 68) #[] #[], .func (.func 69) #[] #[], .func (.func 74) #[] #[], .bool false, .func (.func 75) #[] #[], .func (.func 76) #[] #[], .func (.func 77) #[] #[], .func (.func 78) #[] #[], .bool true, .func (.func 79) #[] #[], .func (.func 80) #[] #[], .func (.func 77) #[] #[], .func (.func 81) #[] #[]] 109] := H28.pick [1, 0] (by decide) rfl
  refine WL.do0 (Do.store (vs := [.bool false, .func (.func 67) #[] #[], .func (.func 68) #[] #[], .func (.func 69) #[] #[], .func (.func 70) #[] #[]]) (o := 0) H29 rfl rfl Try.sizeOf95 rfl rfl rfl rfl ?_)
  intro w30 H31
  replace H31 : Own w D w30 [blk g21 [.bool false, .func (.func 67) #[] #[], .func (.func 68) #[] #[], .func (.func 69) #[] #[], .func (.func 70) #[] #[]] 95, blk g24 [.bool false, .nilFunc, .nilFunc, .nilFunc, .nilFunc, .bool false, .func (.func 67) #[] #[], .func (.func 68) #[] #[], .func (.func 69) #[] #[], .func (.func 70) #[] #[], .bool true, .func (.func 71) #[] #[], .func (.func 72) #[] #[], .func (.func 69) #[] #[], .func (.func 73) #[] #[], .bool true, .func (.func 67) #[] #[], .func (.func 68) #[] #[], .func (.func 69) #[] #[], .func (.func 74) #[] #[], .bool false, .func (.func 75) #[] #[], .func (.func 76) #[] #[], .func (.func 77) #[] #[], .func (.func 78) #[] #[], .bool true, .func (.func 79) #[] #[], .func (.func 80) #[] #[], .func (.func 77) #[] #[], .func (.func 81) #[] #[]] 109] := H31
  refine As rfl rfl (WL.nil (Fin.then (Wp.ret (Fin.res (resN (vs := [.agg #[.bool false, .func (.func 67) #[] #[], .func (.func 68) #[] #[], .func (.func 69) #[] #[], .func (.func 70) #[] #[]], .bool true]) rfl (ResV.cell rfl (Lds.agg (cs := [.bool false, .func (.func 67) #[] #[], .func (.func 68) #[] #[], .func (.func 69) #[] #[], .func (.func 70) #[] #[]]) Try.isAgg95 Try.sizeOf95 ((H31.cls (i := 0) rfl).lit (k := 0) (m := 5) rfl)) (ResV.tmp rfl ResV.nil)) (Nat.le_of_ble_eq_true rfl)) ?_))))
  have H32 : Own w D w30 [] := H31.pick [] (by decide) rfl
  exact ⟨rfl, H32⟩

def op_ownKey (p0 : OpD) : OpD :=
  OpD.mk p0.xKind p0.xKey ([]) ([]) ([]) 0

set_option maxRecDepth 100000 in
theorem op_ownKey_ok (w : World) (D : Nat → Prop) (p0 : OpD) (r0 : OpD) (H : Own w D w [])  (hr : op_ownKey p0 = r0) :
    Calls Try.prog 67 #[.agg (OpD.cells p0).toArray] w (Ret fun v w' => v = .agg (OpD.cells r0).toArray ∧ Own w D w' []) := by
  refine Calls.body (args := [.agg (OpD.cells p0).toArray]) Try.func67 rfl rfl rfl ?_
  show Wp _ _ _ [(0, .agg (OpD.cells p0).toArray)] _ _
  refine Wp.seq (Wp.region ?_)
  refine WL.do rfl (Do.newP (cs := (OpD.cells p0)) (t := 74) H rfl rfl (fun _ => by kernel_rfl) ?_)
  intro g21 w22 H23
  replace H23 : Own w D w22 [blk g21 (OpD.cells p0) 74] := H23
  refine WL.do rfl (Do.newP (cs := [.int .i64 0, .string ⟨List.toArray ([])⟩, .string ⟨List.toArray ([])⟩, .string ⟨List.toArray ([])⟩, .string ⟨List.toArray ([])⟩, .int .i64 0]) (t := 74) H23 rfl rfl (fun _ => by kernel_rfl) ?_)
  intro g24 w25 H26
  replace H26 : Own w D w25 [blk g24 [.int .i64 0, .string ⟨List.toArray ([])⟩, .string ⟨List.toArray ([])⟩, .string ⟨List.toArray ([])⟩, .string ⟨List.toArray ([])⟩, .int .i64 0] 74, blk g21 (OpD.cells p0) 74] := H26
  refine WL.nil (Fin.then (Wp.seq (Wp.region (Kn (v := .pointer (some ⟨g21, 0, none⟩)) rfl rfl rfl (fun _ => by kernel_rfl) (WL.val (v := .int .i64 p0.xKind) rfl (Yl.load rfl (Lds.one Try.isAgg3 (Cls.of (H26.cls (i := 1) rfl) rfl))) (Kn (v := .pointer (some ⟨g21, 1, none⟩)) rfl rfl rfl (fun _ => by kernel_rfl) (WL.val (v := .string ⟨List.toArray p0.xKey⟩) rfl (Yl.load rfl (Lds.one Try.isAgg9 (Cls.of (H26.cls (i := 1) rfl) rfl))) (Kn (v := .agg #[.int .i64 p0.xKind, .string ⟨List.toArray p0.xKey⟩, .string ⟨List.toArray ([])⟩, .string ⟨List.toArray ([])⟩, .string ⟨List.toArray ([])⟩, .int .i64 0]) rfl rfl rfl (fun _ => by kernel_rfl) ?_))))))))
  refine WL.do0 (Do.store (vs := [.int .i64 p0.xKind, .string ⟨List.toArray p0.xKey⟩, .string ⟨List.toArray ([])⟩, .string ⟨List.toArray ([])⟩, .string ⟨List.toArray ([])⟩, .int .i64 0]) (o := 0) H26 rfl rfl Try.sizeOf74 rfl rfl rfl rfl ?_)
  intro w27 H28
  replace H28 : Own w D w27 [blk g24 [.int .i64 p0.xKind, .string ⟨List.toArray p0.xKey⟩, .string ⟨List.toArray ([])⟩, .string ⟨List.toArray ([])⟩, .string ⟨List.toArray ([])⟩, .int .i64 0] 74, blk g21 (OpD.cells p0) 74] := H28
  refine WL.nil (Fin.then (Wp.ret (Fin.res (resC rfl rfl (Lds.agg (cs := [.int .i64 p0.xKind, .string ⟨List.toArray p0.xKey⟩, .string ⟨List.toArray ([])⟩, .string ⟨List.toArray ([])⟩, .string ⟨List.toArray ([])⟩, .int .i64 0]) Try.isAgg74 Try.sizeOf74 ((H28.cls (i := 0) rfl).lit (k := 0) (m := 6) rfl))) ?_)))
  have H29 : Own w D w27 [] := H28.pick [] (by decide) rfl
  have e : op_ownKey p0 = OpD.mk p0.xKind p0.xKey ([]) ([]) ([]) 0 := rfl
  obtain rfl := e.symm.trans hr
  exact ⟨rfl, H29⟩

def op_checkKey (p0 : OpD) : Int :=
  bnd (span_CheckKey p0.xKey) fun yr29 => yr29

set_option maxRecDepth 100000 in
theorem op_checkKey_ok (w : World) (D : Nat → Prop) (p0 : OpD) (r0 : Int) (H : Own w D w [])  (hr : op_checkKey p0 = r0) :
    Calls Try.prog 68 #[.agg (OpD.cells p0).toArray] w (Ret fun v w' => v = .int .i64 r0 ∧ Own w D w' []) := by
  refine Calls.body (args := [.agg (OpD.cells p0).toArray]) Try.func68 rfl rfl rfl ?_
  show Wp _ _ _ [(0, .agg (OpD.cells p0).toArray)] _ _
  refine Wp.seq (Wp.region ?_)
  refine WL.do rfl (Do.newP (cs := (OpD.cells p0)) (t := 74) H rfl rfl (fun _ => by kernel_rfl) ?_)
  intro g21 w22 H23
  replace H23 : Own w D w22 [blk g21 (OpD.cells p0) 74] := H23
  refine As rfl rfl (WL.nil (Fin.then (Wp.seq (Wp.region (Kn (v := .pointer (some ⟨g21, 1, none⟩)) rfl rfl rfl (fun _ => by kernel_rfl) (WL.val (v := .string ⟨List.toArray p0.xKey⟩) rfl (Yl.load rfl (Lds.one Try.isAgg9 (Cls.of (H23.cls (i := 0) rfl) rfl))) ?_))))))
  obtain ⟨r29, hr30⟩ : ∃ q, span_CheckKey p0.xKey = q := ⟨_, rfl⟩
  obtain ⟨D24, HP25, ro26, bk27, rr28⟩ := Own.enter0 H23
  refine WL.do rfl (Do.call Try.call31 rfl (span_CheckKey_ok _ _ p0.xKey r29 HP25 hr30) ?_)
  rintro _ w31 ⟨rfl, HQ32, hk34, hk35⟩
  have H33 : Own w D w31 [blk g21 (OpD.cells p0) 74] := bk27 _ _ HQ32
  replace hk34 : ¬ (r29 = 0) ∨ (1 ≤ List.length p0.xKey ∧ List.length p0.xKey ≤ 12) := hk34
  replace hk35 : List.length p0.xKey < 1 ∨ List.length p0.xKey > 12 ∨ r29 = 0 := hk35
  refine As rfl rfl (WL.nil (Fin.then (Wp.ret (Fin.res (res1 rfl rfl) ?_))))
  have H36 : Own w D w31 [] := H33.pick [] (by decide) rfl
  have e : op_checkKey p0 = r29 := bnd_of hr30
  obtain rfl := e.symm.trans hr
  exact ⟨rfl, H36⟩

set_option maxRecDepth 100000 in
theorem op_kindOf_2_ok (w : World) (D : Nat → Prop) (p0 : Int) (H : Own w D w []) (hp0 : p0 = 2) :
    Calls Try.prog 54 #[.int .i64 p0] w (Ret fun v w' => v = .tuple #[.agg #[.bool true, .func (.func 71) #[] #[], .func (.func 72) #[] #[], .func (.func 69) #[] #[], .func (.func 73) #[] #[]], .bool true] ∧ Own w D w' []) := by
  subst hp0
  refine Calls.body (args := [.int .i64 2]) Try.func54 rfl rfl rfl ?_
  show Wp _ _ _ [(0, .int .i64 2)] _ _
  refine Wp.seq (Wp.region ?_)
  refine WL.do rfl (Do.newP (cs := [.bool false, .nilFunc, .nilFunc, .nilFunc, .nilFunc]) (t := 95) H rfl rfl (fun _ => by kernel_rfl) ?_)
  intro g21 w22 H23
  replace H23 : Own w D w22 [blk g21 [.bool false, .nilFunc, .nilFunc, .nilFunc, .nilFunc] 95] := H23
  refine As rfl rfl (WL.nil (Fin.then (Wp.seq (Wp.region (Kn (v := .agg #[.bool false, .func (.func 67) #[] #[], .func (.func 68) #[] #[], .func (.func 69) #[] #[], .func (.func 70) #[] #[]]) rfl rfl rfl (fun _ => by kernel_rfl) (Kn (v := .agg #[.bool true, .func (.func 71) #[] #[], .func (.func 72) #[] #[], .func (.func 69) #[] #[], .func (.func 73) #[] #[]]) rfl rfl rfl (fun _ => by kernel_rfl) (Kn (v := .agg #[.bool true, .func (.func 67) #[] #[], .func (.func 68) #[] #[], .func (.func 69) #[] #[], .func (.func 74) #[] #[]]) rfl rfl rfl (fun _ => by kernel_rfl) (Kn (v := .agg #[.bool false, .func (.func 75) #[] #[], .func (.func 76) #[] #[], .func (.func 77) #[] #[], .func (.func 78) #[] #[]]) rfl rfl rfl (fun _ => by kernel_rfl) (Kn (v := .agg #[.bool true, .func (.func 79) #[] #[], .func (.func 80) #[] #[], .func (.func 77) #[] #[], .func (.func 81) #[] #[]]) rfl rfl rfl (fun _ => by kernel_rfl) (Kn (v := .agg #[.bool false, .nilFunc, .nilFunc, .nilFunc, .nilFunc, .bool false, .func (.func 67) #[] #[], .func (.func 68) #[] #[], .func (.func 69) #[] #[], .func (.func 70) #[] #[], .bool true, .func (.func 71) #[] #[], .func (.func 72) #[] #[], .func (.func 69) #[] #[], .func (.func 73) #[] #[], .bool true, .func (.func 67) #[] #[], .func (.func 68) #[] #[], .func (.func 69) #[] #[], .func (.func 74) #[] #[], .bool false, .func (.func 75) #[] #[], .func (.func 76) #[] #[], .func (.func 77) #[] #[], .func (.func 78) #[] #[], .bool true, .func (.func 79) #[] #[], .func (.func 80) #[] #[], .func (.func 77) #[] #[], .func (.func 81) #[] #[]]) rfl rfl rfl (fun _ => by kernel_rfl) ?_))))))))))
  refine WL.do rfl (Do.newP (cs := [.bool false, .nilFunc, .nilFunc, .nilFunc, .nilFunc, .bool false, .nilFunc, .nilFunc, .nilFunc, .nilFunc, .bool false, .nilFunc, .nilFunc, .nilFunc, .nilFunc, .bool false, .nilFunc, .nilFunc, .nilFunc, .nilFunc, .bool false, .nilFunc, .nilFunc, .nilFunc, .nilFunc, .bool false, .nilFunc, .nilFunc, .nilFunc, .nilFunc]) (t := 109) H23 rfl rfl (fun _ => by kernel_rfl) ?_)
  intro g24 w25 H26
  replace H26 : Own w D w25 [blk g24 [.bool false, .nilFunc, .nilFunc, .nilFunc, .nilFunc, .bool false, .nilFunc, .nilFunc, .nilFunc, .nilFunc, .bool false, .nilFunc, .nilFunc, .nilFunc, .nilFunc, .bool false, .nilFunc, .nilFunc, .nilFunc, .nilFunc, .bool false, .nilFunc, .nilFunc, .nilFunc, .nilFunc, .bool false, .nilFunc, .nilFunc, .nilFunc, .nilFunc] 109, blk g21 [.bool false, .nilFunc, .nilFunc, .nilFunc, .nilFunc] 95] := H26
  refine WL.do0 (Do.store (vs := [.bool false, .nilFunc, .nilFunc, .nilFunc, .nilFunc, .bool false, .func (.func 67) #[] #[], .func (.func 68) #[] #[], .func (.func 69) #[] #[], .func (.func 70) #[] #[], .bool true, .func (.func 71) #[] #[], .func (.func 72) #[] #[], .func (.func 69) #[] #[], .func (.func 73) #[] #[], .bool true, .func (.func 67) #[] #[], .func (.func 68) #[] #[], .func (.func 69) #[] #[], .func (.func 74) #[] #[], .bool false, .func (.func 75) #[] #[], .func (.func 76) #[] #[], .func (.func 77) #[] #[], .func (.func 78) #[] #[], .bool true, .func (.func 79) #[] #[], .func (.func 80) #[] #[], .func (.func 77) #[] #[], .func (.func 81) #[] #[]]) (o := 0) H26 rfl rfl Try.sizeOf109 rfl rfl rfl rfl ?_)
  intro w27 H28
  replace H28 : Own w D w27 [blk g24 [.bool false, .nilFunc, .nilFunc, .nilFunc, .nilFunc, .bool false, .func (.func 67) #[] #[], .func (.func 68) #[] #[], .func (.func 69) #[] #[], .func (.func 70) #[] #[], .bool true, .func (.func 71) #[] #[], .func (.func 72) #[] #[], .func (.func 69) #[] #[], .func (.func 73) #[] #[], .bool true, .func (.func 67) #[] #[], .func (.func 68) #[] #[], .func (.func 69) #[] #[], .func (.func 74) #[] #[], .bool false, .func (.func 75) #[] #[], .func (.func 76) #[] #[], .func (.func 77) #[] #[], .func (.func 78) #[] #[], .bool true, .func (.func 79) #[] #[], .func (.func 80) #[] #[], .func (.func 77) #[] #[], .func (.func 81) #[] #[]] 109, blk g21 [.bool false, .nilFunc, .nilFunc, .nilFunc, .nilFunc] 95] := H28
  refine WL.nil (Fin.then (Wp.seq (Wp.seq (Wp.region (Mv rfl rfl (Kn (v := .bool false) rfl rfl rfl (fun _ => by kernel_rfl) (Mv rfl rfl (WL.valG (v := .int .i64 2) rfl rfl rfl rfl (Yl.move rfl) (WL.valG (v := .bool false) rfl rfl rfl rfl (Yl.kern rfl rfl (fun _ => by kernel_rfl)) (WL.val (v := .bool false) rfl (Yl.pickF rfl rfl rfl) (WL.nil (Fin.then (Wp.cond0 rfl rfl (Wp.skip (Fin.then (Wp.seq (Wp.region (Mv rfl rfl (Kn (v := .pointer (some ⟨g24, 10, none⟩)) rfl rfl rfl (fun _ => by kernel_rfl) (WL.val (v := .agg #[.bool true, .func (.func 71) #[] #[], .func (.func 72) #[] #[], .func (.func 69) #[] #[], .func (.func 73) #[] #[]]) rfl (Yl.load rfl (Lds.agg (cs := [.bool true, .func (.func 71) #[] #[], .func (.func 72) #[] #[], .func (.func 69) #[] #[], .func (.func 73) #[] #[]]) Try.isAgg95 Try.sizeOf95 ((H28.cls (i := 0) rfl).lit (k := 10) (m := 5) rfl))) ?_))))))))))))))))))))
  have H29 : Own w D w27 [blk g21 [.bool false, .nilFunc, .nilFunc, .nilFunc, .nilFunc] 95, blk g24 [.bool false, .nilFunc, .nilFunc, .nilFunc, .nilFunc, .bool false, .func (.func 67) #[] #[], .func (.func 68) #[] #[], .func (.func 69) #[] #[], .func (.func 70) #[] #[], .bool true, .func (.func 71) #[] #[], .func (.func 72) #[] #[], .func (.func 69) #[] #[], .func (.func 73) #[] #[], .bool true, .func (.func 67) #[] #[], .func (.func 68) #[] #[], .func (.func 69) #[] #[], .func (.func 74) #[] #[], .bool false, .func (.func 75) #[] #[], .func (.func 76) #[] #[], .func (.func 77) #[] #[], .func (.func 78) #[] #[], .bool true, .func (.func 79) #[] #[], .func (.func 80) #[] #[], .func (.func 77) #[] #[], .func (.func 81) #[] #[]] 109] := H28.pick [1, 0] (by decide) rfl
  refine WL.do0 (Do.store (vs := [.bool true, .func (.func 71) #[] #[], .func (.func 72) #[] #[], .func (.func 69) #[] #[], .func (.func 73) #[] #[]]) (o := 0) H29 rfl rfl Try.sizeOf95 rfl rfl rfl rfl ?_)
  intro w30 H31
  replace H31 : Own w D w30 [blk g21 [.bool true, .func (.func 71) #[] #[], .func (.func 72) #[] #[], .func (.func 69) #[] #[], .func (.func 73) #[] #[]] 95, blk g24 [.bool false, .nilFunc, .nilFunc, .nilFunc, .nilFunc, .bool false, .func (.func 67) #[] #[], .func (.func 68) #[] #[], .func (.func 69) #[] #[], .func (.func 70) #[] #[], .bool true, .func (.func 71) #[] #[], .func (.func 72) #[] #[], .func (.func 69) #[] #[], .func (.func 73) #[] #[], .bool true, .func (.func 67) #[] #[], .func (.func 68) #[] #[], .func (.func 69) #[] #[], .func (.func 74) #[] #[], .bool false, .func (.func 75) #[] #[], .func (.func 76) #[] #[], .func (.func 77) #[] #[], .func (.func 78) #[] #[], .bool true, .func (.func 79) #[] #[], .func (.func 80) #[] #[], .func (.func 77) #[] #[], .func (.func 81) #[] #[]] 109] := H31
  refine As rfl rfl (WL.nil (Fin.then (Wp.ret (Fin.res (resN (vs := [.agg #[.bool true, .func (.func 71) #[] #[], .func (.func 72) #[] #[], .func (.func 69) #[] #[], .func (.func 73) #[] #[]], .bool true]) rfl (ResV.cell rfl (Lds.agg (cs := [.bool true, .func (.func 71) #[] #[], .func (.func 72) #[] #[], .func (.func 69) #[] #[], .func (.func 73) #[] #[]]) Try.isAgg95 Try.sizeOf95 ((H31.cls (i := 0) rfl).lit (k := 0) (m := 5) rfl)) (ResV.tmp rfl ResV.nil)) (Nat.le_of_ble_eq_true rfl)) ?_))))
  have H32 : Own w D w30 [] := H31.pick [] (by decide) rfl
  exact ⟨rfl, H32⟩

def op_ownPair (p0 : OpD) : OpD :=
  OpD.mk p0.xKind p0.xKey p0.xValue ([]) ([]) 0

set_option maxRecDepth 100000 in
theorem op_ownPair_ok (w : World) (D : Nat → Prop) (p0 : OpD) (r0 : OpD) (H : Own w D w [])  (hr : op_ownPair p0 = r0) :
    Calls Try.prog 71 #[.agg (OpD.cells p0).toArray] w (Ret fun v w' => v = .agg (OpD.cells r0).toArray ∧ Own w D w' []) := by
  refine Calls.body (args := [.agg (OpD.cells p0).toArray]) Try.func71 rfl rfl rfl ?_
  show Wp _ _ _ [(0, .agg (OpD.cells p0).toArray)] _ _
  refine Wp.seq (Wp.region ?_)
  refine WL.do rfl (Do.newP (cs := (OpD.cells p0)) (t := 74) H rfl rfl (fun _ => by kernel_rfl) ?_)
  intro g21 w22 H23
  replace H23 : Own w D w22 [blk g21 (OpD.cells p0) 74] := H23
  refine WL.do rfl (Do.newP (cs := [.int .i64 0, .string ⟨List.toArray ([])⟩, .string ⟨List.toArray ([])⟩, .string ⟨List.toArray ([])⟩, .string ⟨List.toArray ([])⟩, .int .i64 0]) (t := 74) H23 rfl rfl (fun _ => by kernel_rfl) ?_)
  intro g24 w25 H26
  replace H26 : Own w D w25 [blk g24 [.int .i64 0, .string ⟨List.toArray ([])⟩, .string ⟨List.toArray ([])⟩, .string ⟨List.toArray ([])⟩, .string ⟨List.toArray ([])⟩, .int .i64 0] 74, blk g21 (OpD.cells p0) 74] := H26
  refine WL.nil (Fin.then (Wp.seq (Wp.region (Kn (v := .pointer (some ⟨g21, 0, none⟩)) rfl rfl rfl (fun _ => by kernel_rfl) (WL.val (v := .int .i64 p0.xKind) rfl (Yl.load rfl (Lds.one Try.isAgg3 (Cls.of (H26.cls (i := 1) rfl) rfl))) (Kn (v := .pointer (some ⟨g21, 1, none⟩)) rfl rfl rfl (fun _ => by kernel_rfl) (WL.val (v := .string ⟨List.toArray p0.xKey⟩) rfl (Yl.load rfl (Lds.one Try.isAgg9 (Cls.of (H26.cls (i := 1) rfl) rfl))) (Kn (v := .pointer (some ⟨g21, 2, none⟩)) rfl rfl rfl (fun _ => by kernel_rfl) (WL.val (v := .string ⟨List.toArray p0.xValue⟩) rfl (Yl.load rfl (Lds.one Try.isAgg9 (Cls.of (H26.cls (i := 1) rfl) rfl))) (Kn (v := .agg #[.int .i64 p0.xKind, .string ⟨List.toArray p0.xKey⟩, .string ⟨List.toArray p0.xValue⟩, .string ⟨List.toArray ([])⟩, .string ⟨List.toArray ([])⟩, .int .i64 0]) rfl rfl rfl (fun _ => by kernel_rfl) ?_))))))))))
  refine WL.do0 (Do.store (vs := [.int .i64 p0.xKind, .string ⟨List.toArray p0.xKey⟩, .string ⟨List.toArray p0.xValue⟩, .string ⟨List.toArray ([])⟩, .string ⟨List.toArray ([])⟩, .int .i64 0]) (o := 0) H26 rfl rfl Try.sizeOf74 rfl rfl rfl rfl ?_)
  intro w27 H28
  replace H28 : Own w D w27 [blk g24 [.int .i64 p0.xKind, .string ⟨List.toArray p0.xKey⟩, .string ⟨List.toArray p0.xValue⟩, .string ⟨List.toArray ([])⟩, .string ⟨List.toArray ([])⟩, .int .i64 0] 74, blk g21 (OpD.cells p0) 74] := H28
  refine WL.nil (Fin.then (Wp.ret (Fin.res (resC rfl rfl (Lds.agg (cs := [.int .i64 p0.xKind, .string ⟨List.toArray p0.xKey⟩, .string ⟨List.toArray p0.xValue⟩, .string ⟨List.toArray ([])⟩, .string ⟨List.toArray ([])⟩, .int .i64 0]) Try.isAgg74 Try.sizeOf74 ((H28.cls (i := 0) rfl).lit (k := 0) (m := 6) rfl))) ?_)))
  have H29 : Own w D w27 [] := H28.pick [] (by decide) rfl
  have e : op_ownPair p0 = OpD.mk p0.xKind p0.xKey p0.xValue ([]) ([]) 0 := rfl
  obtain rfl := e.symm.trans hr
  exact ⟨rfl, H29⟩

def op_checkValue (p0 : List UInt8) : Int :=
  if ((List.length p0 : Nat) : Int) > 16 then 2 else 0

set_option maxRecDepth 100000 in
theorem op_checkValue_ok (w : World) (D : Nat → Prop) (p0 : List UInt8) (r0 : Int) (H : Own w D w [])  (hr : op_checkValue p0 = r0) :
    Calls Try.prog 65 #[.string ⟨List.toArray p0⟩] w (Ret fun v w' => v = .int .i64 r0 ∧ Own w D w' []) := by
  refine Calls.body (args := [.string ⟨List.toArray p0⟩]) Try.func65 rfl rfl rfl ?_
  show Wp _ _ _ [(0, .string ⟨List.toArray p0⟩)] _ _
  refine Wp.seq (Wp.region (As rfl rfl (WL.nil (Fin.then (Wp.seq (Wp.seq (Wp.region (Mv rfl rfl (Kn (v := .int .i64 ((List.length p0 : Nat) : Int)) rfl rfl rfl (fun _ => by kernel_rfl) (Kn (v := .bool (decide (((List.length p0 : Nat) : Int) > 16))) rfl rfl rfl (fun _ => by kernel_rfl) (WL.nil (Fin.then ?_))))))))))))
  by_cases h21 : ((List.length p0 : Nat) : Int) > 16
  refine Wp.cond1 rfl (decide_eq_true h21) (Wp.seq (Wp.region (As rfl rfl (WL.nil (Fin.then (Wp.ret (Fin.thenR (Fin.res (res1 rfl rfl) ?_))))))))
  have H22 : Own w D w [] := H.pick [] (by decide) rfl
  have e : op_checkValue p0 = 2 := if_pos h21
  obtain rfl := e.symm.trans hr
  exact ⟨rfl, H22⟩
  refine Wp.cond0 rfl (decide_eq_false h21) (Wp.skip (Fin.then (Wp.seq (Wp.region (As rfl rfl (WL.nil (Fin.then (Wp.ret (Fin.res (res1 rfl rfl) ?_)))))))))
  have H23 : Own w D w [] := H.pick [] (by decide) rfl
  have e : op_checkValue p0 = 0 := if_neg h21
  obtain rfl := e.symm.trans hr
  exact ⟨rfl, H23⟩

def op_checkPair (p0 : OpD) : Int :=
  bnd (span_CheckKey p0.xKey) fun yr29 => if yr29 = 0 then bnd (op_checkValue p0.xValue) fun yr42 => yr42 else yr29

set_option maxRecDepth 100000 in
theorem op_checkPair_ok (w : World) (D : Nat → Prop) (p0 : OpD) (r0 : Int) (H : Own w D w [])  (hr : op_checkPair p0 = r0) :
    Calls Try.prog 72 #[.agg (OpD.cells p0).toArray] w (Ret fun v w' => v = .int .i64 r0 ∧ Own w D w' []) := by
  refine Calls.body (args := [.agg (OpD.cells p0).toArray]) Try.func72 rfl rfl rfl ?_
  show Wp _ _ _ [(0, .agg (OpD.cells p0).toArray)] _ _
  refine Wp.seq (Wp.region ?_)
  refine WL.do rfl (Do.newP (cs := (OpD.cells p0)) (t := 74) H rfl rfl (fun _ => by kernel_rfl) ?_)
  intro g21 w22 H23
  replace H23 : Own w D w22 [blk g21 (OpD.cells p0) 74] := H23
  refine As rfl rfl (WL.nil (Fin.then (Wp.seq (Wp.seq (Wp.region (Kn (v := .pointer (some ⟨g21, 1, none⟩)) rfl rfl rfl (fun _ => by kernel_rfl) (WL.val (v := .string ⟨List.toArray p0.xKey⟩) rfl (Yl.load rfl (Lds.one Try.isAgg9 (Cls.of (H23.cls (i := 0) rfl) rfl))) ?_)))))))
  obtain ⟨r29, hr30⟩ : ∃ q, span_CheckKey p0.xKey = q := ⟨_, rfl⟩
  obtain ⟨D24, HP25, ro26, bk27, rr28⟩ := Own.enter0 H23
  refine WL.do rfl (Do.call Try.call31 rfl (span_CheckKey_ok _ _ p0.xKey r29 HP25 hr30) ?_)
  rintro _ w31 ⟨rfl, HQ32, hk34, hk35⟩
  have H33 : Own w D w31 [blk g21 (OpD.cells p0) 74] := bk27 _ _ HQ32
  replace hk34 : ¬ (r29 = 0) ∨ (1 ≤ List.length p0.xKey ∧ List.length p0.xKey ≤ 12) := hk34
  replace hk35 : List.length p0.xKey < 1 ∨ List.length p0.xKey > 12 ∨ r29 = 0 := hk35
  refine As rfl rfl (WL.nil (Fin.then (Wp.seq (Wp.region (Mv rfl rfl (WL.val (v := .bool (decide (¬ (r29 = 0)))) rfl (Yl.bool (e := !(decide (r29 = 0))) (Yl.kern rfl rfl (fun _ => by kernel_rfl)) decide_not.symm) (WL.nil (Fin.then ?_))))))))
  by_cases h36 : r29 = 0
  refine Wp.cond0 rfl (decide_eq_false (not_not_intro h36)) (Wp.skip (Fin.then (Wp.seq (Wp.region (Kn (v := .pointer (some ⟨g21, 2, none⟩)) rfl rfl rfl (fun _ => by kernel_rfl) (WL.val (v := .string ⟨List.toArray p0.xValue⟩) rfl (Yl.load rfl (Lds.one Try.isAgg9 (Cls.of (H33.cls (i := 0) rfl) rfl))) ?_))))))
  obtain ⟨r42, hr43⟩ : ∃ q, op_checkValue p0.xValue = q := ⟨_, rfl⟩
  obtain ⟨D37, HP38, ro39, bk40, rr41⟩ := Own.enter0 H33
  refine WL.do rfl (Do.call Try.call65 rfl (op_checkValue_ok _ _ p0.xValue r42 HP38 hr43) ?_)
  rintro _ w44 ⟨rfl, HQ45⟩
  have H46 : Own w D w44 [blk g21 (OpD.cells p0) 74] := bk40 _ _ HQ45
  refine As rfl rfl (WL.nil (Fin.then (Wp.ret (Fin.res (res1 rfl rfl) ?_))))
  have H47 : Own w D w44 [] := H46.pick [] (by decide) rfl
  have e : op_checkPair p0 = r42 := Eq.trans (bnd_of hr30) (Eq.trans (if_pos h36) (bnd_of hr43))
  obtain rfl := e.symm.trans hr
  exact ⟨rfl, H47⟩
  refine Wp.cond1 rfl (decide_eq_true h36) (Wp.seq (Wp.region (Mv rfl rfl (As rfl rfl (WL.nil (Fin.then (Wp.ret (Fin.thenR (Fin.res (res1 rfl rfl) ?_)))))))))
  have H48 : Own w D w31 [] := H33.pick [] (by decide) rfl
  have e : op_checkPair p0 = r29 := Eq.trans (bnd_of hr30) (if_neg h36)
  obtain rfl := e.symm.trans hr
  exact ⟨rfl, H48⟩

set_option maxRecDepth 100000 in
theorem op_kindOf_3_ok (w : World) (D : Nat → Prop) (p0 : Int) (H : Own w D w []) (hp0 : p0 = 3) :
    Calls Try.prog 54 #[.int .i64 p0] w (Ret fun v w' => v = .tuple #[.agg #[.bool true, .func (.func 67) #[] #[], .func (.func 68) #[] #[], .func (.func 69) #[] #[], .func (.func 74) #[] #[]], .bool true] ∧ Own w D w' []) := by
  subst hp0
  refine Calls.body (args := [.int .i64 3]) Try.func54 rfl rfl rfl ?_
  show Wp _ _ _ [(0, .int .i64 3)] _ _
  refine Wp.seq (Wp.region ?_)
  refine WL.do rfl (Do.newP (cs := [.bool false, .nilFunc, .nilFunc, .nilFunc, .nilFunc]) (t := 95) H rfl rfl (fun _ => by kernel_rfl) ?_)
  intro g21 w22 H23
  replace H23 : Own w D w22 [blk g21 [.bool false, .nilFunc, .nilFunc, .nilFunc, .nilFunc] 95] := H23
  refine As rfl rfl (WL.nil (Fin.then (Wp.seq (Wp.region (Kn (v := .agg #[.bool false, .func (.func 67) #[] #[], .func (.func 68) #[] #[], .func (.func 69) #[] #[], .func (.func 70) #[] #[]]) rfl rfl rfl (fun _ => by kernel_rfl) (Kn (v := .agg #[.bool true, .func (.func 71) #[] #[], .func (.func 72) #[] #[], .func (.func 69) #[] #[], .func (.func 73) #[] #[]]) rfl rfl rfl (fun _ => by kernel_rfl) (Kn (v := .agg #[.bool true, .func (.func 67) #[] #[], .func (.func 68) #[] #[], .func (.func 69) #[] #[], .func (.func 74) #[] #[]]) rfl rfl rfl (fun _ => by kernel_rfl) (Kn (v := .agg #[.bool false, .func (.func 75) #[] #[], .func (.func 76) #[] #[], .func (.func 77) #[] #[], .func (.func 78) #[] #[]]) rfl rfl rfl (fun _ => by kernel_rfl) (Kn (v := .agg #[.bool true, .func (.func 79) #[] #[], .func (.func 80) #[] #[], .func (.func 77) #[] #[], .func (.func 81) #[] #[]]) rfl rfl rfl (fun _ => by kernel_rfl) (Kn (v := .agg #[.bool false, .nilFunc, .nilFunc, .nilFunc, .nilFunc, .bool false, .func (.func 67) #[] #[], .func (.func 68) #[] #[], .func (.func 69) #[] #[], .func (.func 70) #[] #[], .bool true, .func (.func 71) #[] #[], .func (.func 72) #[] #[], .func (.func 69) #[] #[], .func (.func 73) #[] #[], .bool true, .func (.func 67) #[] #[], .func (.func 68) #[] #[], .func (.func 69) #[] #[], .func (.func 74) #[] #[], .bool false, .func (.func 75) #[] #[], .func (.func 76) #[] #[], .func (.func 77) #[] #[], .func (.func 78) #[] #[], .bool true, .func (.func 79) #[] #[], .func (.func 80) #[] #[], .func (.func 77) #[] #[], .func (.func 81) #[] #[]]) rfl rfl rfl (fun _ => by kernel_rfl) ?_))))))))))
  refine WL.do rfl (Do.newP (cs := [.bool false, .nilFunc, .nilFunc, .nilFunc, .nilFunc, .bool false, .nilFunc, .nilFunc, .nilFunc, .nilFunc, .bool false, .nilFunc, .nilFunc, .nilFunc, .nilFunc, .bool false, .nilFunc, .nilFunc, .nilFunc, .nilFunc, .bool false, .nilFunc, .nilFunc, .nilFunc, .nilFunc, .bool false, .nilFunc, .nilFunc, .nilFunc, .nilFunc]) (t := 109) H23 rfl rfl (fun _ => by kernel_rfl) ?_)
  intro g24 w25 H26
  replace H26 : Own w D w25 [blk g24 [.bool false, .nilFunc, .nilFunc, .nilFunc, .nilFunc, .bool false, .nilFunc, .nilFunc, .nilFunc, .nilFunc, .bool false, .nilFunc, .nilFunc, .nilFunc, .nilFunc, .bool false, .nilFunc, .nilFunc, .nilFunc, .nilFunc, .bool false, .nilFunc, .nilFunc, .nilFunc, .nilFunc, .bool false, .nilFunc, .nilFunc, .nilFunc, .nilFunc] 109, blk g21 [.bool false, .nilFunc, .nilFunc, .nilFunc, .nilFunc] 95] := H26
  refine WL.do0 (Do.store (vs := [.bool false, .nilFunc, .nilFunc, .nilFunc, .nilFunc, .bool false, .func (.func 67) #[] #[], .func (.func 68) #[] #[], .func (.func 69) #[] #[], .func (.func 70) #[] #[], .bool true, .func (.func 71) #[] #[], .func (.func 72) #[] #[], .func (.func 69) #[] #[], .func (.func 73) #[] #[], .bool true, .func (.func 67) #[] #[], .func (.func 68) #[] #[], .func (.func 69) #[] #[], .func (.func 74) #[] #[], .bool false, .func (.func 75) #[] #[], .func (.func 76) #[] #[], .func (.func 77) #[] #[], .func (.func 78) #[] #[], .bool true, .func (.func 79) #[] #[], .func (.func 80) #[] #[], .func (.func 77) #[] #[], .func (.func 81) #[] #[]]) (o := 0) H26 rfl rfl Try.sizeOf109 rfl rfl rfl rfl ?_)
  intro w27 H28
  replace H28 : Own w D w27 [blk g24 [.bool false, .nilFunc, .nilFunc, .nilFunc, .nilFunc, .bool false, .func (.func 67) #[] #[], .func (.func 68) #[] #[], .func (.func 69) #[] #[], .func (.func 70) #[] #[], .bool true, .func (.func 71) #[] #[], .func (.func 72) #[] #[], .func (.func 69) #[] #[], .func (.func 73) #[] #[], .bool true, .func (.func 67) #[] #[], .func (.func 68) #[] #[], .func (.func 69) #[] #[], .func (.func 74) #[] #[], .bool false, .func (.func 75) #[] #[], .func (.func 76) #[] #[], .func (.func 77) #[] #[], .func (.func 78) #[] #[], .bool true, .func (.func 79) #[] #[], .func (.func 80) #[] #[], .func (.func 77) #[] #[], .func (.func 81) #[] #[]] 109, blk g21 [.bool false, .nilFunc, .nilFunc, .nilFunc, .nilFunc] 95] := H28
  refine WL.nil (Fin.then (Wp.seq (Wp.seq (Wp.region (Mv rfl rfl (Kn (v := .bool false) rfl rfl rfl (fun _ => by kernel_rfl) (Mv rfl rfl (WL.valG (v := .int .i64 3) rfl rfl rfl rfl (Yl.move rfl) (WL.valG (v := .bool false) rfl rfl rfl rfl (Yl.kern rfl rfl (fun _ => by kernel_rfl)) (WL.val (v := .bool false) rfl (Yl.pickF rfl rfl rfl) (WL.nil (Fin.then (Wp.cond0 rfl rfl (Wp.skip (Fin.then (Wp.seq (Wp.region (Mv rfl rfl (Kn (v := .pointer (some ⟨g24, 15, none⟩)) rfl rfl rfl (fun _ => by kernel_rfl) (WL.val (v := .agg #[.bool true, .func (.func 67) #[] #[], .func (.func 68) #[] #[], .func (.func 69) #[] #[], .func (.func 74) #[] #[]]) rfl (Yl.load rfl (Lds.agg (cs := [.bool true, .func (.func 67) #[] #[], .func (.func 68) #[] #[], .func (.func 69) #[] #[], .func (.func 74) #[] #[]]) Try.isAgg95 Try.sizeOf95 ((H28.cls (i := 0) rfl).lit (k := 15) (m := 5) rfl))) ?_))))))))))))))))))))
  have H29 : Own w D w27 [blk g21 [.bool false, .nilFunc, .nilFunc, .nilFunc, .nilFunc] 95, blk g24 [.bool false, .nilFunc, .nilFunc, .nilFunc, .nilFunc, .bool false, .func (.func 67) #[] #[], .func (.func 68) #[] #[], .func (.func 69) #[] #[], .func (.func 70) #[] #[], .bool true, .func (.func 71) #[] #[], .func (.func 72) #[] #[], .func (.func 69) #[] #[], .func (.func 73) #[] #[], .bool true, .func (.func 67) #[] #[], .func (.func 68) #[] #[], .func (.func 69) #[] #[], .func (.func 74) #[] #[], .bool false, .func (.func 75) #[] #[], .func (.func 76) #[] #[], .func (.func 77) #[] #[], .func (.func 78) #[] #[], .bool true, .func (.func 79) #[] #[], .func (.func 80) #[] #[], .func (.func 77) #[] #[], .func (.func 81) #[] #[]] 109] := H28.pick [1, 0] (by decide) rfl
  refine WL.do0 (Do.store (vs := [.bool true, .func (.func 67) #[] #[], .func (.func 68) #[] #[], .func (.func 69) #[] #[], .func (.func 74) #[] #[]]) (o := 0) H29 rfl rfl Try.sizeOf95 rfl rfl rfl rfl ?_)
  intro w30 H31
  replace H31 : Own w D w30 [blk g21 [.bool true, .func (.func 67) #[] #[], .func (.func 68) #[] #[], .func (.func 69) #[] #[], .func (.func 74) #[] #[]] 95, blk g24 [.bool false, .nilFunc, .nilFunc, .nilFunc, .nilFunc, .bool false, .func (.func 67) #[] #[], .func (.func 68) #[] #[], .func (.func 69) #[] #[], .func (.func 70) #[] #[], .bool true, .func (.func 71) #[] #[], .func (.func 72) #[] #[], .func (.func 69) #[] #[], .func (.func 73) #[] #[], .bool true, .func (.func 67) #[] #[], .func (.func 68) #[] #[], .func (.func 69) #[] #[], .func (.func 74) #[] #[], .bool false, .func (.func 75) #[] #[], .func (.func 76) #[] #[], .func (.func 77) #[] #[], .func (.func 78) #[] #[], .bool true, .func (.func 79) #[] #[], .func (.func 80) #[] #[], .func (.func 77) #[] #[], .func (.func 81) #[] #[]] 109] := H31
  refine As rfl rfl (WL.nil (Fin.then (Wp.ret (Fin.res (resN (vs := [.agg #[.bool true, .func (.func 67) #[] #[], .func (.func 68) #[] #[], .func (.func 69) #[] #[], .func (.func 74) #[] #[]], .bool true]) rfl (ResV.cell rfl (Lds.agg (cs := [.bool true, .func (.func 67) #[] #[], .func (.func 68) #[] #[], .func (.func 69) #[] #[], .func (.func 74) #[] #[]]) Try.isAgg95 Try.sizeOf95 ((H31.cls (i := 0) rfl).lit (k := 0) (m := 5) rfl)) (ResV.tmp rfl ResV.nil)) (Nat.le_of_ble_eq_true rfl)) ?_))))
  have H32 : Own w D w30 [] := H31.pick [] (by decide) rfl
  exact ⟨rfl, H32⟩

set_option maxRecDepth 100000 in
theorem op_kindOf_4_ok (w : World) (D : Nat → Prop) (p0 : Int) (H : Own w D w []) (hp0 : p0 = 4) :
    Calls Try.prog 54 #[.int .i64 p0] w (Ret fun v w' => v = .tuple #[.agg #[.bool false, .func (.func 75) #[] #[], .func (.func 76) #[] #[], .func (.func 77) #[] #[], .func (.func 78) #[] #[]], .bool true] ∧ Own w D w' []) := by
  subst hp0
  refine Calls.body (args := [.int .i64 4]) Try.func54 rfl rfl rfl ?_
  show Wp _ _ _ [(0, .int .i64 4)] _ _
  refine Wp.seq (Wp.region ?_)
  refine WL.do rfl (Do.newP (cs := [.bool false, .nilFunc, .nilFunc, .nilFunc, .nilFunc]) (t := 95) H rfl rfl (fun _ => by kernel_rfl) ?_)
  intro g21 w22 H23
  replace H23 : Own w D w22 [blk g21 [.bool false, .nilFunc, .nilFunc, .nilFunc, .nilFunc] 95] := H23
  refine As rfl rfl (WL.nil (Fin.then (Wp.seq (Wp.region (Kn (v := .agg #[.bool false, .func (.func 67) #[] #[], .func (.func 68) #[] #[], .func (.func 69) #[] #[], .func (.func 70) #[] #[]]) rfl rfl rfl (fun _ => by kernel_rfl) (Kn (v := .agg #[.bool true, .func (.func 71) #[] #[], .func (.func 72) #[] #[], .func (.func 69) #[] #[], .func (.func 73) #[] #[]]) rfl rfl rfl (fun _ => by kernel_rfl) (Kn (v := .agg #[.bool true, .func (.func 67) #[] #[], .func (.func 68) #[] #[], .func (.func 69) #[] #[], .func (.func 74) #[] #[]]) rfl rfl rfl (fun _ => by kernel_rfl) (Kn (v := .agg #[.bool false, .func (.func 75) #[] #[], .func (.func 76) #[] #[], .func (.func 77) #[] #[], .func (.func 78) #[] #[]]) rfl rfl rfl (fun _ => by kernel_rfl) (Kn (v := .agg #[.bool true, .func (.func 79) #[] #[], .func (.func 80) #[] #[], .func (.func 77) #[] #[], .func (.func 81) #[] #[]]) rfl rfl rfl (fun _ => by kernel_rfl) (Kn (v := .agg #[.bool false, .nilFunc, .nilFunc, .nilFunc, .nilFunc, .bool false, .func (.func 67) #[] #[], .func (.func 68) #[] #[], .func (.func 69) #[] #[], .func (.func 70) #[] #[], .bool true, .func (.func 71) #[] #[], .func (.func 72) #[] #[], .func (.func 69) #[] #[], .func (.func 73) #[] #[], .bool true, .func (.func 67) #[] #[], .func (.func 68) #[] #[], .func (.func 69) #[] #[], .func (.func 74) #[] #[], .bool false, .func (.func 75) #[] #[], .func (.func 76) #[] #[], .func (.func 77) #[] #[], .func (.func 78) #[] #[], .bool true, .func (.func 79) #[] #[], .func (.func 80) #[] #[], .func (.func 77) #[] #[], .func (.func 81) #[] #[]]) rfl rfl rfl (fun _ => by kernel_rfl) ?_))))))))))
  refine WL.do rfl (Do.newP (cs := [.bool false, .nilFunc, .nilFunc, .nilFunc, .nilFunc, .bool false, .nilFunc, .nilFunc, .nilFunc, .nilFunc, .bool false, .nilFunc, .nilFunc, .nilFunc, .nilFunc, .bool false, .nilFunc, .nilFunc, .nilFunc, .nilFunc, .bool false, .nilFunc, .nilFunc, .nilFunc, .nilFunc, .bool false, .nilFunc, .nilFunc, .nilFunc, .nilFunc]) (t := 109) H23 rfl rfl (fun _ => by kernel_rfl) ?_)
  intro g24 w25 H26
  replace H26 : Own w D w25 [blk g24 [.bool false, .nilFunc, .nilFunc, .nilFunc, .nilFunc, .bool false, .nilFunc, .nilFunc, .nilFunc, .nilFunc, .bool false, .nilFunc, .nilFunc, .nilFunc, .nilFunc, .bool false, .nilFunc, .nilFunc, .nilFunc, .nilFunc, .bool false, .nilFunc, .nilFunc, .nilFunc, .nilFunc, .bool false, .nilFunc, .nilFunc, .nilFunc, .nilFunc] 109, blk g21 [.bool false, .nilFunc, .nilFunc, .nilFunc, .nilFunc] 95] := H26
  refine WL.do0 (Do.store (vs := [.bool false, .nilFunc, .nilFunc, .nilFunc, .nilFunc, .bool false, .func (.func 67) #[] #[], .func (.func 68) #[] #[], .func (.func 69) #[] #[], .func (.func 70) #[] #[], .bool true, .func (.func 71) #[] #[], .func (.func 72) #[] #[], .func (.func 69) #[] #[], .func (.func 73) #[] #[], .bool true, .func (.func 67) #[] #[], .func (.func 68) #[] #[], .func (.func 69) #[] #[], .func (.func 74) #[] #[], .bool false, .func (.func 75) #[] #[], .func (.func 76) #[] #[], .func (.func 77) #[] #[], .func (.func 78) #[] #[], .bool true, .func (.func 79) #[] #[], .func (.func 80) #[] #[], .func (.func 77) #[] #[], .func (.func 81) #[] #[]]) (o := 0) H26 rfl rfl Try.sizeOf109 rfl rfl rfl rfl ?_)
  intro w27 H28
  replace H28 : Own w D w27 [blk g24 [.bool false, .nilFunc, .nilFunc, .nilFunc, .nilFunc, .bool false, .func (.func 67) #[] #[], .func (.func 68) #[] #[], .func (.func 69) #[] #[], .func (.func 70) #[] #[], .bool true, .func (.func 71) #[] #[], .func (.func 72) #[] #[], .func (.func 69) #[] #[], .func (.func 73) #[] #[], .bool true, .func (.func 67) #[] #[], .func (.func 68) #[] #[], .func (.func 69) #[] #[], .func (.func 74) #[] #[], .bool false, .func (.func 75) #[] #[], .func (.func 76) #[] #[], .func (.func 77) #[] #[], .func (.func 78) #[] #[], .bool true, .func (.func 79) #[] #[], .func (.func 80) #[] #[], .func (.func 77) #[] #[], .func (.func 81) #[] #[]] 109, blk g21 [.bool false, .nilFunc, .nilFunc, .nilFunc, .nilFunc] 95] := H28
  refine WL.nil (Fin.then (Wp.seq (Wp.seq (Wp.region (Mv rfl rfl (Kn (v := .bool false) rfl rfl rfl (fun _ => by kernel_rfl) (Mv rfl rfl (WL.valG (v := .int .i64 4) rfl rfl rfl rfl (Yl.move rfl) (WL.valG (v := .bool false) rfl rfl rfl rfl (Yl.kern rfl rfl (fun _ => by kernel_rfl)) (WL.val (v := .bool false) rfl (Yl.pickF rfl rfl rfl) (WL.nil (Fin.then (Wp.cond0 rfl rfl (Wp.skip (Fin.then (Wp.seq (Wp.region (Mv rfl rfl (Kn (v := .pointer (some ⟨g24, 20, none⟩)) rfl rfl rfl (fun _ => by kernel_rfl) (WL.val (v := .agg #[.bool false, .func (.func 75) #[] #[], .func (.func 76) #[] #[], .func (.func 77) #[] #[], .func (.func 78) #[] #[]]) rfl (Yl.load rfl (Lds.agg (cs := [.bool false, .func (.func 75) #[] #[], .func (.func 76) #[] #[], .func (.func 77) #[] #[], .func (.func 78) #[] #[]]) Try.isAgg95 Try.sizeOf95 ((H28.cls (i := 0) rfl).lit (k := 20) (m := 5) rfl))) ?_))))))))))))))))))))
  have H29 : Own w D w27 [blk g21 [.bool false, .nilFunc, .nilFunc, .nilFunc, .nilFunc] 95, blk g24 [.bool false, .nilFunc, .nilFunc, .nilFunc, .nilFunc, .bool false, .func (.func 67) #[] #[], .func (.func 68) #[] #[], .func (.func 69) #[] #[], .func (.func 70) #[] #[], .bool true, .func (.func 71) #[] #[], .func (.func 72) #[] #[], .func (.func 69) #[] #[], .func (.func 73) #[] #[], .bool true, .func (.func 67) #[] #[], .func (.func 68) #[] #[], .func (.func 69) #[] #[], .func (.func 74) #[] #[], .bool false, .func (.func 75) #[] #[], .func (.func 76) #[] #[], .func (.func 77) #[] #[], .func (.func 78) #[] #[], .bool true, .func (.func 79) #[] #[], .func (.func 80) #[] #[], .func (.func 77) #[] #[], .func (.func 81) #[] #[]] 109] := H28.pick [1, 0] (by decide) rfl
  refine WL.do0 (Do.store (vs := [.bool false, .func (.func 75) #[] #[], .func (.func 76) #[] #[], .func (.func 77) #[] #[], .func (.func 78) #[] #[]]) (o := 0) H29 rfl rfl Try.sizeOf95 rfl rfl rfl rfl ?_)
  intro w30 H31
  replace H31 : Own w D w30 [blk g21 [.bool false, .func (.func 75) #[] #[], .func (.func 76) #[] #[], .func (.func 77) #[] #[], .func (.func 78) #[] #[]] 95, blk g24 [.bool false, .nilFunc, .nilFunc, .nilFunc, .nilFunc, .bool false, .func (.func 67) #[] #[], .func (.func 68) #[] #[], .func (.func 69) #[] #[], .func (.func 70) #[] #[], .bool true, .func (.func 71) #[] #[], .func (.func 72) #[] #[], .func (.func 69) #[] #[], .func (.func 73) #[] #[], .bool true, .func (.func 67) #[] #[], .func (.func 68) #[] #[], .func (.func 69) #[] #[], .func (.func 74) #[] #[], .bool false, .func (.func 75) #[] #[], .func (.func 76) #[] #[], .func (.func 77) #[] #[], .func (.func 78) #[] #[], .bool true, .func (.func 79) #[] #[], .func (.func 80) #[] #[], .func (.func 77) #[] #[], .func (.func 81) #[] #[]] 109] := H31
  refine As rfl rfl (WL.nil (Fin.then (Wp.ret (Fin.res (resN (vs := [.agg #[.bool false, .func (.func 75) #[] #[], .func (.func 76) #[] #[], .func (.func 77) #[] #[], .func (.func 78) #[] #[]], .bool true]) rfl (ResV.cell rfl (Lds.agg (cs := [.bool false, .func (.func 75) #[] #[], .func (.func 76) #[] #[], .func (.func 77) #[] #[], .func (.func 78) #[] #[]]) Try.isAgg95 Try.sizeOf95 ((H31.cls (i := 0) rfl).lit (k := 0) (m := 5) rfl)) (ResV.tmp rfl ResV.nil)) (Nat.le_of_ble_eq_true rfl)) ?_))))
  have H32 : Own w D w30 [] := H31.pick [] (by decide) rfl
  exact ⟨rfl, H32⟩

def op_ownScan (p0 : OpD) : OpD :=
  OpD.mk p0.xKind ([]) ([]) p0.xLo p0.xHi p0.xMost

set_option maxRecDepth 100000 in
theorem op_ownScan_ok (w : World) (D : Nat → Prop) (p0 : OpD) (r0 : OpD) (H : Own w D w [])  (hr : op_ownScan p0 = r0) :
    Calls Try.prog 75 #[.agg (OpD.cells p0).toArray] w (Ret fun v w' => v = .agg (OpD.cells r0).toArray ∧ Own w D w' []) := by
  refine Calls.body (args := [.agg (OpD.cells p0).toArray]) Try.func75 rfl rfl rfl ?_
  show Wp _ _ _ [(0, .agg (OpD.cells p0).toArray)] _ _
  refine Wp.seq (Wp.region ?_)
  refine WL.do rfl (Do.newP (cs := (OpD.cells p0)) (t := 74) H rfl rfl (fun _ => by kernel_rfl) ?_)
  intro g21 w22 H23
  replace H23 : Own w D w22 [blk g21 (OpD.cells p0) 74] := H23
  refine WL.do rfl (Do.newP (cs := [.int .i64 0, .string ⟨List.toArray ([])⟩, .string ⟨List.toArray ([])⟩, .string ⟨List.toArray ([])⟩, .string ⟨List.toArray ([])⟩, .int .i64 0]) (t := 74) H23 rfl rfl (fun _ => by kernel_rfl) ?_)
  intro g24 w25 H26
  replace H26 : Own w D w25 [blk g24 [.int .i64 0, .string ⟨List.toArray ([])⟩, .string ⟨List.toArray ([])⟩, .string ⟨List.toArray ([])⟩, .string ⟨List.toArray ([])⟩, .int .i64 0] 74, blk g21 (OpD.cells p0) 74] := H26
  refine WL.nil (Fin.then (Wp.seq (Wp.region (Kn (v := .pointer (some ⟨g21, 0, none⟩)) rfl rfl rfl (fun _ => by kernel_rfl) (WL.val (v := .int .i64 p0.xKind) rfl (Yl.load rfl (Lds.one Try.isAgg3 (Cls.of (H26.cls (i := 1) rfl) rfl))) (Kn (v := .pointer (some ⟨g21, 3, none⟩)) rfl rfl rfl (fun _ => by kernel_rfl) (WL.val (v := .string ⟨List.toArray p0.xLo⟩) rfl (Yl.load rfl (Lds.one Try.isAgg9 (Cls.of (H26.cls (i := 1) rfl) rfl))) (Kn (v := .pointer (some ⟨g21, 4, none⟩)) rfl rfl rfl (fun _ => by kernel_rfl) (WL.val (v := .string ⟨List.toArray p0.xHi⟩) rfl (Yl.load rfl (Lds.one Try.isAgg9 (Cls.of (H26.cls (i := 1) rfl) rfl))) (Kn (v := .pointer (some ⟨g21, 5, none⟩)) rfl rfl rfl (fun _ => by kernel_rfl) (WL.val (v := .int .i64 p0.xMost) rfl (Yl.load rfl (Lds.one Try.isAgg3 (Cls.of (H26.cls (i := 1) rfl) rfl))) (Kn (v := .agg #[.int .i64 p0.xKind, .string ⟨List.toArray ([])⟩, .string ⟨List.toArray ([])⟩, .string ⟨List.toArray p0.xLo⟩, .string ⟨List.toArray p0.xHi⟩, .int .i64 p0.xMost]) rfl rfl rfl (fun _ => by kernel_rfl) ?_))))))))))))
  refine WL.do0 (Do.store (vs := [.int .i64 p0.xKind, .string ⟨List.toArray ([])⟩, .string ⟨List.toArray ([])⟩, .string ⟨List.toArray p0.xLo⟩, .string ⟨List.toArray p0.xHi⟩, .int .i64 p0.xMost]) (o := 0) H26 rfl rfl Try.sizeOf74 rfl rfl rfl rfl ?_)
  intro w27 H28
  replace H28 : Own w D w27 [blk g24 [.int .i64 p0.xKind, .string ⟨List.toArray ([])⟩, .string ⟨List.toArray ([])⟩, .string ⟨List.toArray p0.xLo⟩, .string ⟨List.toArray p0.xHi⟩, .int .i64 p0.xMost] 74, blk g21 (OpD.cells p0) 74] := H28
  refine WL.nil (Fin.then (Wp.ret (Fin.res (resC rfl rfl (Lds.agg (cs := [.int .i64 p0.xKind, .string ⟨List.toArray ([])⟩, .string ⟨List.toArray ([])⟩, .string ⟨List.toArray p0.xLo⟩, .string ⟨List.toArray p0.xHi⟩, .int .i64 p0.xMost]) Try.isAgg74 Try.sizeOf74 ((H28.cls (i := 0) rfl).lit (k := 0) (m := 6) rfl))) ?_)))
  have H29 : Own w D w27 [] := H28.pick [] (by decide) rfl
  have e : op_ownScan p0 = OpD.mk p0.xKind ([]) ([]) p0.xLo p0.xHi p0.xMost := rfl
  obtain rfl := e.symm.trans hr
  exact ⟨rfl, H29⟩

def op_spanRange (p0 : OpD) : RangeD :=
  RangeD.mk p0.xLo p0.xHi

set_option maxRecDepth 100000 in
theorem op_spanRange_ok (w : World) (D : Nat → Prop) (p0 : OpD) (r0 : RangeD) (H : Own w D w [])  (hr : op_spanRange p0 = r0) :
    Calls Try.prog 77 #[.agg (OpD.cells p0).toArray] w (Ret fun v w' => v = .agg (RangeD.cells r0).toArray ∧ Own w D w' []) := by
  refine Calls.body (args := [.agg (OpD.cells p0).toArray]) Try.func77 rfl rfl rfl ?_
  show Wp _ _ _ [(0, .agg (OpD.cells p0).toArray)] _ _
  refine Wp.seq (Wp.region ?_)
  refine WL.do rfl (Do.newP (cs := (OpD.cells p0)) (t := 74) H rfl rfl (fun _ => by kernel_rfl) ?_)
  intro g21 w22 H23
  replace H23 : Own w D w22 [blk g21 (OpD.cells p0) 74] := H23
  refine WL.do rfl (Do.newP (cs := [.string ⟨List.toArray ([])⟩, .string ⟨List.toArray ([])⟩]) (t := 24) H23 rfl rfl (fun _ => by kernel_rfl) ?_)
  intro g24 w25 H26
  replace H26 : Own w D w25 [blk g24 [.string ⟨List.toArray ([])⟩, .string ⟨List.toArray ([])⟩] 24, blk g21 (OpD.cells p0) 74] := H26
  refine WL.nil (Fin.then (Wp.seq (Wp.region (Kn (v := .pointer (some ⟨g21, 3, none⟩)) rfl rfl rfl (fun _ => by kernel_rfl) (WL.val (v := .string ⟨List.toArray p0.xLo⟩) rfl (Yl.load rfl (Lds.one Try.isAgg9 (Cls.of (H26.cls (i := 1) rfl) rfl))) (Kn (v := .pointer (some ⟨g21, 4, none⟩)) rfl rfl rfl (fun _ => by kernel_rfl) (WL.val (v := .string ⟨List.toArray p0.xHi⟩) rfl (Yl.load rfl (Lds.one Try.isAgg9 (Cls.of (H26.cls (i := 1) rfl) rfl))) (Kn (v := .agg #[.string ⟨List.toArray p0.xLo⟩, .string ⟨List.toArray p0.xHi⟩]) rfl rfl rfl (fun _ => by kernel_rfl) ?_))))))))
  refine WL.do0 (Do.store (vs := [.string ⟨List.toArray p0.xLo⟩, .string ⟨List.toArray p0.xHi⟩]) (o := 0) H26 rfl rfl Try.sizeOf24 rfl rfl rfl rfl ?_)
  intro w27 H28
  replace H28 : Own w D w27 [blk g24 [.string ⟨List.toArray p0.xLo⟩, .string ⟨List.toArray p0.xHi⟩] 24, blk g21 (OpD.cells p0) 74] := H28
  refine WL.nil (Fin.then (Wp.ret (Fin.res (resC rfl rfl (Lds.agg (cs := [.string ⟨List.toArray p0.xLo⟩, .string ⟨List.toArray p0.xHi⟩]) Try.isAgg24 Try.sizeOf24 ((H28.cls (i := 0) rfl).lit (k := 0) (m := 2) rfl))) ?_)))
  have H29 : Own w D w27 [] := H28.pick [] (by decide) rfl
  have e : op_spanRange p0 = RangeD.mk p0.xLo p0.xHi := rfl
  obtain rfl := e.symm.trans hr
  exact ⟨rfl, H29⟩

def op_checkRange (p0 : OpD) : Int :=
  bnd (op_spanRange p0) fun yr29 => bnd (span_Check yr29) fun yr39 => yr39

set_option maxRecDepth 100000 in
theorem op_checkRange_ok (w : World) (D : Nat → Prop) (p0 : OpD) (r0 : Int) (H : Own w D w [])  (hr : op_checkRange p0 = r0) :
    Calls Try.prog 80 #[.agg (OpD.cells p0).toArray] w (Ret fun v w' => v = .int .i64 r0 ∧ Own w D w' []) := by
  refine Calls.body (args := [.agg (OpD.cells p0).toArray]) Try.func80 rfl rfl rfl ?_
  show Wp _ _ _ [(0, .agg (OpD.cells p0).toArray)] _ _
  refine Wp.seq (Wp.region ?_)
  refine WL.do rfl (Do.newP (cs := (OpD.cells p0)) (t := 74) H rfl rfl (fun _ => by kernel_rfl) ?_)
  intro g21 w22 H23
  replace H23 : Own w D w22 [blk g21 (OpD.cells p0) 74] := H23
  refine As rfl rfl (WL.nil (Fin.then (Wp.seq (Wp.region (WL.val (v := .agg (OpD.cells p0).toArray) rfl (Yl.load rfl (Lds.agg (cs := (OpD.cells p0)) Try.isAgg74 Try.sizeOf74 ((H23.cls (i := 0) rfl).lit (k := 0) (m := 6) rfl))) ?_)))))
  obtain ⟨r29, hr30⟩ : ∃ q, op_spanRange p0 = q := ⟨_, rfl⟩
  obtain ⟨D24, HP25, ro26, bk27, rr28⟩ := Own.enter0 H23
  refine WL.do rfl (Do.call Try.call77 rfl (op_spanRange_ok _ _ p0 r29 HP25 hr30) ?_)
  rintro _ w31 ⟨rfl, HQ32⟩
  have H33 : Own w D w31 [blk g21 (OpD.cells p0) 74] := bk27 _ _ HQ32
  obtain ⟨r39, hr40⟩ : ∃ q, span_Check r29 = q := ⟨_, rfl⟩
  obtain ⟨D34, HP35, ro36, bk37, rr38⟩ := Own.enter0 H33
  refine WL.do rfl (Do.call Try.call29 rfl (span_Check_ok _ _ r29 r39 HP35 hr40) ?_)
  rintro _ w41 ⟨rfl, HQ42⟩
  have H43 : Own w D w41 [blk g21 (OpD.cells p0) 74] := bk37 _ _ HQ42
  refine As rfl rfl (WL.nil (Fin.then (Wp.ret (Fin.res (res1 rfl rfl) ?_))))
  have H44 : Own w D w41 [] := H43.pick [] (by decide) rfl
  have e : op_checkRange p0 = r39 := Eq.trans (bnd_of hr30) (bnd_of hr40)
  obtain rfl := e.symm.trans hr
  exact ⟨rfl, H44⟩

def op_checkScan (p0 : OpD) : Int :=
  bnd (op_checkRange p0) fun yr29 => if yr29 = 0 then if p0.xMost < 1 then 1 else if p0.xMost > 4 then 1 else 0 else yr29

set_option maxRecDepth 100000 in
theorem op_checkScan_ok (w : World) (D : Nat → Prop) (p0 : OpD) (r0 : Int) (H : Own w D w [])  (hr : op_checkScan p0 = r0) :
    Calls Try.prog 76 #[.agg (OpD.cells p0).toArray] w (Ret fun v w' => v = .int .i64 r0 ∧ Own w D w' []) := by
  refine Calls.body (args := [.agg (OpD.cells p0).toArray]) Try.func76 rfl rfl rfl ?_
  show Wp _ _ _ [(0, .agg (OpD.cells p0).toArray)] _ _
  refine Wp.seq (Wp.region ?_)
  refine WL.do rfl (Do.newP (cs := (OpD.cells p0)) (t := 74) H rfl rfl (fun _ => by kernel_rfl) ?_)
  intro g21 w22 H23
  replace H23 : Own w D w22 [blk g21 (OpD.cells p0) 74] := H23
  refine As rfl rfl (WL.nil (Fin.then (Wp.seq (Wp.seq (Wp.region (WL.val (v := .agg (OpD.cells p0).toArray) rfl (Yl.load rfl (Lds.agg (cs := (OpD.cells p0)) Try.isAgg74 Try.sizeOf74 ((H23.cls (i := 0) rfl).lit (k := 0) (m := 6) rfl))) ?_))))))
  obtain ⟨r29, hr30⟩ : ∃ q, op_checkRange p0 = q := ⟨_, rfl⟩
  obtain ⟨D24, HP25, ro26, bk27, rr28⟩ := Own.enter0 H23
  refine WL.do rfl (Do.call Try.call80 rfl (op_checkRange_ok _ _ p0 r29 HP25 hr30) ?_)
  rintro _ w31 ⟨rfl, HQ32⟩
  have H33 : Own w D w31 [blk g21 (OpD.cells p0) 74] := bk27 _ _ HQ32
  refine As rfl rfl (WL.nil (Fin.then (Wp.seq (Wp.region (Mv rfl rfl (WL.val (v := .bool (decide (¬ (r29 = 0)))) rfl (Yl.bool (e := !(decide (r29 = 0))) (Yl.kern rfl rfl (fun _ => by kernel_rfl)) decide_not.symm) (WL.nil (Fin.then ?_))))))))
  by_cases h34 : r29 = 0
  refine Wp.cond0 rfl (decide_eq_false (not_not_intro h34)) (Wp.skip (Fin.then (Wp.seq (Wp.seq (Wp.region (Kn (v := .pointer (some ⟨g21, 5, none⟩)) rfl rfl rfl (fun _ => by kernel_rfl) (WL.val (v := .int .i64 p0.xMost) rfl (Yl.load rfl (Lds.one Try.isAgg3 (Cls.of (H33.cls (i := 0) rfl) rfl))) (Kn (v := .bool (decide (p0.xMost < 1))) rfl rfl rfl (fun _ => by kernel_rfl) (Mv rfl rfl ?_)))))))))
  by_cases h35 : p0.xMost < 1
  refine Sk rfl rfl (decide_eq_true h35) rfl (Sk rfl rfl (decide_eq_true h35) rfl (Sk rfl rfl (decide_eq_true h35) rfl (WL.val (v := .bool true) rfl (Yl.pickT rfl (decide_eq_true h35) rfl) (WL.nil (Fin.then (Wp.cond1 rfl rfl (Wp.seq (Wp.region (As rfl rfl (WL.nil (Fin.then (Wp.ret (Fin.thenR (Fin.res (res1 rfl rfl) ?_))))))))))))))
  have H36 : Own w D w31 [] := H33.pick [] (by decide) rfl
  have e : op_checkScan p0 = 1 := Eq.trans (bnd_of hr30) (Eq.trans (if_pos h34) (if_pos h35))
  obtain rfl := e.symm.trans hr
  exact ⟨rfl, H36⟩
  refine WL.valG (v := .pointer (some ⟨g21, 5, none⟩)) rfl rfl (decide_eq_false h35) rfl (Yl.kern rfl rfl (fun _ => by kernel_rfl)) (WL.valG (v := .int .i64 p0.xMost) rfl rfl (decide_eq_false h35) rfl (Yl.load rfl (Lds.one Try.isAgg3 (Cls.of (H33.cls (i := 0) rfl) rfl))) (WL.valG (v := .bool (decide (p0.xMost > 4))) rfl rfl (decide_eq_false h35) rfl (Yl.kern rfl rfl (fun _ => by kernel_rfl)) (WL.val (v := .bool (decide (p0.xMost > 4))) rfl (Yl.pickF rfl (decide_eq_false h35) rfl) (WL.nil (Fin.then ?_)))))
  by_cases h37 : p0.xMost > 4
  refine Wp.cond1 rfl (decide_eq_true h37) (Wp.seq (Wp.region (As rfl rfl (WL.nil (Fin.then (Wp.ret (Fin.thenR (Fin.res (res1 rfl rfl) ?_))))))))
  have H38 : Own w D w31 [] := H33.pick [] (by decide) rfl
  have e : op_checkScan p0 = 1 := Eq.trans (bnd_of hr30) (Eq.trans (if_pos h34) (Eq.trans (if_neg h35) (if_pos h37)))
  obtain rfl := e.symm.trans hr
  exact ⟨rfl, H38⟩
  refine Wp.cond0 rfl (decide_eq_false h37) (Wp.skip (Fin.then (Wp.seq (Wp.region (As rfl rfl (WL.nil (Fin.then (Wp.ret (Fin.res (res1 rfl rfl) ?_)))))))))
  have H39 : Own w D w31 [] := H33.pick [] (by decide) rfl
  have e : op_checkScan p0 = 0 := Eq.trans (bnd_of hr30) (Eq.trans (if_pos h34) (Eq.trans (if_neg h35) (if_neg h37)))
  obtain rfl := e.symm.trans hr
  exact ⟨rfl, H39⟩
  refine Wp.cond1 rfl (decide_eq_true h34) (Wp.seq (Wp.region (Mv rfl rfl (As rfl rfl (WL.nil (Fin.then (Wp.ret (Fin.thenR (Fin.res (res1 rfl rfl) ?_)))))))))
  have H40 : Own w D w31 [] := H33.pick [] (by decide) rfl
  have e : op_checkScan p0 = r29 := Eq.trans (bnd_of hr30) (if_neg h34)
  obtain rfl := e.symm.trans hr
  exact ⟨rfl, H40⟩

set_option maxRecDepth 100000 in
theorem op_kindOf_5_ok (w : World) (D : Nat → Prop) (p0 : Int) (H : Own w D w []) (hp0 : p0 = 5) :
    Calls Try.prog 54 #[.int .i64 p0] w (Ret fun v w' => v = .tuple #[.agg #[.bool true, .func (.func 79) #[] #[], .func (.func 80) #[] #[], .func (.func 77) #[] #[], .func (.func 81) #[] #[]], .bool true] ∧ Own w D w' []) := by
  subst hp0
  refine Calls.body (args := [.int .i64 5]) Try.func54 rfl rfl rfl ?_
  show Wp _ _ _ [(0, .int .i64 5)] _ _
  refine Wp.seq (Wp.region ?_)
  refine WL.do rfl (Do.newP (cs := [.bool false, .nilFunc, .nilFunc, .nilFunc, .nilFunc]) (t := 95) H rfl rfl (fun _ => by kernel_rfl) ?_)
  intro g21 w22 H23
  replace H23 : Own w D w22 [blk g21 [.bool false, .nilFunc, .nilFunc, .nilFunc, .nilFunc] 95] := H23
  refine As rfl rfl (WL.nil (Fin.then (Wp.seq (Wp.region (Kn (v := .agg #[.bool false, .func (.func 67) #[] #[], .func (.func 68) #[] #[], .func (.func 69) #[] #[], .func (.func 70) #[] #[]]) rfl rfl rfl (fun _ => by kernel_rfl) (Kn (v := .agg #[.bool true, .func (.func 71) #[] #[], .func (.func 72) #[] #[], .func (.func 69) #[] #[], .func (.func 73) #[] #[]]) rfl rfl rfl (fun _ => by kernel_rfl) (Kn (v := .agg #[.bool true, .func (.func 67) #[] #[], .func (.func 68) #[] #[], .func (.func 69) #[] #[], .func (.func 74) #[] #[]]) rfl rfl rfl (fun _ => by kernel_rfl) (Kn (v := .agg #[.bool false, .func (.func 75) #[] #[], .func (.func 76) #[] #[], .func (.func 77) #[] #[], .func (.func 78) #[] #[]]) rfl rfl rfl (fun _ => by kernel_rfl) (Kn (v := .agg #[.bool true, .func (.func 79) #[] #[], .func (.func 80) #[] #[], .func (.func 77) #[] #[], .func (.func 81) #[] #[]]) rfl rfl rfl (fun _ => by kernel_rfl) (Kn (v := .agg #[.bool false, .nilFunc, .nilFunc, .nilFunc, .nilFunc, .bool false, .func (.func 67) #[] #[], .func (.func 68) #[] #[], .func (.func 69) #[] #[], .func (.func 70) #[] #[], .bool true, .func (.func 71) #[] #[], .func (.func 72) #[] #[], .func (.func 69) #[] #[], .func (.func 73) #[] #[], .bool true, .func (.func 67) #[] #[], .func (.func 68) #[] #[], .func (.func 69) #[] #[], .func (.func 74) #[] #[], .bool false, .func (.func 75) #[] #[], .func (.func 76) #[] #[], .func (.func 77) #[] #[], .func (.func 78) #[] #[], .bool true, .func (.func 79) #[] #[], .func (.func 80) #[] #[], .func (.func 77) #[] #[], .func (.func 81) #[] #[]]) rfl rfl rfl (fun _ => by kernel_rfl) ?_))))))))))
  refine WL.do rfl (Do.newP (cs := [.bool false, .nilFunc, .nilFunc, .nilFunc, .nilFunc, .bool false, .nilFunc, .nilFunc, .nilFunc, .nilFunc, .bool false, .nilFunc, .nilFunc, .nilFunc, .nilFunc, .bool false, .nilFunc, .nilFunc, .nilFunc, .nilFunc, .bool false, .nilFunc, .nilFunc, .nilFunc, .nilFunc, .bool false, .nilFunc, .nilFunc, .nilFunc, .nilFunc]) (t := 109) H23 rfl rfl (fun _ => by kernel_rfl) ?_)
  intro g24 w25 H26
  replace H26 : Own w D w25 [blk g24 [.bool false, .nilFunc, .nilFunc, .nilFunc, .nilFunc, .bool false, .nilFunc, .nilFunc, .nilFunc, .nilFunc, .bool false, .nilFunc, .nilFunc, .nilFunc, .nilFunc, .bool false, .nilFunc, .nilFunc, .nilFunc, .nilFunc, .bool false, .nilFunc, .nilFunc, .nilFunc, .nilFunc, .bool false, .nilFunc, .nilFunc, .nilFunc, .nilFunc] 109, blk g21 [.bool false, .nilFunc, .nilFunc, .nilFunc, .nilFunc] 95] := H26
  refine WL.do0 (Do.store (vs := [.bool false, .nilFunc, .nilFunc, .nilFunc, .nilFunc, .bool false, .func (.func 67) #[] #[], .func (.func 68) #[] #[], .func (.func 69) #[] #[], .func (.func 70) #[] #[], .bool true, .func (.func 71) #[] #[], .func (.func 72) #[] #[], .func (.func 69) #[] #[], .func (.func 73) #[] #[], .bool true, .func (.func 67) #[] #[], .func (.func 68) #[] #[], .func (.func 69) #[] #[], .func (.func 74) #[] #[], .bool false, .func (.func 75) #[] #[], .func (.func 76) #[] #[], .func (.func 77) #[] #[], .func (.func 78) #[] #[], .bool true, .func (.func 79) #[] #[], .func (.func 80) #[] #[], .func (.func 77) #[] #[], .func (.func 81) #[] #[]]) (o := 0) H26 rfl rfl Try.sizeOf109 rfl rfl rfl rfl ?_)
  intro w27 H28
  replace H28 : Own w D w27 [blk g24 [.bool false, .nilFunc, .nilFunc, .nilFunc, .nilFunc, .bool false, .func (.func 67) #[] #[], .func (.func 68) #[] #[], .func (.func 69) #[] #[], .func (.func 70) #[] #[], .bool true, .func (.func 71) #[] #[], .func (.func 72) #[] #[], .func (.func 69) #[] #[], .func (.func 73) #[] #[], .bool true, .func (.func 67) #[] #[], .func (.func 68) #[] #[], .func (.func 69) #[] #[], .func (.func 74) #[] #[], .bool false, .func (.func 75) #[] #[], .func (.func 76) #[] #[], .func (.func 77) #[] #[], .func (.func 78) #[] #[], .bool true, .func (.func 79) #[] #[], .func (.func 80) #[] #[], .func (.func 77) #[] #[], .func (.func 81) #[] #[]] 109, blk g21 [.bool false, .nilFunc, .nilFunc, .nilFunc, .nilFunc] 95] := H28
  refine WL.nil (Fin.then (Wp.seq (Wp.seq (Wp.region (Mv rfl rfl (Kn (v := .bool false) rfl rfl rfl (fun _ => by kernel_rfl) (Mv rfl rfl (WL.valG (v := .int .i64 5) rfl rfl rfl rfl (Yl.move rfl) (WL.valG (v := .bool false) rfl rfl rfl rfl (Yl.kern rfl rfl (fun _ => by kernel_rfl)) (WL.val (v := .bool false) rfl (Yl.pickF rfl rfl rfl) (WL.nil (Fin.then (Wp.cond0 rfl rfl (Wp.skip (Fin.then (Wp.seq (Wp.region (Mv rfl rfl (Kn (v := .pointer (some ⟨g24, 25, none⟩)) rfl rfl rfl (fun _ => by kernel_rfl) (WL.val (v := .agg #[.bool true, .func (.func 79) #[] #[], .func (.func 80) #[] #[], .func (.func 77) #[] #[], .func (.func 81) #[] #[]]) rfl (Yl.load rfl (Lds.agg (cs := [.bool true, .func (.func 79) #[] #[], .func (.func 80) #[] #[], .func (.func 77) #[] #[], .func (.func 81) #[] #[]]) Try.isAgg95 Try.sizeOf95 ((H28.cls (i := 0) rfl).lit (k := 25) (m := 5) rfl))) ?_))))))))))))))))))))
  have H29 : Own w D w27 [blk g21 [.bool false, .nilFunc, .nilFunc, .nilFunc, .nilFunc] 95, blk g24 [.bool false, .nilFunc, .nilFunc, .nilFunc, .nilFunc, .bool false, .func (.func 67) #[] #[], .func (.func 68) #[] #[], .func (.func 69) #[] #[], .func (.func 70) #[] #[], .bool true, .func (.func 71) #[] #[], .func (.func 72) #[] #[], .func (.func 69) #[] #[], .func (.func 73) #[] #[], .bool true, .func (.func 67) #[] #[], .func (.func 68) #[] #[], .func (.func 69) #[] #[], .func (.func 74) #[] #[], .bool false, .func (.func 75) #[] #[], .func (.func 76) #[] #[], .func (.func 77) #[] #[], .func (.func 78) #[] #[], .bool true, .func (.func 79) #[] #[], .func (.func 80) #[] #[], .func (.func 77) #[] #[], .func (.func 81) #[] #[]] 109] := H28.pick [1, 0] (by decide) rfl
  refine WL.do0 (Do.store (vs := [.bool true, .func (.func 79) #[] #[], .func (.func 80) #[] #[], .func (.func 77) #[] #[], .func (.func 81) #[] #[]]) (o := 0) H29 rfl rfl Try.sizeOf95 rfl rfl rfl rfl ?_)
  intro w30 H31
  replace H31 : Own w D w30 [blk g21 [.bool true, .func (.func 79) #[] #[], .func (.func 80) #[] #[], .func (.func 77) #[] #[], .func (.func 81) #[] #[]] 95, blk g24 [.bool false, .nilFunc, .nilFunc, .nilFunc, .nilFunc, .bool false, .func (.func 67) #[] #[], .func (.func 68) #[] #[], .func (.func 69) #[] #[], .func (.func 70) #[] #[], .bool true, .func (.func 71) #[] #[], .func (.func 72) #[] #[], .func (.func 69) #[] #[], .func (.func 73) #[] #[], .bool true, .func (.func 67) #[] #[], .func (.func 68) #[] #[], .func (.func 69) #[] #[], .func (.func 74) #[] #[], .bool false, .func (.func 75) #[] #[], .func (.func 76) #[] #[], .func (.func 77) #[] #[], .func (.func 78) #[] #[], .bool true, .func (.func 79) #[] #[], .func (.func 80) #[] #[], .func (.func 77) #[] #[], .func (.func 81) #[] #[]] 109] := H31
  refine As rfl rfl (WL.nil (Fin.then (Wp.ret (Fin.res (resN (vs := [.agg #[.bool true, .func (.func 79) #[] #[], .func (.func 80) #[] #[], .func (.func 77) #[] #[], .func (.func 81) #[] #[]], .bool true]) rfl (ResV.cell rfl (Lds.agg (cs := [.bool true, .func (.func 79) #[] #[], .func (.func 80) #[] #[], .func (.func 77) #[] #[], .func (.func 81) #[] #[]]) Try.isAgg95 Try.sizeOf95 ((H31.cls (i := 0) rfl).lit (k := 0) (m := 5) rfl)) (ResV.tmp rfl ResV.nil)) (Nat.le_of_ble_eq_true rfl)) ?_))))
  have H32 : Own w D w30 [] := H31.pick [] (by decide) rfl
  exact ⟨rfl, H32⟩

def op_ownRange (p0 : OpD) : OpD :=
  OpD.mk p0.xKind ([]) ([]) p0.xLo p0.xHi 0

set_option maxRecDepth 100000 in
theorem op_ownRange_ok (w : World) (D : Nat → Prop) (p0 : OpD) (r0 : OpD) (H : Own w D w [])  (hr : op_ownRange p0 = r0) :
    Calls Try.prog 79 #[.agg (OpD.cells p0).toArray] w (Ret fun v w' => v = .agg (OpD.cells r0).toArray ∧ Own w D w' []) := by
  refine Calls.body (args := [.agg (OpD.cells p0).toArray]) Try.func79 rfl rfl rfl ?_
  show Wp _ _ _ [(0, .agg (OpD.cells p0).toArray)] _ _
  refine Wp.seq (Wp.region ?_)
  refine WL.do rfl (Do.newP (cs := (OpD.cells p0)) (t := 74) H rfl rfl (fun _ => by kernel_rfl) ?_)
  intro g21 w22 H23
  replace H23 : Own w D w22 [blk g21 (OpD.cells p0) 74] := H23
  refine WL.do rfl (Do.newP (cs := [.int .i64 0, .string ⟨List.toArray ([])⟩, .string ⟨List.toArray ([])⟩, .string ⟨List.toArray ([])⟩, .string ⟨List.toArray ([])⟩, .int .i64 0]) (t := 74) H23 rfl rfl (fun _ => by kernel_rfl) ?_)
  intro g24 w25 H26
  replace H26 : Own w D w25 [blk g24 [.int .i64 0, .string ⟨List.toArray ([])⟩, .string ⟨List.toArray ([])⟩, .string ⟨List.toArray ([])⟩, .string ⟨List.toArray ([])⟩, .int .i64 0] 74, blk g21 (OpD.cells p0) 74] := H26
  refine WL.nil (Fin.then (Wp.seq (Wp.region (Kn (v := .pointer (some ⟨g21, 0, none⟩)) rfl rfl rfl (fun _ => by kernel_rfl) (WL.val (v := .int .i64 p0.xKind) rfl (Yl.load rfl (Lds.one Try.isAgg3 (Cls.of (H26.cls (i := 1) rfl) rfl))) (Kn (v := .pointer (some ⟨g21, 3, none⟩)) rfl rfl rfl (fun _ => by kernel_rfl) (WL.val (v := .string ⟨List.toArray p0.xLo⟩) rfl (Yl.load rfl (Lds.one Try.isAgg9 (Cls.of (H26.cls (i := 1) rfl) rfl))) (Kn (v := .pointer (some ⟨g21, 4, none⟩)) rfl rfl rfl (fun _ => by kernel_rfl) (WL.val (v := .string ⟨List.toArray p0.xHi⟩) rfl (Yl.load rfl (Lds.one Try.isAgg9 (Cls.of (H26.cls (i := 1) rfl) rfl))) (Kn (v := .agg #[.int .i64 p0.xKind, .string ⟨List.toArray ([])⟩, .string ⟨List.toArray ([])⟩, .string ⟨List.toArray p0.xLo⟩, .string ⟨List.toArray p0.xHi⟩, .int .i64 0]) rfl rfl rfl (fun _ => by kernel_rfl) ?_))))))))))
  refine WL.do0 (Do.store (vs := [.int .i64 p0.xKind, .string ⟨List.toArray ([])⟩, .string ⟨List.toArray ([])⟩, .string ⟨List.toArray p0.xLo⟩, .string ⟨List.toArray p0.xHi⟩, .int .i64 0]) (o := 0) H26 rfl rfl Try.sizeOf74 rfl rfl rfl rfl ?_)
  intro w27 H28
  replace H28 : Own w D w27 [blk g24 [.int .i64 p0.xKind, .string ⟨List.toArray ([])⟩, .string ⟨List.toArray ([])⟩, .string ⟨List.toArray p0.xLo⟩, .string ⟨List.toArray p0.xHi⟩, .int .i64 0] 74, blk g21 (OpD.cells p0) 74] := H28
  refine WL.nil (Fin.then (Wp.ret (Fin.res (resC rfl rfl (Lds.agg (cs := [.int .i64 p0.xKind, .string ⟨List.toArray ([])⟩, .string ⟨List.toArray ([])⟩, .string ⟨List.toArray p0.xLo⟩, .string ⟨List.toArray p0.xHi⟩, .int .i64 0]) Try.isAgg74 Try.sizeOf74 ((H28.cls (i := 0) rfl).lit (k := 0) (m := 6) rfl))) ?_)))
  have H29 : Own w D w27 [] := H28.pick [] (by decide) rfl
  have e : op_ownRange p0 = OpD.mk p0.xKind ([]) ([]) p0.xLo p0.xHi 0 := rfl
  obtain rfl := e.symm.trans hr
  exact ⟨rfl, H29⟩

set_option maxRecDepth 100000 in
theorem op_kindOf_no_ok (w : World) (D : Nat → Prop) (p0 : Int) (H : Own w D w []) (hh0 : ¬ (p0 = 1)) (hh1 : ¬ (p0 = 2)) (hh2 : ¬ (p0 = 3)) (hh3 : ¬ (p0 = 4)) (hh4 : ¬ (p0 = 5)) :
    Calls Try.prog 54 #[.int .i64 p0] w (Ret fun v w' => v = .tuple #[.agg #[.bool false, .nilFunc, .nilFunc, .nilFunc, .nilFunc], .bool false] ∧ Own w D w' []) := by
  refine Calls.body (args := [.int .i64 p0]) Try.func54 rfl rfl rfl ?_
  show Wp _ _ _ [(0, .int .i64 p0)] _ _
  refine Wp.seq (Wp.region ?_)
  refine WL.do rfl (Do.newP (cs := [.bool false, .nilFunc, .nilFunc, .nilFunc, .nilFunc]) (t := 95) H rfl rfl (fun _ => by kernel_rfl) ?_)
  intro g21 w22 H23
  replace H23 : Own w D w22 [blk g21 [.bool false, .nilFunc, .nilFunc, .nilFunc, .nilFunc] 95] := H23
  refine As rfl rfl (WL.nil (Fin.then (Wp.seq (Wp.region (Kn (v := .agg #[.bool false, .func (.func 67) #[] #[], .func (.func 68) #[] #[], .func (.func 69) #[] #[], .func (.func 70) #[] #[]]) rfl rfl rfl (fun _ => by kernel_rfl) (Kn (v := .agg #[.bool true, .func (.func 71) #[] #[], .func (.func 72) #[] #[], .func (.func 69) #[] #[], .func (.func 73) #[] #[]]) rfl rfl rfl (fun _ => by kernel_rfl) (Kn (v := .agg #[.bool true, .func (.func 67) #[] #[], .func (.func 68) #[] #[], .func (.func 69) #[] #[], .func (.func 74) #[] #[]]) rfl rfl rfl (fun _ => by kernel_rfl) (Kn (v := .agg #[.bool false, .func (.func 75) #[] #[], .func (.func 76) #[] #[], .func (.func 77) #[] #[], .func (.func 78) #[] #[]]) rfl rfl rfl (fun _ => by kernel_rfl) (Kn (v := .agg #[.bool true, .func (.func 79) #[] #[], .func (.func 80) #[] #[], .func (.func 77) #[] #[], .func (.func 81) #[] #[]]) rfl rfl rfl (fun _ => by kernel_rfl) (Kn (v := .agg #[.bool false, .nilFunc, .nilFunc, .nilFunc, .nilFunc, .bool false, .func (.func 67) #[] #[], .func (.func 68) #[] #[], .func (.func 69) #[] #[], .func (.func 70) #[] #[], .bool true, .func (.func 71) #[] #[], .func (.func 72) #[] #[], .func (.func 69) #[] #[], .func (.func 73) #[] #[], .bool true, .func (.func 67) #[] #[], .func (.func 68) #[] #[], .func (.func 69) #[] #[], .func (.func 74) #[] #[], .bool false, .func (.func 75) #[] #[], .func (.func 76) #[] #[], .func (.func 77) #[] #[], .func (.func 78) #[] #[], .bool true, .func (.func 79) #[] #[], .func (.func 80) #[] #[], .func (.func 77) #[] #[], .func (.func 81) #[] #[]]) rfl rfl rfl (fun _ => by kernel_rfl) ?_))))))))))
  refine WL.do rfl (Do.newP (cs := [.bool false, .nilFunc, .nilFunc, .nilFunc, .nilFunc, .bool false, .nilFunc, .nilFunc, .nilFunc, .nilFunc, .bool false, .nilFunc, .nilFunc, .nilFunc, .nilFunc, .bool false, .nilFunc, .nilFunc, .nilFunc, .nilFunc, .bool false, .nilFunc, .nilFunc, .nilFunc, .nilFunc, .bool false, .nilFunc, .nilFunc, .nilFunc, .nilFunc]) (t := 109) H23 rfl rfl (fun _ => by kernel_rfl) ?_)
  intro g24 w25 H26
  replace H26 : Own w D w25 [blk g24 [.bool false, .nilFunc, .nilFunc, .nilFunc, .nilFunc, .bool false, .nilFunc, .nilFunc, .nilFunc, .nilFunc, .bool false, .nilFunc, .nilFunc, .nilFunc, .nilFunc, .bool false, .nilFunc, .nilFunc, .nilFunc, .nilFunc, .bool false, .nilFunc, .nilFunc, .nilFunc, .nilFunc, .bool false, .nilFunc, .nilFunc, .nilFunc, .nilFunc] 109, blk g21 [.bool false, .nilFunc, .nilFunc, .nilFunc, .nilFunc] 95] := H26
  refine WL.do0 (Do.store (vs := [.bool false, .nilFunc, .nilFunc, .nilFunc, .nilFunc, .bool false, .func (.func 67) #[] #[], .func (.func 68) #[] #[], .func (.func 69) #[] #[], .func (.func 70) #[] #[], .bool true, .func (.func 71) #[] #[], .func (.func 72) #[] #[], .func (.func 69) #[] #[], .func (.func 73) #[] #[], .bool true, .func (.func 67) #[] #[], .func (.func 68) #[] #[], .func (.func 69) #[] #[], .func (.func 74) #[] #[], .bool false, .func (.func 75) #[] #[], .func (.func 76) #[] #[], .func (.func 77) #[] #[], .func (.func 78) #[] #[], .bool true, .func (.func 79) #[] #[], .func (.func 80) #[] #[], .func (.func 77) #[] #[], .func (.func 81) #[] #[]]) (o := 0) H26 rfl rfl Try.sizeOf109 rfl rfl rfl rfl ?_)
  intro w27 H28
  replace H28 : Own w D w27 [blk g24 [.bool false, .nilFunc, .nilFunc, .nilFunc, .nilFunc, .bool false, .func (.func 67) #[] #[], .func (.func 68) #[] #[], .func (.func 69) #[] #[], .func (.func 70) #[] #[], .bool true, .func (.func 71) #[] #[], .func (.func 72) #[] #[], .func (.func 69) #[] #[], .func (.func 73) #[] #[], .bool true, .func (.func 67) #[] #[], .func (.func 68) #[] #[], .func (.func 69) #[] #[], .func (.func 74) #[] #[], .bool false, .func (.func 75) #[] #[], .func (.func 76) #[] #[], .func (.func 77) #[] #[], .func (.func 78) #[] #[], .bool true, .func (.func 79) #[] #[], .func (.func 80) #[] #[], .func (.func 77) #[] #[], .func (.func 81) #[] #[]] 109, blk g21 [.bool false, .nilFunc, .nilFunc, .nilFunc, .nilFunc] 95] := H28
  refine WL.nil (Fin.then (Wp.seq (Wp.seq (Wp.region (Mv rfl rfl (Kn (v := .bool (decide (p0 ≤ 0))) rfl rfl rfl (fun _ => by kernel_rfl) (Mv rfl rfl ?_)))))))
  by_cases h29 : p0 ≤ 0
  refine Sk rfl rfl (decide_eq_true h29) rfl (Sk rfl rfl (decide_eq_true h29) rfl (WL.val (v := .bool true) rfl (Yl.pickT rfl (decide_eq_true h29) rfl) (WL.nil (Fin.then (Wp.cond1 rfl rfl (Wp.seq (Wp.region (Kn (v := .agg #[.bool false, .nilFunc, .nilFunc, .nilFunc, .nilFunc]) rfl rfl rfl (fun _ => by kernel_rfl) ?_))))))))
  have H30 : Own w D w27 [blk g21 [.bool false, .nilFunc, .nilFunc, .nilFunc, .nilFunc] 95, blk g24 [.bool false, .nilFunc, .nilFunc, .nilFunc, .nilFunc, .bool false, .func (.func 67) #[] #[], .func (.func 68) #[] #[], .func (.func 69) #[] #[], .func (.func 70) #[] #[], .bool true, .func (.func 71) #[] #[], .func (.func 72) #[] #[], .func (.func 69) #[] #[], .func (.func 73) #[] #[], .bool true, .func (.func 67) #[] #[], .func (.func 68) #[] #[], .func (.func 69) #[] #[], .func (.func 74) #[] #[], .bool false, .func (.func 75) #[] #[], .func (.func 76) #[] #[], .func (.func 77) #[] #[], .func (.func 78) #[] #[], .bool true, .func (.func 79) #[] #[], .func (.func 80) #[] #[], .func (.func 77) #[] #[], .func (.func 81) #[] #[]] 109] := H28.pick [1, 0] (by decide) rfl
  refine WL.do0 (Do.store (vs := [.bool false, .nilFunc, .nilFunc, .nilFunc, .nilFunc]) (o := 0) H30 rfl rfl Try.sizeOf95 rfl rfl rfl rfl ?_)
  intro w31 H32
  replace H32 : Own w D w31 [blk g21 [.bool false, .nilFunc, .nilFunc, .nilFunc, .nilFunc] 95, blk g24 [.bool false, .nilFunc, .nilFunc, .nilFunc, .nilFunc, .bool false, .func (.func 67) #[] #[], .func (.func 68) #[] #[], .func (.func 69) #[] #[], .func (.func 70) #[] #[], .bool true, .func (.func 71) #[] #[], .func (.func 72) #[] #[], .func (.func 69) #[] #[], .func (.func 73) #[] #[], .bool true, .func (.func 67) #[] #[], .func (.func 68) #[] #[], .func (.func 69) #[] #[], .func (.func 74) #[] #[], .bool false, .func (.func 75) #[] #[], .func (.func 76) #[] #[], .func (.func 77) #[] #[], .func (.func 78) #[] #[], .bool true, .func (.func 79) #[] #[], .func (.func 80) #[] #[], .func (.func 77) #[] #[], .func (.func 81) #[] #[]] 109] := H32
  refine As rfl rfl (WL.nil (Fin.then (Wp.ret (Fin.thenR (Fin.res (resN (vs := [.agg #[.bool false, .nilFunc, .nilFunc, .nilFunc, .nilFunc], .bool false]) rfl (ResV.cell rfl (Lds.agg (cs := [.bool false, .nilFunc, .nilFunc, .nilFunc, .nilFunc]) Try.isAgg95 Try.sizeOf95 ((H32.cls (i := 0) rfl).lit (k := 0) (m := 5) rfl)) (ResV.tmp rfl ResV.nil)) (Nat.le_of_ble_eq_true rfl)) ?_)))))
  have H33 : Own w D w31 [] := H32.pick [] (by decide) rfl
  exact ⟨rfl, H33⟩
  refine WL.valG (v := .int .i64 p0) rfl rfl (decide_eq_false h29) rfl (Yl.move rfl) (WL.valG (v := .bool (decide (p0 ≥ 6))) rfl rfl (decide_eq_false h29) rfl (Yl.kern rfl rfl (fun _ => by kernel_rfl)) (WL.val (v := .bool (decide (p0 ≥ 6))) rfl (Yl.pickF rfl (decide_eq_false h29) rfl) (WL.nil (Fin.then ?_))))
  have hb34 : (decide (p0 ≥ 6)) = true := (decide_eq_true (by omega))
  refine Wp.cond1 rfl hb34 (Wp.seq (Wp.region (Kn (v := .agg #[.bool false, .nilFunc, .nilFunc, .nilFunc, .nilFunc]) rfl rfl rfl (fun _ => by kernel_rfl) ?_)))
  have H35 : Own w D w27 [blk g21 [.bool false, .nilFunc, .nilFunc, .nilFunc, .nilFunc] 95, blk g24 [.bool false, .nilFunc, .nilFunc, .nilFunc, .nilFunc, .bool false, .func (.func 67) #[] #[], .func (.func 68) #[] #[], .func (.func 69) #[] #[], .func (.func 70) #[] #[], .bool true, .func (.func 71) #[] #[], .func (.func 72) #[] #[], .func (.func 69) #[] #[], .func (.func 73) #[] #[], .bool true, .func (.func 67) #[] #[], .func (.func 68) #[] #[], .func (.func 69) #[] #[], .func (.func 74) #[] #[], .bool false, .func (.func 75) #[] #[], .func (.func 76) #[] #[], .func (.func 77) #[] #[], .func (.func 78) #[] #[], .bool true, .func (.func 79) #[] #[], .func (.func 80) #[] #[], .func (.func 77) #[] #[], .func (.func 81) #[] #[]] 109] := H28.pick [1, 0] (by decide) rfl
  refine WL.do0 (Do.store (vs := [.bool false, .nilFunc, .nilFunc, .nilFunc, .nilFunc]) (o := 0) H35 rfl rfl Try.sizeOf95 rfl rfl rfl rfl ?_)
  intro w36 H37
  replace H37 : Own w D w36 [blk g21 [.bool false, .nilFunc, .nilFunc, .nilFunc, .nilFunc] 95, blk g24 [.bool false, .nilFunc, .nilFunc, .nilFunc, .nilFunc, .bool false, .func (.func 67) #[] #[], .func (.func 68) #[] #[], .func (.func 69) #[] #[], .func (.func 70) #[] #[], .bool true, .func (.func 71) #[] #[], .func (.func 72) #[] #[], .func (.func 69) #[] #[], .func (.func 73) #[] #[], .bool true, .func (.func 67) #[] #[], .func (.func 68) #[] #[], .func (.func 69) #[] #[], .func (.func 74) #[] #[], .bool false, .func (.func 75) #[] #[], .func (.func 76) #[] #[], .func (.func 77) #[] #[], .func (.func 78) #[] #[], .bool true, .func (.func 79) #[] #[], .func (.func 80) #[] #[], .func (.func 77) #[] #[], .func (.func 81) #[] #[]] 109] := H37
  refine As rfl rfl (WL.nil (Fin.then (Wp.ret (Fin.thenR (Fin.res (resN (vs := [.agg #[.bool false, .nilFunc, .nilFunc, .nilFunc, .nilFunc], .bool false]) rfl (ResV.cell rfl (Lds.agg (cs := [.bool false, .nilFunc, .nilFunc, .nilFunc, .nilFunc]) Try.isAgg95 Try.sizeOf95 ((H37.cls (i := 0) rfl).lit (k := 0) (m := 5) rfl)) (ResV.tmp rfl ResV.nil)) (Nat.le_of_ble_eq_true rfl)) ?_)))))
  have H38 : Own w D w36 [] := H37.pick [] (by decide) rfl
  exact ⟨rfl, H38⟩

def op_CheckOp (p0 : OpD) : Int :=
  if p0.xKind = 1 then bnd (op_ownKey p0) fun yr46 => if (yr46.xKind = p0.xKind) ∧ (yr46.xKey = p0.xKey) ∧ (yr46.xValue = p0.xValue) ∧ (yr46.xLo = p0.xLo) ∧ (yr46.xHi = p0.xHi) ∧ (yr46.xMost = p0.xMost) then bnd (op_checkKey p0) fun yr57 => yr57 else 40 else if p0.xKind = 2 then bnd (op_ownPair p0) fun yr86 => if (yr86.xKind = p0.xKind) ∧ (yr86.xKey = p0.xKey) ∧ (yr86.xValue = p0.xValue) ∧ (yr86.xLo = p0.xLo) ∧ (yr86.xHi = p0.xHi) ∧ (yr86.xMost = p0.xMost) then bnd (op_checkPair p0) fun yr97 => yr97 else 40 else if p0.xKind = 3 then bnd (op_ownKey p0) fun yr126 => if (yr126.xKind = p0.xKind) ∧ (yr126.xKey = p0.xKey) ∧ (yr126.xValue = p0.xValue) ∧ (yr126.xLo = p0.xLo) ∧ (yr126.xHi = p0.xHi) ∧ (yr126.xMost = p0.xMost) then bnd (op_checkKey p0) fun yr137 => yr137 else 40 else if p0.xKind = 4 then bnd (op_ownScan p0) fun yr166 => if (yr166.xKind = p0.xKind) ∧ (yr166.xKey = p0.xKey) ∧ (yr166.xValue = p0.xValue) ∧ (yr166.xLo = p0.xLo) ∧ (yr166.xHi = p0.xHi) ∧ (yr166.xMost = p0.xMost) then bnd (op_checkScan p0) fun yr177 => yr177 else 40 else if p0.xKind = 5 then bnd (op_ownRange p0) fun yr206 => if (yr206.xKind = p0.xKind) ∧ (yr206.xKey = p0.xKey) ∧ (yr206.xValue = p0.xValue) ∧ (yr206.xLo = p0.xLo) ∧ (yr206.xHi = p0.xHi) ∧ (yr206.xMost = p0.xMost) then bnd (op_checkRange p0) fun yr217 => yr217 else 40 else 40

set_option maxRecDepth 100000 in
theorem op_CheckOp_ok (w : World) (D : Nat → Prop) (p0 : OpD) (r0 : Int) (H : Own w D w [])  (hr : op_CheckOp p0 = r0) :
    Calls Try.prog 66 #[.agg (OpD.cells p0).toArray] w (Ret fun v w' => v = .int .i64 r0 ∧ Own w D w' [] ∧ (¬ (r0 = 0) ∨ (1 ≤ p0.xKind ∧ p0.xKind ≤ 5))) := by
  refine Calls.body (args := [.agg (OpD.cells p0).toArray]) Try.func66 rfl rfl rfl ?_
  show Wp _ _ _ [(0, .agg (OpD.cells p0).toArray)] _ _
  refine Wp.seq (Wp.region ?_)
  refine WL.do rfl (Do.newP (cs := (OpD.cells p0)) (t := 74) H rfl rfl (fun _ => by kernel_rfl) ?_)
  intro g21 w22 H23
  replace H23 : Own w D w22 [blk g21 (OpD.cells p0) 74] := H23
  refine As rfl rfl (WL.nil (Fin.then (Wp.seq (Wp.region (Kn (v := .pointer (some ⟨g21, 0, none⟩)) rfl rfl rfl (fun _ => by kernel_rfl) (WL.val (v := .int .i64 p0.xKind) rfl (Yl.load rfl (Lds.one Try.isAgg3 (Cls.of (H23.cls (i := 0) rfl) rfl))) ?_))))))
  by_cases h24 : p0.xKind = 1
  obtain ⟨D25, HP26, ro27, bk28, rr29⟩ := Own.enter0 H23
  refine WL.do rfl (Do.call Try.call54 rfl (op_kindOf_1_ok _ _ p0.xKind HP26 (of_decide_eq_true (decide_eq_true h24))) ?_)
  rintro _ w31 ⟨rfl, HQ32⟩
  have H33 : Own w D w31 [blk g21 (OpD.cells p0) 74] := bk28 _ _ HQ32
  refine Mv rfl rfl (Kn (v := .agg #[.bool false, .func (.func 67) #[] #[], .func (.func 68) #[] #[], .func (.func 69) #[] #[], .func (.func 70) #[] #[]]) rfl rfl rfl (fun _ => by kernel_rfl) (Kn (v := .bool true) rfl rfl rfl (fun _ => by kernel_rfl) ?_))
  refine WL.do rfl (Do.newP (cs := [.bool false, .nilFunc, .nilFunc, .nilFunc, .nilFunc]) (t := 95) H33 rfl rfl (fun _ => by kernel_rfl) ?_)
  intro g34 w35 H36
  replace H36 : Own w D w35 [blk g34 [.bool false, .nilFunc, .nilFunc, .nilFunc, .nilFunc] 95, blk g21 (OpD.cells p0) 74] := H36
  refine WL.do0 (Do.store (vs := [.bool false, .func (.func 67) #[] #[], .func (.func 68) #[] #[], .func (.func 69) #[] #[], .func (.func 70) #[] #[]]) (o := 0) H36 rfl rfl Try.sizeOf95 rfl rfl rfl rfl ?_)
  intro w37 H38
  replace H38 : Own w D w37 [blk g34 [.bool false, .func (.func 67) #[] #[], .func (.func 68) #[] #[], .func (.func 69) #[] #[], .func (.func 70) #[] #[]] 95, blk g21 (OpD.cells p0) 74] := H38
  refine As rfl rfl (WL.nil (Fin.then (Wp.seq (Wp.seq ?_))))
  have H40 := H38.drew
  refine Wp.drawnX [] (fun W => ∃ L', Own w D W ([blk g34 [.bool false, .func (.func 67) #[] #[], .func (.func 68) #[] #[], .func (.func 69) #[] #[], .func (.func 70) #[] #[]] 95, blk g21 (OpD.cells p0) 74] ++ L')) (by kernel_rfl) (by kernel_rfl) (NoP.then (NoP.then NoP.base)) ⟨_, H40⟩ ?_
  revert H40
  generalize World.drew w37 = w39
  intro H40
  replace H40 : Own w D w39 [blk g34 [.bool false, .func (.func 67) #[] #[], .func (.func 68) #[] #[], .func (.func 69) #[] #[], .func (.func 70) #[] #[]] 95, blk g21 (OpD.cells p0) 74] := H40
  refine GX.take (v := .bool true) (rs := []) 0 rfl (by kernel_rfl) (fun _ _ => Yl.move rfl) (GX.take (v := .bool false) (rs := []) 1 rfl (by kernel_rfl) (fun _ _ => Yl.kern rfl rfl (fun _ => by kernel_rfl)) (GX.take (v := .bool false) (rs := []) 2 rfl (by kernel_rfl) (fun _ _ => Yl.move rfl) (GX.takeG (v := .pointer (some ⟨g34, 1, none⟩)) (rs := []) 3 rfl rfl rfl rfl (by kernel_rfl) (fun _ _ => Yl.kern rfl rfl (fun _ => by kernel_rfl)) (GX.takeG (v := .func (.func 67) #[] #[]) (rs := []) 4 rfl rfl rfl rfl (by kernel_rfl) (fun _ ⟨_, H9⟩ => Yl.load rfl (Lds.one Try.isAgg90 (Cls.of (H9.cls (i := 0) rfl) rfl))) (GX.takeG (v := .agg (OpD.cells p0).toArray) (rs := []) 5 rfl rfl rfl rfl (by kernel_rfl) (fun _ ⟨_, H9⟩ => Yl.load rfl (Lds.agg (cs := (OpD.cells p0)) Try.isAgg74 Try.sizeOf74 ((H9.cls (i := 1) rfl).lit (k := 0) (m := 6) rfl))) (GX.takeG (v := .agg (OpD.cells p0).toArray) (rs := []) 7 rfl rfl rfl rfl (by kernel_rfl) (fun _ ⟨_, H9⟩ => Yl.load rfl (Lds.agg (cs := (OpD.cells p0)) Try.isAgg74 Try.sizeOf74 ((H9.cls (i := 1) rfl).lit (k := 0) (m := 6) rfl))) ?_))))))
  obtain ⟨r46, hr47⟩ : ∃ q, op_ownKey p0 = q := ⟨_, rfl⟩
  obtain ⟨D41, HP42, ro43, bk44, rr45⟩ := Own.enter0 H40
  refine GX.doG 6 rfl rfl rfl rfl (by kernel_rfl) (Do.callV Try.call67 rfl rfl (op_ownKey_ok _ _ p0 r46 HP42 hr47) ?_)
  rintro _ w48 ⟨rfl, HQ49⟩
  have H50 : Own w D w48 [blk g34 [.bool false, .func (.func 67) #[] #[], .func (.func 68) #[] #[], .func (.func 69) #[] #[], .func (.func 70) #[] #[]] 95, blk g21 (OpD.cells p0) 74] := bk44 _ _ HQ49
  refine ⟨.inr ⟨_, H50⟩, ?_⟩
  refine GX.takeG (v := .bool (decide (¬ ((r46.xKind = p0.xKind) ∧ (r46.xKey = p0.xKey) ∧ (r46.xValue = p0.xValue) ∧ (r46.xLo = p0.xLo) ∧ (r46.xHi = p0.xHi) ∧ (r46.xMost = p0.xMost))))) (rs := []) 8 rfl rfl rfl rfl (by kernel_rfl) (fun _ _ => Yl.bool (e := !(decide ((r46.xKind = p0.xKind) ∧ (r46.xKey = p0.xKey) ∧ (r46.xValue = p0.xValue) ∧ (r46.xLo = p0.xLo) ∧ (r46.xHi = p0.xHi) ∧ (r46.xMost = p0.xMost)))) (Yl.neAgg rfl rfl (by kernel_rfl) rfl (Eqv.struct Try.underlying74 (by kernel_rfl) (EqF.dec (EqF.cons (u := .int .i64 r46.xKind) (v := .int .i64 p0.xKind) (by decide) (fun _ => by kernel_rfl) (fun _ => by kernel_rfl) (Eqv.int Try.underlying3) (EqF.cons (u := .string ⟨List.toArray r46.xKey⟩) (v := .string ⟨List.toArray p0.xKey⟩) (by decide) (fun _ => by kernel_rfl) (fun _ => by kernel_rfl) (Eqv.string Try.underlying9) (EqF.cons (u := .string ⟨List.toArray r46.xValue⟩) (v := .string ⟨List.toArray p0.xValue⟩) (by decide) (fun _ => by kernel_rfl) (fun _ => by kernel_rfl) (Eqv.string Try.underlying9) (EqF.cons (u := .string ⟨List.toArray r46.xLo⟩) (v := .string ⟨List.toArray p0.xLo⟩) (by decide) (fun _ => by kernel_rfl) (fun _ => by kernel_rfl) (Eqv.string Try.underlying9) (EqF.cons (u := .string ⟨List.toArray r46.xHi⟩) (v := .string ⟨List.toArray p0.xHi⟩) (by decide) (fun _ => by kernel_rfl) (fun _ => by kernel_rfl) (Eqv.string Try.underlying9) (EqF.cons (u := .int .i64 r46.xMost) (v := .int .i64 p0.xMost) (by decide) (fun _ => by kernel_rfl) (fun _ => by kernel_rfl) (Eqv.int Try.underlying3) (EqF.nil.up (Nat.zero_le _)))))))) ((congrArg (decide (r46.xKind = p0.xKind) && ·) ((congrArg (decide (r46.xKey = p0.xKey) && ·) ((congrArg (decide (r46.xValue = p0.xValue) && ·) ((congrArg (decide (r46.xLo = p0.xLo) && ·) ((congrArg (decide (r46.xHi = p0.xHi) && ·) and_dec1).trans and_dec)).trans and_dec)).trans and_dec)).trans and_dec)).trans and_dec)))) decide_not.symm) (GX.take (v := .bool (decide (¬ ((r46.xKind = p0.xKind) ∧ (r46.xKey = p0.xKey) ∧ (r46.xValue = p0.xValue) ∧ (r46.xLo = p0.xLo) ∧ (r46.xHi = p0.xHi) ∧ (r46.xMost = p0.xMost))))) (rs := []) 9 rfl (by kernel_rfl) (fun _ _ => Yl.pickF rfl rfl rfl) (GX.done (by kernel_rfl) (Fin.then ?_)))
  by_cases h51 : (r46.xKind = p0.xKind) ∧ (r46.xKey = p0.xKey) ∧ (r46.xValue = p0.xValue) ∧ (r46.xLo = p0.xLo) ∧ (r46.xHi = p0.xHi) ∧ (r46.xMost = p0.xMost)
  refine Wp.cond0 rfl (decide_eq_false (not_not_intro h51)) (Wp.skip (Fin.then (Wp.seq (Wp.region (Kn (v := .pointer (some ⟨g34, 2, none⟩)) rfl rfl rfl (fun _ => by kernel_rfl) (WL.val (v := .func (.func 68) #[] #[]) rfl (Yl.load rfl (Lds.one Try.isAgg91 (Cls.of (H50.cls (i := 0) rfl) rfl))) (WL.val (v := .agg (OpD.cells p0).toArray) rfl (Yl.load rfl (Lds.agg (cs := (OpD.cells p0)) Try.isAgg74 Try.sizeOf74 ((H50.cls (i := 1) rfl).lit (k := 0) (m := 6) rfl))) ?_)))))))
  obtain ⟨r57, hr58⟩ : ∃ q, op_checkKey p0 = q := ⟨_, rfl⟩
  obtain ⟨D52, HP53, ro54, bk55, rr56⟩ := Own.enter0 H50
  refine WL.do rfl (Do.callV Try.call68 rfl rfl (op_checkKey_ok _ _ p0 r57 HP53 hr58) ?_)
  rintro _ w59 ⟨rfl, HQ60⟩
  have H61 : Own w D w59 [blk g34 [.bool false, .func (.func 67) #[] #[], .func (.func 68) #[] #[], .func (.func 69) #[] #[], .func (.func 70) #[] #[]] 95, blk g21 (OpD.cells p0) 74] := bk55 _ _ HQ60
  refine As rfl rfl (WL.nil (Fin.then (Wp.ret (Fin.res (res1 rfl rfl) ?_))))
  have H62 : Own w D w59 [] := H61.pick [] (by decide) rfl
  have e : op_CheckOp p0 = r57 := Eq.trans (if_pos h24) (Eq.trans (bnd_of hr47) (Eq.trans (if_pos h51) (bnd_of hr58)))
  obtain rfl := e.symm.trans hr
  exact ⟨rfl, H62, (by omega)⟩
  refine Wp.cond1 rfl (decide_eq_true h51) (Wp.seq (Wp.region (As rfl rfl (WL.nil (Fin.then (Wp.ret (Fin.thenR (Fin.res (res1 rfl rfl) ?_))))))))
  have H63 : Own w D w48 [] := H50.pick [] (by decide) rfl
  have e : op_CheckOp p0 = 40 := Eq.trans (if_pos h24) (Eq.trans (bnd_of hr47) (if_neg h51))
  obtain rfl := e.symm.trans hr
  exact ⟨rfl, H63, (by omega)⟩
  by_cases h64 : p0.xKind = 2
  obtain ⟨D65, HP66, ro67, bk68, rr69⟩ := Own.enter0 H23
  refine WL.do rfl (Do.call Try.call54 rfl (op_kindOf_2_ok _ _ p0.xKind HP66 (of_decide_eq_true (decide_eq_true h64))) ?_)
  rintro _ w71 ⟨rfl, HQ72⟩
  have H73 : Own w D w71 [blk g21 (OpD.cells p0) 74] := bk68 _ _ HQ72
  refine Mv rfl rfl (Kn (v := .agg #[.bool true, .func (.func 71) #[] #[], .func (.func 72) #[] #[], .func (.func 69) #[] #[], .func (.func 73) #[] #[]]) rfl rfl rfl (fun _ => by kernel_rfl) (Kn (v := .bool true) rfl rfl rfl (fun _ => by kernel_rfl) ?_))
  refine WL.do rfl (Do.newP (cs := [.bool false, .nilFunc, .nilFunc, .nilFunc, .nilFunc]) (t := 95) H73 rfl rfl (fun _ => by kernel_rfl) ?_)
  intro g74 w75 H76
  replace H76 : Own w D w75 [blk g74 [.bool false, .nilFunc, .nilFunc, .nilFunc, .nilFunc] 95, blk g21 (OpD.cells p0) 74] := H76
  refine WL.do0 (Do.store (vs := [.bool true, .func (.func 71) #[] #[], .func (.func 72) #[] #[], .func (.func 69) #[] #[], .func (.func 73) #[] #[]]) (o := 0) H76 rfl rfl Try.sizeOf95 rfl rfl rfl rfl ?_)
  intro w77 H78
  replace H78 : Own w D w77 [blk g74 [.bool true, .func (.func 71) #[] #[], .func (.func 72) #[] #[], .func (.func 69) #[] #[], .func (.func 73) #[] #[]] 95, blk g21 (OpD.cells p0) 74] := H78
  refine As rfl rfl (WL.nil (Fin.then (Wp.seq (Wp.seq ?_))))
  have H80 := H78.drew
  refine Wp.drawnX [] (fun W => ∃ L', Own w D W ([blk g74 [.bool true, .func (.func 71) #[] #[], .func (.func 72) #[] #[], .func (.func 69) #[] #[], .func (.func 73) #[] #[]] 95, blk g21 (OpD.cells p0) 74] ++ L')) (by kernel_rfl) (by kernel_rfl) (NoP.then (NoP.then NoP.base)) ⟨_, H80⟩ ?_
  revert H80
  generalize World.drew w77 = w79
  intro H80
  replace H80 : Own w D w79 [blk g74 [.bool true, .func (.func 71) #[] #[], .func (.func 72) #[] #[], .func (.func 69) #[] #[], .func (.func 73) #[] #[]] 95, blk g21 (OpD.cells p0) 74] := H80
  refine GX.take (v := .bool true) (rs := []) 0 rfl (by kernel_rfl) (fun _ _ => Yl.move rfl) (GX.take (v := .bool false) (rs := []) 1 rfl (by kernel_rfl) (fun _ _ => Yl.kern rfl rfl (fun _ => by kernel_rfl)) (GX.take (v := .bool false) (rs := []) 2 rfl (by kernel_rfl) (fun _ _ => Yl.move rfl) (GX.takeG (v := .pointer (some ⟨g74, 1, none⟩)) (rs := []) 3 rfl rfl rfl rfl (by kernel_rfl) (fun _ _ => Yl.kern rfl rfl (fun _ => by kernel_rfl)) (GX.takeG (v := .func (.func 71) #[] #[]) (rs := []) 4 rfl rfl rfl rfl (by kernel_rfl) (fun _ ⟨_, H9⟩ => Yl.load rfl (Lds.one Try.isAgg90 (Cls.of (H9.cls (i := 0) rfl) rfl))) (GX.takeG (v := .agg (OpD.cells p0).toArray) (rs := []) 5 rfl rfl rfl rfl (by kernel_rfl) (fun _ ⟨_, H9⟩ => Yl.load rfl (Lds.agg (cs := (OpD.cells p0)) Try.isAgg74 Try.sizeOf74 ((H9.cls (i := 1) rfl).lit (k := 0) (m := 6) rfl))) (GX.takeG (v := .agg (OpD.cells p0).toArray) (rs := []) 7 rfl rfl rfl rfl (by kernel_rfl) (fun _ ⟨_, H9⟩ => Yl.load rfl (Lds.agg (cs := (OpD.cells p0)) Try.isAgg74 Try.sizeOf74 ((H9.cls (i := 1) rfl).lit (k := 0) (m := 6) rfl))) ?_))))))
  obtain ⟨r86, hr87⟩ : ∃ q, op_ownPair p0 = q := ⟨_, rfl⟩
  obtain ⟨D81, HP82, ro83, bk84, rr85⟩ := Own.enter0 H80
  refine GX.doG 6 rfl rfl rfl rfl (by kernel_rfl) (Do.callV Try.call71 rfl rfl (op_ownPair_ok _ _ p0 r86 HP82 hr87) ?_)
  rintro _ w88 ⟨rfl, HQ89⟩
  have H90 : Own w D w88 [blk g74 [.bool true, .func (.func 71) #[] #[], .func (.func 72) #[] #[], .func (.func 69) #[] #[], .func (.func 73) #[] #[]] 95, blk g21 (OpD.cells p0) 74] := bk84 _ _ HQ89
  refine ⟨.inr ⟨_, H90⟩, ?_⟩
  refine GX.takeG (v := .bool (decide (¬ ((r86.xKind = p0.xKind) ∧ (r86.xKey = p0.xKey) ∧ (r86.xValue = p0.xValue) ∧ (r86.xLo = p0.xLo) ∧ (r86.xHi = p0.xHi) ∧ (r86.xMost = p0.xMost))))) (rs := []) 8 rfl rfl rfl rfl (by kernel_rfl) (fun _ _ => Yl.bool (e := !(decide ((r86.xKind = p0.xKind) ∧ (r86.xKey = p0.xKey) ∧ (r86.xValue = p0.xValue) ∧ (r86.xLo = p0.xLo) ∧ (r86.xHi = p0.xHi) ∧ (r86.xMost = p0.xMost)))) (Yl.neAgg rfl rfl (by kernel_rfl) rfl (Eqv.struct Try.underlying74 (by kernel_rfl) (EqF.dec (EqF.cons (u := .int .i64 r86.xKind) (v := .int .i64 p0.xKind) (by decide) (fun _ => by kernel_rfl) (fun _ => by kernel_rfl) (Eqv.int Try.underlying3) (EqF.cons (u := .string ⟨List.toArray r86.xKey⟩) (v := .string ⟨List.toArray p0.xKey⟩) (by decide) (fun _ => by kernel_rfl) (fun _ => by kernel_rfl) (Eqv.string Try.underlying9) (EqF.cons (u := .string ⟨List.toArray r86.xValue⟩) (v := .string ⟨List.toArray p0.xValue⟩) (by decide) (fun _ => by kernel_rfl) (fun _ => by kernel_rfl) (Eqv.string Try.underlying9) (EqF.cons (u := .string ⟨List.toArray r86.xLo⟩) (v := .string ⟨List.toArray p0.xLo⟩) (by decide) (fun _ => by kernel_rfl) (fun _ => by kernel_rfl) (Eqv.string Try.underlying9) (EqF.cons (u := .string ⟨List.toArray r86.xHi⟩) (v := .string ⟨List.toArray p0.xHi⟩) (by decide) (fun _ => by kernel_rfl) (fun _ => by kernel_rfl) (Eqv.string Try.underlying9) (EqF.cons (u := .int .i64 r86.xMost) (v := .int .i64 p0.xMost) (by decide) (fun _ => by kernel_rfl) (fun _ => by kernel_rfl) (Eqv.int Try.underlying3) (EqF.nil.up (Nat.zero_le _)))))))) ((congrArg (decide (r86.xKind = p0.xKind) && ·) ((congrArg (decide (r86.xKey = p0.xKey) && ·) ((congrArg (decide (r86.xValue = p0.xValue) && ·) ((congrArg (decide (r86.xLo = p0.xLo) && ·) ((congrArg (decide (r86.xHi = p0.xHi) && ·) and_dec1).trans and_dec)).trans and_dec)).trans and_dec)).trans and_dec)).trans and_dec)))) decide_not.symm) (GX.take (v := .bool (decide (¬ ((r86.xKind = p0.xKind) ∧ (r86.xKey = p0.xKey) ∧ (r86.xValue = p0.xValue) ∧ (r86.xLo = p0.xLo) ∧ (r86.xHi = p0.xHi) ∧ (r86.xMost = p0.xMost))))) (rs := []) 9 rfl (by kernel_rfl) (fun _ _ => Yl.pickF rfl rfl rfl) (GX.done (by kernel_rfl) (Fin.then ?_)))
  by_cases h91 : (r86.xKind = p0.xKind) ∧ (r86.xKey = p0.xKey) ∧ (r86.xValue = p0.xValue) ∧ (r86.xLo = p0.xLo) ∧ (r86.xHi = p0.xHi) ∧ (r86.xMost = p0.xMost)
  refine Wp.cond0 rfl (decide_eq_false (not_not_intro h91)) (Wp.skip (Fin.then (Wp.seq (Wp.region (Kn (v := .pointer (some ⟨g74, 2, none⟩)) rfl rfl rfl (fun _ => by kernel_rfl) (WL.val (v := .func (.func 72) #[] #[]) rfl (Yl.load rfl (Lds.one Try.isAgg91 (Cls.of (H90.cls (i := 0) rfl) rfl))) (WL.val (v := .agg (OpD.cells p0).toArray) rfl (Yl.load rfl (Lds.agg (cs := (OpD.cells p0)) Try.isAgg74 Try.sizeOf74 ((H90.cls (i := 1) rfl).lit (k := 0) (m := 6) rfl))) ?_)))))))
  obtain ⟨r97, hr98⟩ : ∃ q, op_checkPair p0 = q := ⟨_, rfl⟩
  obtain ⟨D92, HP93, ro94, bk95, rr96⟩ := Own.enter0 H90
  refine WL.do rfl (Do.callV Try.call72 rfl rfl (op_checkPair_ok _ _ p0 r97 HP93 hr98) ?_)
  rintro _ w99 ⟨rfl, HQ100⟩
  have H101 : Own w D w99 [blk g74 [.bool true, .func (.func 71) #[] #[], .func (.func 72) #[] #[], .func (.func 69) #[] #[], .func (.func 73) #[] #[]] 95, blk g21 (OpD.cells p0) 74] := bk95 _ _ HQ100
  refine As rfl rfl (WL.nil (Fin.then (Wp.ret (Fin.res (res1 rfl rfl) ?_))))
  have H102 : Own w D w99 [] := H101.pick [] (by decide) rfl
  have e : op_CheckOp p0 = r97 := Eq.trans (if_neg h24) (Eq.trans (if_pos h64) (Eq.trans (bnd_of hr87) (Eq.trans (if_pos h91) (bnd_of hr98))))
  obtain rfl := e.symm.trans hr
  exact ⟨rfl, H102, (by omega)⟩
  refine Wp.cond1 rfl (decide_eq_true h91) (Wp.seq (Wp.region (As rfl rfl (WL.nil (Fin.then (Wp.ret (Fin.thenR (Fin.res (res1 rfl rfl) ?_))))))))
  have H103 : Own w D w88 [] := H90.pick [] (by decide) rfl
  have e : op_CheckOp p0 = 40 := Eq.trans (if_neg h24) (Eq.trans (if_pos h64) (Eq.trans (bnd_of hr87) (if_neg h91)))
  obtain rfl := e.symm.trans hr
  exact ⟨rfl, H103, (by omega)⟩
  by_cases h104 : p0.xKind = 3
  obtain ⟨D105, HP106, ro107, bk108, rr109⟩ := Own.enter0 H23
  refine WL.do rfl (Do.call Try.call54 rfl (op_kindOf_3_ok _ _ p0.xKind HP106 (of_decide_eq_true (decide_eq_true h104))) ?_)
  rintro _ w111 ⟨rfl, HQ112⟩
  have H113 : Own w D w111 [blk g21 (OpD.cells p0) 74] := bk108 _ _ HQ112
  refine Mv rfl rfl (Kn (v := .agg #[.bool true, .func (.func 67) #[] #[], .func (.func 68) #[] #[], .func (.func 69) #[] #[], .func (.func 74) #[] #[]]) rfl rfl rfl (fun _ => by kernel_rfl) (Kn (v := .bool true) rfl rfl rfl (fun _ => by kernel_rfl) ?_))
  refine WL.do rfl (Do.newP (cs := [.bool false, .nilFunc, .nilFunc, .nilFunc, .nilFunc]) (t := 95) H113 rfl rfl (fun _ => by kernel_rfl) ?_)
  intro g114 w115 H116
  replace H116 : Own w D w115 [blk g114 [.bool false, .nilFunc, .nilFunc, .nilFunc, .nilFunc] 95, blk g21 (OpD.cells p0) 74] := H116
  refine WL.do0 (Do.store (vs := [.bool true, .func (.func 67) #[] #[], .func (.func 68) #[] #[], .func (.func 69) #[] #[], .func (.func 74) #[] #[]]) (o := 0) H116 rfl rfl Try.sizeOf95 rfl rfl rfl rfl ?_)
  intro w117 H118
  replace H118 : Own w D w117 [blk g114 [.bool true, .func (.func 67) #[] #[], .func (.func 68) #[] #[], .func (.func 69) #[] #[], .func (.func 74) #[] #[]] 95, blk g21 (OpD.cells p0) 74] := H118
  refine As rfl rfl (WL.nil (Fin.then (Wp.seq (Wp.seq ?_))))
  have H120 := H118.drew
  refine Wp.drawnX [] (fun W => ∃ L', Own w D W ([blk g114 [.bool true, .func (.func 67) #[] #[], .func (.func 68) #[] #[], .func (.func 69) #[] #[], .func (.func 74) #[] #[]] 95, blk g21 (OpD.cells p0) 74] ++ L')) (by kernel_rfl) (by kernel_rfl) (NoP.then (NoP.then NoP.base)) ⟨_, H120⟩ ?_
  revert H120
  generalize World.drew w117 = w119
  intro H120
  replace H120 : Own w D w119 [blk g114 [.bool true, .func (.func 67) #[] #[], .func (.func 68) #[] #[], .func (.func 69) #[] #[], .func (.func 74) #[] #[]] 95, blk g21 (OpD.cells p0) 74] := H120
  refine GX.take (v := .bool true) (rs := []) 0 rfl (by kernel_rfl) (fun _ _ => Yl.move rfl) (GX.take (v := .bool false) (rs := []) 1 rfl (by kernel_rfl) (fun _ _ => Yl.kern rfl rfl (fun _ => by kernel_rfl)) (GX.take (v := .bool false) (rs := []) 2 rfl (by kernel_rfl) (fun _ _ => Yl.move rfl) (GX.takeG (v := .pointer (some ⟨g114, 1, none⟩)) (rs := []) 3 rfl rfl rfl rfl (by kernel_rfl) (fun _ _ => Yl.kern rfl rfl (fun _ => by kernel_rfl)) (GX.takeG (v := .func (.func 67) #[] #[]) (rs := []) 4 rfl rfl rfl rfl (by kernel_rfl) (fun _ ⟨_, H9⟩ => Yl.load rfl (Lds.one Try.isAgg90 (Cls.of (H9.cls (i := 0) rfl) rfl))) (GX.takeG (v := .agg (OpD.cells p0).toArray) (rs := []) 5 rfl rfl rfl rfl (by kernel_rfl) (fun _ ⟨_, H9⟩ => Yl.load rfl (Lds.agg (cs := (OpD.cells p0)) Try.isAgg74 Try.sizeOf74 ((H9.cls (i := 1) rfl).lit (k := 0) (m := 6) rfl))) (GX.takeG (v := .agg (OpD.cells p0).toArray) (rs := []) 7 rfl rfl rfl rfl (by kernel_rfl) (fun _ ⟨_, H9⟩ => Yl.load rfl (Lds.agg (cs := (OpD.cells p0)) Try.isAgg74 Try.sizeOf74 ((H9.cls (i := 1) rfl).lit (k := 0) (m := 6) rfl))) ?_))))))
  obtain ⟨r126, hr127⟩ : ∃ q, op_ownKey p0 = q := ⟨_, rfl⟩
  obtain ⟨D121, HP122, ro123, bk124, rr125⟩ := Own.enter0 H120
  refine GX.doG 6 rfl rfl rfl rfl (by kernel_rfl) (Do.callV Try.call67 rfl rfl (op_ownKey_ok _ _ p0 r126 HP122 hr127) ?_)
  rintro _ w128 ⟨rfl, HQ129⟩
  have H130 : Own w D w128 [blk g114 [.bool true, .func (.func 67) #[] #[], .func (.func 68) #[] #[], .func (.func 69) #[] #[], .func (.func 74) #[] #[]] 95, blk g21 (OpD.cells p0) 74] := bk124 _ _ HQ129
  refine ⟨.inr ⟨_, H130⟩, ?_⟩
  refine GX.takeG (v := .bool (decide (¬ ((r126.xKind = p0.xKind) ∧ (r126.xKey = p0.xKey) ∧ (r126.xValue = p0.xValue) ∧ (r126.xLo = p0.xLo) ∧ (r126.xHi = p0.xHi) ∧ (r126.xMost = p0.xMost))))) (rs := []) 8 rfl rfl rfl rfl (by kernel_rfl) (fun _ _ => Yl.bool (e := !(decide ((r126.xKind = p0.xKind) ∧ (r126.xKey = p0.xKey) ∧ (r126.xValue = p0.xValue) ∧ (r126.xLo = p0.xLo) ∧ (r126.xHi = p0.xHi) ∧ (r126.xMost = p0.xMost)))) (Yl.neAgg rfl rfl (by kernel_rfl) rfl (Eqv.struct Try.underlying74 (by kernel_rfl) (EqF.dec (EqF.cons (u := .int .i64 r126.xKind) (v := .int .i64 p0.xKind) (by decide) (fun _ => by kernel_rfl) (fun _ => by kernel_rfl) (Eqv.int Try.underlying3) (EqF.cons (u := .string ⟨List.toArray r126.xKey⟩) (v := .string ⟨List.toArray p0.xKey⟩) (by decide) (fun _ => by kernel_rfl) (fun _ => by kernel_rfl) (Eqv.string Try.underlying9) (EqF.cons (u := .string ⟨List.toArray r126.xValue⟩) (v := .string ⟨List.toArray p0.xValue⟩) (by decide) (fun _ => by kernel_rfl) (fun _ => by kernel_rfl) (Eqv.string Try.underlying9) (EqF.cons (u := .string ⟨List.toArray r126.xLo⟩) (v := .string ⟨List.toArray p0.xLo⟩) (by decide) (fun _ => by kernel_rfl) (fun _ => by kernel_rfl) (Eqv.string Try.underlying9) (EqF.cons (u := .string ⟨List.toArray r126.xHi⟩) (v := .string ⟨List.toArray p0.xHi⟩) (by decide) (fun _ => by kernel_rfl) (fun _ => by kernel_rfl) (Eqv.string Try.underlying9) (EqF.cons (u := .int .i64 r126.xMost) (v := .int .i64 p0.xMost) (by decide) (fun _ => by kernel_rfl) (fun _ => by kernel_rfl) (Eqv.int Try.underlying3) (EqF.nil.up (Nat.zero_le _)))))))) ((congrArg (decide (r126.xKind = p0.xKind) && ·) ((congrArg (decide (r126.xKey = p0.xKey) && ·) ((congrArg (decide (r126.xValue = p0.xValue) && ·) ((congrArg (decide (r126.xLo = p0.xLo) && ·) ((congrArg (decide (r126.xHi = p0.xHi) && ·) and_dec1).trans and_dec)).trans and_dec)).trans and_dec)).trans and_dec)).trans and_dec)))) decide_not.symm) (GX.take (v := .bool (decide (¬ ((r126.xKind = p0.xKind) ∧ (r126.xKey = p0.xKey) ∧ (r126.xValue = p0.xValue) ∧ (r126.xLo = p0.xLo) ∧ (r126.xHi = p0.xHi) ∧ (r126.xMost = p0.xMost))))) (rs := []) 9 rfl (by kernel_rfl) (fun _ _ => Yl.pickF rfl rfl rfl) (GX.done (by kernel_rfl) (Fin.then ?_)))
  by_cases h131 : (r126.xKind = p0.xKind) ∧ (r126.xKey = p0.xKey) ∧ (r126.xValue = p0.xValue) ∧ (r126.xLo = p0.xLo) ∧ (r126.xHi = p0.xHi) ∧ (r126.xMost = p0.xMost)
  refine Wp.cond0 rfl (decide_eq_false (not_not_intro h131)) (Wp.skip (Fin.then (Wp.seq (Wp.region (Kn (v := .pointer (some ⟨g114, 2, none⟩)) rfl rfl rfl (fun _ => by kernel_rfl) (WL.val (v := .func (.func 68) #[] #[]) rfl (Yl.load rfl (Lds.one Try.isAgg91 (Cls.of (H130.cls (i := 0) rfl) rfl))) (WL.val (v := .agg (OpD.cells p0).toArray) rfl (Yl.load rfl (Lds.agg (cs := (OpD.cells p0)) Try.isAgg74 Try.sizeOf74 ((H130.cls (i := 1) rfl).lit (k := 0) (m := 6) rfl))) ?_)))))))
  obtain ⟨r137, hr138⟩ : ∃ q, op_checkKey p0 = q := ⟨_, rfl⟩
  obtain ⟨D132, HP133, ro134, bk135, rr136⟩ := Own.enter0 H130
  refine WL.do rfl (Do.callV Try.call68 rfl rfl (op_checkKey_ok _ _ p0 r137 HP133 hr138) ?_)
  rintro _ w139 ⟨rfl, HQ140⟩
  have H141 : Own w D w139 [blk g114 [.bool true, .func (.func 67) #[] #[], .func (.func 68) #[] #[], .func (.func 69) #[] #[], .func (.func 74) #[] #[]] 95, blk g21 (OpD.cells p0) 74] := bk135 _ _ HQ140
  refine As rfl rfl (WL.nil (Fin.then (Wp.ret (Fin.res (res1 rfl rfl) ?_))))
  have H142 : Own w D w139 [] := H141.pick [] (by decide) rfl
  have e : op_CheckOp p0 = r137 := Eq.trans (if_neg h24) (Eq.trans (if_neg h64) (Eq.trans (if_pos h104) (Eq.trans (bnd_of hr127) (Eq.trans (if_pos h131) (bnd_of hr138)))))
  obtain rfl := e.symm.trans hr
  exact ⟨rfl, H142, (by omega)⟩
  refine Wp.cond1 rfl (decide_eq_true h131) (Wp.seq (Wp.region (As rfl rfl (WL.nil (Fin.then (Wp.ret (Fin.thenR (Fin.res (res1 rfl rfl) ?_))))))))
  have H143 : Own w D w128 [] := H130.pick [] (by decide) rfl
  have e : op_CheckOp p0 = 40 := Eq.trans (if_neg h24) (Eq.trans (if_neg h64) (Eq.trans (if_pos h104) (Eq.trans (bnd_of hr127) (if_neg h131))))
  obtain rfl := e.symm.trans hr
  exact ⟨rfl, H143, (by omega)⟩
  by_cases h144 : p0.xKind = 4
  obtain ⟨D145, HP146, ro147, bk148, rr149⟩ := Own.enter0 H23
  refine WL.do rfl (Do.call Try.call54 rfl (op_kindOf_4_ok _ _ p0.xKind HP146 (of_decide_eq_true (decide_eq_true h144))) ?_)
  rintro _ w151 ⟨rfl, HQ152⟩
  have H153 : Own w D w151 [blk g21 (OpD.cells p0) 74] := bk148 _ _ HQ152
  refine Mv rfl rfl (Kn (v := .agg #[.bool false, .func (.func 75) #[] #[], .func (.func 76) #[] #[], .func (.func 77) #[] #[], .func (.func 78) #[] #[]]) rfl rfl rfl (fun _ => by kernel_rfl) (Kn (v := .bool true) rfl rfl rfl (fun _ => by kernel_rfl) ?_))
  refine WL.do rfl (Do.newP (cs := [.bool false, .nilFunc, .nilFunc, .nilFunc, .nilFunc]) (t := 95) H153 rfl rfl (fun _ => by kernel_rfl) ?_)
  intro g154 w155 H156
  replace H156 : Own w D w155 [blk g154 [.bool false, .nilFunc, .nilFunc, .nilFunc, .nilFunc] 95, blk g21 (OpD.cells p0) 74] := H156
  refine WL.do0 (Do.store (vs := [.bool false, .func (.func 75) #[] #[], .func (.func 76) #[] #[], .func (.func 77) #[] #[], .func (.func 78) #[] #[]]) (o := 0) H156 rfl rfl Try.sizeOf95 rfl rfl rfl rfl ?_)
  intro w157 H158
  replace H158 : Own w D w157 [blk g154 [.bool false, .func (.func 75) #[] #[], .func (.func 76) #[] #[], .func (.func 77) #[] #[], .func (.func 78) #[] #[]] 95, blk g21 (OpD.cells p0) 74] := H158
  refine As rfl rfl (WL.nil (Fin.then (Wp.seq (Wp.seq ?_))))
  have H160 := H158.drew
  refine Wp.drawnX [] (fun W => ∃ L', Own w D W ([blk g154 [.bool false, .func (.func 75) #[] #[], .func (.func 76) #[] #[], .func (.func 77) #[] #[], .func (.func 78) #[] #[]] 95, blk g21 (OpD.cells p0) 74] ++ L')) (by kernel_rfl) (by kernel_rfl) (NoP.then (NoP.then NoP.base)) ⟨_, H160⟩ ?_
  revert H160
  generalize World.drew w157 = w159
  intro H160
  replace H160 : Own w D w159 [blk g154 [.bool false, .func (.func 75) #[] #[], .func (.func 76) #[] #[], .func (.func 77) #[] #[], .func (.func 78) #[] #[]] 95, blk g21 (OpD.cells p0) 74] := H160
  refine GX.take (v := .bool true) (rs := []) 0 rfl (by kernel_rfl) (fun _ _ => Yl.move rfl) (GX.take (v := .bool false) (rs := []) 1 rfl (by kernel_rfl) (fun _ _ => Yl.kern rfl rfl (fun _ => by kernel_rfl)) (GX.take (v := .bool false) (rs := []) 2 rfl (by kernel_rfl) (fun _ _ => Yl.move rfl) (GX.takeG (v := .pointer (some ⟨g154, 1, none⟩)) (rs := []) 3 rfl rfl rfl rfl (by kernel_rfl) (fun _ _ => Yl.kern rfl rfl (fun _ => by kernel_rfl)) (GX.takeG (v := .func (.func 75) #[] #[]) (rs := []) 4 rfl rfl rfl rfl (by kernel_rfl) (fun _ ⟨_, H9⟩ => Yl.load rfl (Lds.one Try.isAgg90 (Cls.of (H9.cls (i := 0) rfl) rfl))) (GX.takeG (v := .agg (OpD.cells p0).toArray) (rs := []) 5 rfl rfl rfl rfl (by kernel_rfl) (fun _ ⟨_, H9⟩ => Yl.load rfl (Lds.agg (cs := (OpD.cells p0)) Try.isAgg74 Try.sizeOf74 ((H9.cls (i := 1) rfl).lit (k := 0) (m := 6) rfl))) (GX.takeG (v := .agg (OpD.cells p0).toArray) (rs := []) 7 rfl rfl rfl rfl (by kernel_rfl) (fun _ ⟨_, H9⟩ => Yl.load rfl (Lds.agg (cs := (OpD.cells p0)) Try.isAgg74 Try.sizeOf74 ((H9.cls (i := 1) rfl).lit (k := 0) (m := 6) rfl))) ?_))))))
  obtain ⟨r166, hr167⟩ : ∃ q, op_ownScan p0 = q := ⟨_, rfl⟩
  obtain ⟨D161, HP162, ro163, bk164, rr165⟩ := Own.enter0 H160
  refine GX.doG 6 rfl rfl rfl rfl (by kernel_rfl) (Do.callV Try.call75 rfl rfl (op_ownScan_ok _ _ p0 r166 HP162 hr167) ?_)
  rintro _ w168 ⟨rfl, HQ169⟩
  have H170 : Own w D w168 [blk g154 [.bool false, .func (.func 75) #[] #[], .func (.func 76) #[] #[], .func (.func 77) #[] #[], .func (.func 78) #[] #[]] 95, blk g21 (OpD.cells p0) 74] := bk164 _ _ HQ169
  refine ⟨.inr ⟨_, H170⟩, ?_⟩
  refine GX.takeG (v := .bool (decide (¬ ((r166.xKind = p0.xKind) ∧ (r166.xKey = p0.xKey) ∧ (r166.xValue = p0.xValue) ∧ (r166.xLo = p0.xLo) ∧ (r166.xHi = p0.xHi) ∧ (r166.xMost = p0.xMost))))) (rs := []) 8 rfl rfl rfl rfl (by kernel_rfl) (fun _ _ => Yl.bool (e := !(decide ((r166.xKind = p0.xKind) ∧ (r166.xKey = p0.xKey) ∧ (r166.xValue = p0.xValue) ∧ (r166.xLo = p0.xLo) ∧ (r166.xHi = p0.xHi) ∧ (r166.xMost = p0.xMost)))) (Yl.neAgg rfl rfl (by kernel_rfl) rfl (Eqv.struct Try.underlying74 (by kernel_rfl) (EqF.dec (EqF.cons (u := .int .i64 r166.xKind) (v := .int .i64 p0.xKind) (by decide) (fun _ => by kernel_rfl) (fun _ => by kernel_rfl) (Eqv.int Try.underlying3) (EqF.cons (u := .string ⟨List.toArray r166.xKey⟩) (v := .string ⟨List.toArray p0.xKey⟩) (by decide) (fun _ => by kernel_rfl) (fun _ => by kernel_rfl) (Eqv.string Try.underlying9) (EqF.cons (u := .string ⟨List.toArray r166.xValue⟩) (v := .string ⟨List.toArray p0.xValue⟩) (by decide) (fun _ => by kernel_rfl) (fun _ => by kernel_rfl) (Eqv.string Try.underlying9) (EqF.cons (u := .string ⟨List.toArray r166.xLo⟩) (v := .string ⟨List.toArray p0.xLo⟩) (by decide) (fun _ => by kernel_rfl) (fun _ => by kernel_rfl) (Eqv.string Try.underlying9) (EqF.cons (u := .string ⟨List.toArray r166.xHi⟩) (v := .string ⟨List.toArray p0.xHi⟩) (by decide) (fun _ => by kernel_rfl) (fun _ => by kernel_rfl) (Eqv.string Try.underlying9) (EqF.cons (u := .int .i64 r166.xMost) (v := .int .i64 p0.xMost) (by decide) (fun _ => by kernel_rfl) (fun _ => by kernel_rfl) (Eqv.int Try.underlying3) (EqF.nil.up (Nat.zero_le _)))))))) ((congrArg (decide (r166.xKind = p0.xKind) && ·) ((congrArg (decide (r166.xKey = p0.xKey) && ·) ((congrArg (decide (r166.xValue = p0.xValue) && ·) ((congrArg (decide (r166.xLo = p0.xLo) && ·) ((congrArg (decide (r166.xHi = p0.xHi) && ·) and_dec1).trans and_dec)).trans and_dec)).trans and_dec)).trans and_dec)).trans and_dec)))) decide_not.symm) (GX.take (v := .bool (decide (¬ ((r166.xKind = p0.xKind) ∧ (r166.xKey = p0.xKey) ∧ (r166.xValue = p0.xValue) ∧ (r166.xLo = p0.xLo) ∧ (r166.xHi = p0.xHi) ∧ (r166.xMost = p0.xMost))))) (rs := []) 9 rfl (by kernel_rfl) (fun _ _ => Yl.pickF rfl rfl rfl) (GX.done (by kernel_rfl) (Fin.then ?_)))
  by_cases h171 : (r166.xKind = p0.xKind) ∧ (r166.xKey = p0.xKey) ∧ (r166.xValue = p0.xValue) ∧ (r166.xLo = p0.xLo) ∧ (r166.xHi = p0.xHi) ∧ (r166.xMost = p0.xMost)
  refine Wp.cond0 rfl (decide_eq_false (not_not_intro h171)) (Wp.skip (Fin.then (Wp.seq (Wp.region (Kn (v := .pointer (some ⟨g154, 2, none⟩)) rfl rfl rfl (fun _ => by kernel_rfl) (WL.val (v := .func (.func 76) #[] #[]) rfl (Yl.load rfl (Lds.one Try.isAgg91 (Cls.of (H170.cls (i := 0) rfl) rfl))) (WL.val (v := .agg (OpD.cells p0).toArray) rfl (Yl.load rfl (Lds.agg (cs := (OpD.cells p0)) Try.isAgg74 Try.sizeOf74 ((H170.cls (i := 1) rfl).lit (k := 0) (m := 6) rfl))) ?_)))))))
  obtain ⟨r177, hr178⟩ : ∃ q, op_checkScan p0 = q := ⟨_, rfl⟩
  obtain ⟨D172, HP173, ro174, bk175, rr176⟩ := Own.enter0 H170
  refine WL.do rfl (Do.callV Try.call76 rfl rfl (op_checkScan_ok _ _ p0 r177 HP173 hr178) ?_)
  rintro _ w179 ⟨rfl, HQ180⟩
  have H181 : Own w D w179 [blk g154 [.bool false, .func (.func 75) #[] #[], .func (.func 76) #[] #[], .func (.func 77) #[] #[], .func (.func 78) #[] #[]] 95, blk g21 (OpD.cells p0) 74] := bk175 _ _ HQ180
  refine As rfl rfl (WL.nil (Fin.then (Wp.ret (Fin.res (res1 rfl rfl) ?_))))
  have H182 : Own w D w179 [] := H181.pick [] (by decide) rfl
  have e : op_CheckOp p0 = r177 := Eq.trans (if_neg h24) (Eq.trans (if_neg h64) (Eq.trans (if_neg h104) (Eq.trans (if_pos h144) (Eq.trans (bnd_of hr167) (Eq.trans (if_pos h171) (bnd_of hr178))))))
  obtain rfl := e.symm.trans hr
  exact ⟨rfl, H182, (by omega)⟩
  refine Wp.cond1 rfl (decide_eq_true h171) (Wp.seq (Wp.region (As rfl rfl (WL.nil (Fin.then (Wp.ret (Fin.thenR (Fin.res (res1 rfl rfl) ?_))))))))
  have H183 : Own w D w168 [] := H170.pick [] (by decide) rfl
  have e : op_CheckOp p0 = 40 := Eq.trans (if_neg h24) (Eq.trans (if_neg h64) (Eq.trans (if_neg h104) (Eq.trans (if_pos h144) (Eq.trans (bnd_of hr167) (if_neg h171)))))
  obtain rfl := e.symm.trans hr
  exact ⟨rfl, H183, (by omega)⟩
  by_cases h184 : p0.xKind = 5
  obtain ⟨D185, HP186, ro187, bk188, rr189⟩ := Own.enter0 H23
  refine WL.do rfl (Do.call Try.call54 rfl (op_kindOf_5_ok _ _ p0.xKind HP186 (of_decide_eq_true (decide_eq_true h184))) ?_)
  rintro _ w191 ⟨rfl, HQ192⟩
  have H193 : Own w D w191 [blk g21 (OpD.cells p0) 74] := bk188 _ _ HQ192
  refine Mv rfl rfl (Kn (v := .agg #[.bool true, .func (.func 79) #[] #[], .func (.func 80) #[] #[], .func (.func 77) #[] #[], .func (.func 81) #[] #[]]) rfl rfl rfl (fun _ => by kernel_rfl) (Kn (v := .bool true) rfl rfl rfl (fun _ => by kernel_rfl) ?_))
  refine WL.do rfl (Do.newP (cs := [.bool false, .nilFunc, .nilFunc, .nilFunc, .nilFunc]) (t := 95) H193 rfl rfl (fun _ => by kernel_rfl) ?_)
  intro g194 w195 H196
  replace H196 : Own w D w195 [blk g194 [.bool false, .nilFunc, .nilFunc, .nilFunc, .nilFunc] 95, blk g21 (OpD.cells p0) 74] := H196
  refine WL.do0 (Do.store (vs := [.bool true, .func (.func 79) #[] #[], .func (.func 80) #[] #[], .func (.func 77) #[] #[], .func (.func 81) #[] #[]]) (o := 0) H196 rfl rfl Try.sizeOf95 rfl rfl rfl rfl ?_)
  intro w197 H198
  replace H198 : Own w D w197 [blk g194 [.bool true, .func (.func 79) #[] #[], .func (.func 80) #[] #[], .func (.func 77) #[] #[], .func (.func 81) #[] #[]] 95, blk g21 (OpD.cells p0) 74] := H198
  refine As rfl rfl (WL.nil (Fin.then (Wp.seq (Wp.seq ?_))))
  have H200 := H198.drew
  refine Wp.drawnX [] (fun W => ∃ L', Own w D W ([blk g194 [.bool true, .func (.func 79) #[] #[], .func (.func 80) #[] #[], .func (.func 77) #[] #[], .func (.func 81) #[] #[]] 95, blk g21 (OpD.cells p0) 74] ++ L')) (by kernel_rfl) (by kernel_rfl) (NoP.then (NoP.then NoP.base)) ⟨_, H200⟩ ?_
  revert H200
  generalize World.drew w197 = w199
  intro H200
  replace H200 : Own w D w199 [blk g194 [.bool true, .func (.func 79) #[] #[], .func (.func 80) #[] #[], .func (.func 77) #[] #[], .func (.func 81) #[] #[]] 95, blk g21 (OpD.cells p0) 74] := H200
  refine GX.take (v := .bool true) (rs := []) 0 rfl (by kernel_rfl) (fun _ _ => Yl.move rfl) (GX.take (v := .bool false) (rs := []) 1 rfl (by kernel_rfl) (fun _ _ => Yl.kern rfl rfl (fun _ => by kernel_rfl)) (GX.take (v := .bool false) (rs := []) 2 rfl (by kernel_rfl) (fun _ _ => Yl.move rfl) (GX.takeG (v := .pointer (some ⟨g194, 1, none⟩)) (rs := []) 3 rfl rfl rfl rfl (by kernel_rfl) (fun _ _ => Yl.kern rfl rfl (fun _ => by kernel_rfl)) (GX.takeG (v := .func (.func 79) #[] #[]) (rs := []) 4 rfl rfl rfl rfl (by kernel_rfl) (fun _ ⟨_, H9⟩ => Yl.load rfl (Lds.one Try.isAgg90 (Cls.of (H9.cls (i := 0) rfl) rfl))) (GX.takeG (v := .agg (OpD.cells p0).toArray) (rs := []) 5 rfl rfl rfl rfl (by kernel_rfl) (fun _ ⟨_, H9⟩ => Yl.load rfl (Lds.agg (cs := (OpD.cells p0)) Try.isAgg74 Try.sizeOf74 ((H9.cls (i := 1) rfl).lit (k := 0) (m := 6) rfl))) (GX.takeG (v := .agg (OpD.cells p0).toArray) (rs := []) 7 rfl rfl rfl rfl (by kernel_rfl) (fun _ ⟨_, H9⟩ => Yl.load rfl (Lds.agg (cs := (OpD.cells p0)) Try.isAgg74 Try.sizeOf74 ((H9.cls (i := 1) rfl).lit (k := 0) (m := 6) rfl))) ?_))))))
  obtain ⟨r206, hr207⟩ : ∃ q, op_ownRange p0 = q := ⟨_, rfl⟩
  obtain ⟨D201, HP202, ro203, bk204, rr205⟩ := Own.enter0 H200
  refine GX.doG 6 rfl rfl rfl rfl (by kernel_rfl) (Do.callV Try.call79 rfl rfl (op_ownRange_ok _ _ p0 r206 HP202 hr207) ?_)
  rintro _ w208 ⟨rfl, HQ209⟩
  have H210 : Own w D w208 [blk g194 [.bool true, .func (.func 79) #[] #[], .func (.func 80) #[] #[], .func (.func 77) #[] #[], .func (.func 81) #[] #[]] 95, blk g21 (OpD.cells p0) 74] := bk204 _ _ HQ209
  refine ⟨.inr ⟨_, H210⟩, ?_⟩
  refine GX.takeG (v := .bool (decide (¬ ((r206.xKind = p0.xKind) ∧ (r206.xKey = p0.xKey) ∧ (r206.xValue = p0.xValue) ∧ (r206.xLo = p0.xLo) ∧ (r206.xHi = p0.xHi) ∧ (r206.xMost = p0.xMost))))) (rs := []) 8 rfl rfl rfl rfl (by kernel_rfl) (fun _ _ => Yl.bool (e := !(decide ((r206.xKind = p0.xKind) ∧ (r206.xKey = p0.xKey) ∧ (r206.xValue = p0.xValue) ∧ (r206.xLo = p0.xLo) ∧ (r206.xHi = p0.xHi) ∧ (r206.xMost = p0.xMost)))) (Yl.neAgg rfl rfl (by kernel_rfl) rfl (Eqv.struct Try.underlying74 (by kernel_rfl) (EqF.dec (EqF.cons (u := .int .i64 r206.xKind) (v := .int .i64 p0.xKind) (by decide) (fun _ => by kernel_rfl) (fun _ => by kernel_rfl) (Eqv.int Try.underlying3) (EqF.cons (u := .string ⟨List.toArray r206.xKey⟩) (v := .string ⟨List.toArray p0.xKey⟩) (by decide) (fun _ => by kernel_rfl) (fun _ => by kernel_rfl) (Eqv.string Try.underlying9) (EqF.cons (u := .string ⟨List.toArray r206.xValue⟩) (v := .string ⟨List.toArray p0.xValue⟩) (by decide) (fun _ => by kernel_rfl) (fun _ => by kernel_rfl) (Eqv.string Try.underlying9) (EqF.cons (u := .string ⟨List.toArray r206.xLo⟩) (v := .string ⟨List.toArray p0.xLo⟩) (by decide) (fun _ => by kernel_rfl) (fun _ => by kernel_rfl) (Eqv.string Try.underlying9) (EqF.cons (u := .string ⟨List.toArray r206.xHi⟩) (v := .string ⟨List.toArray p0.xHi⟩) (by decide) (fun _ => by kernel_rfl) (fun _ => by kernel_rfl) (Eqv.string Try.underlying9) (EqF.cons (u := .int .i64 r206.xMost) (v := .int .i64 p0.xMost) (by decide) (fun _ => by kernel_rfl) (fun _ => by kernel_rfl) (Eqv.int Try.underlying3) (EqF.nil.up (Nat.zero_le _)))))))) ((congrArg (decide (r206.xKind = p0.xKind) && ·) ((congrArg (decide (r206.xKey = p0.xKey) && ·) ((congrArg (decide (r206.xValue = p0.xValue) && ·) ((congrArg (decide (r206.xLo = p0.xLo) && ·) ((congrArg (decide (r206.xHi = p0.xHi) && ·) and_dec1).trans and_dec)).trans and_dec)).trans and_dec)).trans and_dec)).trans and_dec)))) decide_not.symm) (GX.take (v := .bool (decide (¬ ((r206.xKind = p0.xKind) ∧ (r206.xKey = p0.xKey) ∧ (r206.xValue = p0.xValue) ∧ (r206.xLo = p0.xLo) ∧ (r206.xHi = p0.xHi) ∧ (r206.xMost = p0.xMost))))) (rs := []) 9 rfl (by kernel_rfl) (fun _ _ => Yl.pickF rfl rfl rfl) (GX.done (by kernel_rfl) (Fin.then ?_)))
  by_cases h211 : (r206.xKind = p0.xKind) ∧ (r206.xKey = p0.xKey) ∧ (r206.xValue = p0.xValue) ∧ (r206.xLo = p0.xLo) ∧ (r206.xHi = p0.xHi) ∧ (r206.xMost = p0.xMost)
  refine Wp.cond0 rfl (decide_eq_false (not_not_intro h211)) (Wp.skip (Fin.then (Wp.seq (Wp.region (Kn (v := .pointer (some ⟨g194, 2, none⟩)) rfl rfl rfl (fun _ => by kernel_rfl) (WL.val (v := .func (.func 80) #[] #[]) rfl (Yl.load rfl (Lds.one Try.isAgg91 (Cls.of (H210.cls (i := 0) rfl) rfl))) (WL.val (v := .agg (OpD.cells p0).toArray) rfl (Yl.load rfl (Lds.agg (cs := (OpD.cells p0)) Try.isAgg74 Try.sizeOf74 ((H210.cls (i := 1) rfl).lit (k := 0) (m := 6) rfl))) ?_)))))))
  obtain ⟨r217, hr218⟩ : ∃ q, op_checkRange p0 = q := ⟨_, rfl⟩
  obtain ⟨D212, HP213, ro214, bk215, rr216⟩ := Own.enter0 H210
  refine WL.do rfl (Do.callV Try.call80 rfl rfl (op_checkRange_ok _ _ p0 r217 HP213 hr218) ?_)
  rintro _ w219 ⟨rfl, HQ220⟩
  have H221 : Own w D w219 [blk g194 [.bool true, .func (.func 79) #[] #[], .func (.func 80) #[] #[], .func (.func 77) #[] #[], .func (.func 81) #[] #[]] 95, blk g21 (OpD.cells p0) 74] := bk215 _ _ HQ220
  refine As rfl rfl (WL.nil (Fin.then (Wp.ret (Fin.res (res1 rfl rfl) ?_))))
  have H222 : Own w D w219 [] := H221.pick [] (by decide) rfl
  have e : op_CheckOp p0 = r217 := Eq.trans (if_neg h24) (Eq.trans (if_neg h64) (Eq.trans (if_neg h104) (Eq.trans (if_neg h144) (Eq.trans (if_pos h184) (Eq.trans (bnd_of hr207) (Eq.trans (if_pos h211) (bnd_of hr218)))))))
  obtain rfl := e.symm.trans hr
  exact ⟨rfl, H222, (by omega)⟩
  refine Wp.cond1 rfl (decide_eq_true h211) (Wp.seq (Wp.region (As rfl rfl (WL.nil (Fin.then (Wp.ret (Fin.thenR (Fin.res (res1 rfl rfl) ?_))))))))
  have H223 : Own w D w208 [] := H210.pick [] (by decide) rfl
  have e : op_CheckOp p0 = 40 := Eq.trans (if_neg h24) (Eq.trans (if_neg h64) (Eq.trans (if_neg h104) (Eq.trans (if_neg h144) (Eq.trans (if_pos h184) (Eq.trans (bnd_of hr207) (if_neg h211))))))
  obtain rfl := e.symm.trans hr
  exact ⟨rfl, H223, (by omega)⟩
  obtain ⟨D224, HP225, ro226, bk227, rr228⟩ := Own.enter0 H23
  refine WL.do rfl (Do.call Try.call54 rfl (op_kindOf_no_ok _ _ p0.xKind HP225 (by omega) (by omega) (by omega) (by omega) (by omega)) ?_)
  rintro _ w230 ⟨rfl, HQ231⟩
  have H232 : Own w D w230 [blk g21 (OpD.cells p0) 74] := bk227 _ _ HQ231
  refine Mv rfl rfl (Kn (v := .agg #[.bool false, .nilFunc, .nilFunc, .nilFunc, .nilFunc]) rfl rfl rfl (fun _ => by kernel_rfl) (Kn (v := .bool false) rfl rfl rfl (fun _ => by kernel_rfl) ?_))
  refine WL.do rfl (Do.newP (cs := [.bool false, .nilFunc, .nilFunc, .nilFunc, .nilFunc]) (t := 95) H232 rfl rfl (fun _ => by kernel_rfl) ?_)
  intro g233 w234 H235
  replace H235 : Own w D w234 [blk g233 [.bool false, .nilFunc, .nilFunc, .nilFunc, .nilFunc] 95, blk g21 (OpD.cells p0) 74] := H235
  refine WL.do0 (Do.store (vs := [.bool false, .nilFunc, .nilFunc, .nilFunc, .nilFunc]) (o := 0) H235 rfl rfl Try.sizeOf95 rfl rfl rfl rfl ?_)
  intro w236 H237
  replace H237 : Own w D w236 [blk g233 [.bool false, .nilFunc, .nilFunc, .nilFunc, .nilFunc] 95, blk g21 (OpD.cells p0) 74] := H237
  refine As rfl rfl (WL.nil (Fin.then (Wp.seq (Wp.seq ?_))))
  have H239 := H237.drew
  refine Wp.drawnX [] (fun W => ∃ L', Own w D W ([blk g233 [.bool false, .nilFunc, .nilFunc, .nilFunc, .nilFunc] 95, blk g21 (OpD.cells p0) 74] ++ L')) (by kernel_rfl) (by kernel_rfl) (NoP.then (NoP.then NoP.base)) ⟨_, H239⟩ ?_
  revert H239
  generalize World.drew w236 = w238
  intro H239
  replace H239 : Own w D w238 [blk g233 [.bool false, .nilFunc, .nilFunc, .nilFunc, .nilFunc] 95, blk g21 (OpD.cells p0) 74] := H239
  refine GX.take (v := .bool false) (rs := []) 0 rfl (by kernel_rfl) (fun _ _ => Yl.move rfl) (GX.take (v := .bool true) (rs := []) 1 rfl (by kernel_rfl) (fun _ _ => Yl.kern rfl rfl (fun _ => by kernel_rfl)) (GX.take (v := .bool true) (rs := []) 2 rfl (by kernel_rfl) (fun _ _ => Yl.move rfl) (GX.skipG (rs := []) 3 rfl rfl rfl rfl (by kernel_rfl) (GX.skipG (rs := []) 4 rfl rfl rfl rfl (by kernel_rfl) (GX.skipG (rs := []) 5 rfl rfl rfl rfl (by kernel_rfl) (GX.skipG (rs := []) 6 rfl rfl rfl rfl (by kernel_rfl) (GX.skipG (rs := []) 7 rfl rfl rfl rfl (by kernel_rfl) (GX.skipG (rs := []) 8 rfl rfl rfl rfl (by kernel_rfl) (GX.take (v := .bool true) (rs := []) 9 rfl (by kernel_rfl) (fun _ _ => Yl.pickT rfl rfl rfl) (GX.done (by kernel_rfl) (Fin.then (Wp.cond1 rfl rfl (Wp.seq (Wp.region (As rfl rfl (WL.nil (Fin.then (Wp.ret (Fin.thenR (Fin.res (res1 rfl rfl) ?_))))))))))))))))))))
  have H240 : Own w D w238 [] := H239.pick [] (by decide) rfl
  have e : op_CheckOp p0 = 40 := Eq.trans (if_neg h24) (Eq.trans (if_neg h64) (Eq.trans (if_neg h104) (Eq.trans (if_neg h144) (if_neg h184))))
  obtain rfl := e.symm.trans hr
  exact ⟨rfl, H240, (by omega)⟩

def op_checkEach_L0 : List OpD → Unit ⊕ Int
  | [] => Sum.inl ()
  | x30 :: q22 => bnd (op_CheckOp x30) fun yr43 => if yr43 = 0 then op_checkEach_L0 q22 else Sum.inr (yr43)

def op_checkEach (l0 : List OpD) : Int :=
  lp (op_checkEach_L0 l0) fun _ => 0

set_option maxRecDepth 100000 in
theorem op_checkEach_ok (w : World) (D : Nat → Prop) (A0 : Option Addr) (n0 c0 : Nat) (l0 : List OpD) (r0 : Int) (H : Own w D w []) (hx0 : Ro w D fun w' => Rds w' 6 A0 n0 (List.flatMap OpD.cells l0)) (hn0 : n0 = List.length l0) (hl0 : List.length l0 * 80 ≤ 211106232532992) (hr : op_checkEach l0 = r0) :
    Calls Try.prog 52 #[.slice A0 n0 c0] w (Ret fun v w' => v = .int .i64 r0 ∧ Own w D w' []) := by
  subst hn0
  refine Calls.body (args := [.slice A0 (List.length l0) c0]) Try.func52 rfl rfl rfl ?_
  show Wp _ _ _ [(0, .slice A0 (List.length l0) c0)] _ _
  refine Wp.seq (Wp.region (As rfl rfl (WL.nil (Fin.then (Wp.seq (Wp.seq (Wp.region (Mv rfl rfl (Kn (v := .int .i64 ((List.length l0 : Nat) : Int)) rfl rfl rfl (fun _ => by kernel_rfl) (Mv rfl rfl (WL.nil (Fin.then (Wp.block ?_)))))))))))))
  have H23 : Own w D w [] := H.pick [] (by decide) rfl
  refine Wp.loop (ι := Nat) (fun i => [(2, .int .i64 0), (8, .int .i64 ((i : Nat) : Int)), (7, .int .i64 ((List.length l0 : Nat) : Int)), (6, .slice A0 (List.length l0) c0)]) (fun (i : Nat) w' => Own w D w' [] ∧ (i ≤ List.length l0 ∧ op_checkEach_L0 l0 = op_checkEach_L0 (List.drop i l0))) (fun i => List.length l0 - i) 0 ⟨rfl, rfl, rfl, rfl, trivial⟩ ⟨H23, (show 0 ≤ List.length l0 ∧ op_checkEach_L0 l0 = op_checkEach_L0 (List.drop 0 l0) from ⟨by omega, rfl⟩)⟩ ?_
  rintro k21 w24 ⟨H25, hf26⟩
  show Wp _ _ _ [(2, .int .i64 0), (8, .int .i64 ((k21 : Nat) : Int)), (7, .int .i64 ((List.length l0 : Nat) : Int)), (6, .slice A0 (List.length l0) c0)] _ _
  replace H25 : Own w D w24 [] := H25
  replace hf26 : k21 ≤ List.length l0 ∧ op_checkEach_L0 l0 = op_checkEach_L0 (List.drop k21 l0) := hf26
  obtain ⟨hi28, hq27⟩ := hf26
  refine Wp.seq (Wp.region (Kn (v := .bool (decide (((k21 : Nat) : Int) < ((List.length l0 : Nat) : Int)))) rfl rfl rfl (fun _ => by kernel_rfl) (WL.nil (Fin.then (Wp.seq ?_)))))
  by_cases h29 : ((k21 : Nat) : Int) < ((List.length l0 : Nat) : Int)
  obtain ⟨x30, hx31⟩ := rds_at (ls := l0) (i := k21) OpD.len (by decide) (H25.ro hx0) (by first | omega | (simp; done) | (simp; omega))
  have hd32 := drop_at hx31
  refine Wp.cond1 rfl (decide_eq_true h29) (Wp.skip (Fin.then (Wp.seq (Wp.block (Wp.seq (Wp.region (WL.val (v := .pointer (some ⟨ab A0, ao A0 + k21 * 6, none⟩)) rfl (Yl.indexAddr (El41) rfl rfl ((H25.ro hx0).addr (i := k21) (by omega)) (by omega)) (WL.val (v := .agg (OpD.cells x30).toArray) rfl (Yl.load rfl (Lds.agg (cs := (OpD.cells x30)) Try.isAgg74 Try.sizeOf74 ((H25.ro hx0).elem OpD.len hx31 (by decide)))) ?_))))))))
  refine WL.do rfl (Do.newP (cs := [.int .i64 0, .string ⟨List.toArray ([])⟩, .string ⟨List.toArray ([])⟩, .string ⟨List.toArray ([])⟩, .string ⟨List.toArray ([])⟩, .int .i64 0]) (t := 74) H25 rfl rfl (fun _ => by kernel_rfl) ?_)
  intro g33 w34 H35
  replace H35 : Own w D w34 [blk g33 [.int .i64 0, .string ⟨List.toArray ([])⟩, .string ⟨List.toArray ([])⟩, .string ⟨List.toArray ([])⟩, .string ⟨List.toArray ([])⟩, .int .i64 0] 74] := H35
  refine WL.do0 (Do.store (vs := (OpD.cells x30)) (o := 0) H35 rfl rfl Try.sizeOf74 rfl rfl rfl rfl ?_)
  intro w36 H37
  replace H37 : Own w D w36 [blk g33 (OpD.cells x30) 74] := H37
  refine WL.nil (Fin.then (Wp.seq (Wp.region (WL.val (v := .agg (OpD.cells x30).toArray) rfl (Yl.load rfl (Lds.agg (cs := (OpD.cells x30)) Try.isAgg74 Try.sizeOf74 ((H37.cls (i := 0) rfl).lit (k := 0) (m := 6) rfl))) ?_))))
  obtain ⟨r43, hr44⟩ : ∃ q, op_CheckOp x30 = q := ⟨_, rfl⟩
  obtain ⟨D38, HP39, ro40, bk41, rr42⟩ := Own.enter0 H37
  refine WL.do rfl (Do.call Try.call66 rfl (op_CheckOp_ok _ _ x30 r43 HP39 hr44) ?_)
  rintro _ w45 ⟨rfl, HQ46, hk48⟩
  have H47 : Own w D w45 [blk g33 (OpD.cells x30) 74] := bk41 _ _ HQ46
  replace hk48 : ¬ (r43 = 0) ∨ (1 ≤ x30.xKind ∧ x30.xKind ≤ 5) := hk48
  refine As rfl rfl (WL.nil (Fin.then (Wp.seq (Wp.region (Mv rfl rfl (WL.val (v := .bool (decide (¬ (r43 = 0)))) rfl (Yl.bool (e := !(decide (r43 = 0))) (Yl.kern rfl rfl (fun _ => by kernel_rfl)) decide_not.symm) (WL.nil (Fin.then ?_))))))))
  by_cases h49 : r43 = 0
  refine Wp.cond0 rfl (decide_eq_false (not_not_intro h49)) (Wp.skip (Fin.blockN (Fin.then (Wp.region (WL.val (v := .int .i64 ((k21 + 1 : Nat) : Int)) rfl (Yl.int (e := IntKind.i64.wrap (((k21 : Nat) : Int) + 1)) (Yl.kern rfl rfl (fun _ => by kernel_rfl)) (by rw [IntWalk.i64_in _ (by omega)]; omega)) (Mv rfl rfl (WL.nil ?_)))))))
  have H50 : Own w D w45 [] := H47.pick [] (by decide) rfl
  exact Fin.round (k21 + 1) ⟨rfl, rfl, rfl, rfl, trivial⟩ ⟨H50, (show (k21 + 1) ≤ List.length l0 ∧ op_checkEach_L0 l0 = op_checkEach_L0 (List.drop (k21 + 1) l0) from ⟨by omega, Eq.trans (hq27) (Eq.trans (congrArg (fun q => op_checkEach_L0 q) hd32) (Eq.trans (bnd_of hr44) (if_pos h49)))⟩)⟩ (by show List.length l0 - (k21 + 1) < List.length l0 - k21; omega)
  refine Wp.cond1 rfl (decide_eq_true h49) (Wp.seq (Wp.region (Mv rfl rfl (As rfl rfl (WL.nil (Fin.then (Wp.ret (Fin.blockR (Fin.thenR (Fin.thenR (Fin.blockR (Fin.thenR (Fin.res (res1 rfl rfl) ?_)))))))))))))
  have H51 : Own w D w45 [] := H47.pick [] (by decide) rfl
  have e : op_checkEach l0 = r43 := lp_r (Eq.trans (hq27) (Eq.trans (congrArg (fun q => op_checkEach_L0 q) hd32) (Eq.trans (bnd_of hr44) (if_neg h49))))
  obtain rfl := e.symm.trans hr
  exact ⟨rfl, H51⟩
  refine Wp.cond0 rfl (decide_eq_false h29) (Wp.exit (Fin.thenX ?_))
  have hL52 : op_checkEach_L0 l0 = Sum.inl () := Eq.trans (hq27) (Eq.trans (congrArg (fun q => op_checkEach_L0 q) (drop_end (ls := l0) (i := k21) (by omega))) rfl)
  refine Fin.thenX (Fin.blockX (Fin.then (Wp.seq (Wp.region (As rfl rfl (WL.nil (Fin.then (Wp.ret (Fin.res (res1 rfl rfl) ?_)))))))))
  have H53 : Own w D w24 [] := H25.pick [] (by decide) rfl
  have e : op_checkEach l0 = 0 := lp_l hL52
  obtain rfl := e.symm.trans hr
  exact ⟨rfl, H53⟩

def op_Check (l0 : List OpD) : Int :=
  if ((List.length l0 : Nat) : Int) < 1 then 3 else if ((List.length l0 : Nat) : Int) > 4 then 3 else bnd (op_checkEach l0) fun yr30 => yr30

set_option maxRecDepth 100000 in
theorem op_Check_ok (w : World) (D : Nat → Prop) (A0 : Option Addr) (n0 c0 : Nat) (l0 : List OpD) (r0 : Int) (H : Own w D w []) (hx0 : Ro w D fun w' => Rds w' 6 A0 n0 (List.flatMap OpD.cells l0)) (hn0 : n0 = List.length l0) (hl0 : List.length l0 * 80 ≤ 211106232532992) (hr : op_Check l0 = r0) :
    Calls Try.prog 48 #[.slice A0 n0 c0] w (Ret fun v w' => v = .int .i64 r0 ∧ Own w D w' [] ∧ (¬ (r0 = 0) ∨ (1 ≤ List.length l0 ∧ List.length l0 ≤ 4))) := by
  subst hn0
  refine Calls.body (args := [.slice A0 (List.length l0) c0]) Try.func48 rfl rfl rfl ?_
  show Wp _ _ _ [(0, .slice A0 (List.length l0) c0)] _ _
  refine Wp.seq (Wp.region (As rfl rfl (WL.nil (Fin.then (Wp.seq (Wp.seq (Wp.region (Mv rfl rfl (Kn (v := .int .i64 ((List.length l0 : Nat) : Int)) rfl rfl rfl (fun _ => by kernel_rfl) (Kn (v := .bool (decide (((List.length l0 : Nat) : Int) < 1))) rfl rfl rfl (fun _ => by kernel_rfl) (Mv rfl rfl ?_)))))))))))
  by_cases h21 : ((List.length l0 : Nat) : Int) < 1
  refine Sk rfl rfl (decide_eq_true h21) rfl (Sk rfl rfl (decide_eq_true h21) rfl (Sk rfl rfl (decide_eq_true h21) rfl (WL.val (v := .bool true) rfl (Yl.pickT rfl (decide_eq_true h21) rfl) (WL.nil (Fin.then (Wp.cond1 rfl rfl (Wp.seq (Wp.region (As rfl rfl (WL.nil (Fin.then (Wp.ret (Fin.thenR (Fin.res (res1 rfl rfl) ?_))))))))))))))
  have H22 : Own w D w [] := H.pick [] (by decide) rfl
  have e : op_Check l0 = 3 := if_pos h21
  obtain rfl := e.symm.trans hr
  exact ⟨rfl, H22, (by omega)⟩
  refine WL.valG (v := .slice A0 (List.length l0) c0) rfl rfl (decide_eq_false h21) rfl (Yl.move rfl) (WL.valG (v := .int .i64 ((List.length l0 : Nat) : Int)) rfl rfl (decide_eq_false h21) rfl (Yl.kern rfl rfl (fun _ => by kernel_rfl)) (WL.valG (v := .bool (decide (((List.length l0 : Nat) : Int) > 4))) rfl rfl (decide_eq_false h21) rfl (Yl.kern rfl rfl (fun _ => by kernel_rfl)) (WL.val (v := .bool (decide (((List.length l0 : Nat) : Int) > 4))) rfl (Yl.pickF rfl (decide_eq_false h21) rfl) (WL.nil (Fin.then ?_)))))
  by_cases h23 : ((List.length l0 : Nat) : Int) > 4
  refine Wp.cond1 rfl (decide_eq_true h23) (Wp.seq (Wp.region (As rfl rfl (WL.nil (Fin.then (Wp.ret (Fin.thenR (Fin.res (res1 rfl rfl) ?_))))))))
  have H24 : Own w D w [] := H.pick [] (by decide) rfl
  have e : op_Check l0 = 3 := Eq.trans (if_neg h21) (if_pos h23)
  obtain rfl := e.symm.trans hr
  exact ⟨rfl, H24, (by omega)⟩
  refine Wp.cond0 rfl (decide_eq_false h23) (Wp.skip (Fin.then (Wp.seq (Wp.region (Mv rfl rfl ?_)))))
  obtain ⟨r30, hr31⟩ : ∃ q, op_checkEach l0 = q := ⟨_, rfl⟩
  obtain ⟨D25, HP26, ro27, bk28, rr29⟩ := Own.enter0 H
  refine WL.do rfl (Do.call Try.call52 rfl (op_checkEach_ok _ _ A0 (List.length l0) c0 l0 r30 HP26 (ro27 _ hx0) rfl (by omega) hr31) ?_)
  rintro _ w32 ⟨rfl, HQ33⟩
  have H34 : Own w D w32 [] := bk28 _ _ HQ33
  refine As rfl rfl (WL.nil (Fin.then (Wp.ret (Fin.res (res1 rfl rfl) ?_))))
  have H35 : Own w D w32 [] := H34.pick [] (by decide) rfl
  have e : op_Check l0 = r30 := Eq.trans (if_neg h21) (Eq.trans (if_neg h23) (bnd_of hr31))
  obtain rfl := e.symm.trans hr
  exact ⟨rfl, H35, (by omega)⟩

def owner_cutOp_L0 (l0 : List OwnerD) (p1 : Int) (p2 : OpD) : List OwnerD → List OpD → Nat → (List OpD)
  | [], l28, k29 => l28
  | x39 :: q30, l28, k29 => if x39.xShard = p1 then bnd (owner_rangeOf l0 ((k29 : Nat) : Int)) fun yr126 => bnd (span_Meet (RangeD.mk p2.xLo p2.xHi) yr126) fun yr136 => if yr136.2 = true then owner_cutOp_L0 l0 p1 p2 q30 (l28 ++ [(OpD.mk p2.xKind ([]) ([]) yr136.1.xLo yr136.1.xHi p2.xMost)]) (k29 + 1) else owner_cutOp_L0 l0 p1 p2 q30 l28 (k29 + 1) else owner_cutOp_L0 l0 p1 p2 q30 l28 (k29 + 1)

def owner_cutOp_L1 (l0 : List OwnerD) (p1 : Int) (p2 : OpD) : List OwnerD → List OpD → Nat → (List OpD)
  | [], l165, k166 => l165
  | x176 :: q167, l165, k166 => if x176.xShard = p1 then bnd (owner_rangeOf l0 ((k166 : Nat) : Int)) fun yr263 => bnd (span_Meet (RangeD.mk p2.xLo p2.xHi) yr263) fun yr273 => if yr273.2 = true then owner_cutOp_L1 l0 p1 p2 q167 (l165 ++ [(OpD.mk p2.xKind ([]) ([]) yr273.1.xLo yr273.1.xHi p2.xMost)]) (k166 + 1) else owner_cutOp_L1 l0 p1 p2 q167 l165 (k166 + 1) else owner_cutOp_L1 l0 p1 p2 q167 l165 (k166 + 1)

def owner_cutOp (l0 : List OwnerD) (p1 : Int) (p2 : OpD) : (List OpD) :=
  if p2.xKind = 4 then bnd (owner_cutOp_L0 l0 p1 p2 l0 ([]) 0) fun sLrtL => sLrtL else if p2.xKind = 5 then bnd (owner_cutOp_L1 l0 p1 p2 l0 ([]) 0) fun sLrftL => sLrftL else bnd (owner_place l0 p2.xKey) fun yr303 => bnd (List.getD l0 (Int.toNat yr303) default) fun yx309 => bnd (if yx309.xShard = p1 then [p2] else []) fun sJrffbbJ => sJrffbbJ

set_option maxRecDepth 100000 in
theorem owner_cutOp_ok (w : World) (D : Nat → Prop) (A0 : Option Addr) (n0 c0 : Nat) (l0 : List OwnerD) (p1 : Int) (p2 : OpD) (r0 : List OpD) (H : Own w D w []) (hx0 : Ro w D fun w' => Rds w' 2 A0 n0 (List.flatMap OwnerD.cells l0)) (hn0 : n0 = List.length l0) (hl0 : List.length l0 * 24 ≤ 211106232532992) (hh0 : 1 ≤ List.length l0 ∧ List.length l0 ≤ 6) (hr : owner_cutOp l0 p1 p2 = r0) :
    Calls Try.prog 49 #[.slice A0 n0 c0, .int .i64 p1, .agg (OpD.cells p2).toArray] w (Ret fun v w' => ∃ (B0 : Option Addr) (b0 : Nat), v = .slice B0 (List.length r0) b0 ∧ Own w D w' [row B0 (List.length r0) b0 (List.flatMap OpD.cells r0) 74 6] ∧ (List.length r0 ≤ 6)) := by
  subst hn0
  refine Calls.body (args := [.slice A0 (List.length l0) c0, .int .i64 p1, .agg (OpD.cells p2).toArray]) Try.func49 rfl rfl rfl ?_
  show Wp _ _ _ [(0, .slice A0 (List.length l0) c0), (1, .int .i64 p1), (2, .agg (OpD.cells p2).toArray)] _ _
  refine Wp.seq (Wp.region ?_)
  refine WL.do rfl (Do.newP (cs := (OpD.cells p2)) (t := 74) H rfl rfl (fun _ => by kernel_rfl) ?_)
  intro g21 w22 H23
  replace H23 : Own w D w22 [blk g21 (OpD.cells p2) 74] := H23
  refine As rfl rfl (WL.nil (Fin.then (Wp.seq (Wp.region (As rfl rfl (WL.nil (Fin.then (Wp.seq (Wp.seq (Wp.region (Kn (v := .pointer (some ⟨g21, 0, none⟩)) rfl rfl rfl (fun _ => by kernel_rfl) (WL.val (v := .int .i64 p2.xKind) rfl (Yl.load rfl (Lds.one Try.isAgg3 (Cls.of (H23.cls (i := 0) rfl) rfl))) (WL.val (v := .bool (decide (¬ (p2.xKind = 4)))) rfl (Yl.bool (e := !(decide (p2.xKind = 4))) (Yl.kern rfl rfl (fun _ => by kernel_rfl)) decide_not.symm) (Mv rfl rfl ?_))))))))))))))
  by_cases h24 : p2.xKind = 4
  refine Sk rfl rfl (decide_eq_false (not_not_intro h24)) rfl (Sk rfl rfl (decide_eq_false (not_not_intro h24)) rfl (Sk rfl rfl (decide_eq_false (not_not_intro h24)) rfl (WL.val (v := .bool false) rfl (Yl.pickF rfl (decide_eq_false (not_not_intro h24)) rfl) (WL.nil (Fin.then (Wp.cond0 rfl rfl (Wp.skip (Fin.then (Wp.seq (Wp.seq (Wp.region (Mv rfl rfl (Kn (v := .int .i64 ((List.length l0 : Nat) : Int)) rfl rfl rfl (fun _ => by kernel_rfl) (Mv rfl rfl (WL.nil (Fin.then (Wp.block ?_)))))))))))))))))
  have H25 : Own w D w22 [row none 0 0 (List.flatMap OpD.cells ([])) 74 6, blk g21 (OpD.cells p2) 74] := H23.free (row_nil 74 6)
  have H31 : Own w D w22 [blk g21 (OpD.cells p2) 74, row none 0 0 (List.flatMap OpD.cells ([])) 74 6] := H25.pick [1, 0] (by decide) rfl
  refine Wp.loop (ι := (Option Addr) × Nat × (List OpD) × Nat) (fun i => [(7, .slice i.1 (List.length i.2.2.1) i.2.1), (36, .int .i64 ((i.2.2.2 : Nat) : Int)), (35, .int .i64 ((List.length l0 : Nat) : Int)), (6, .slice none 0 0), (5, .pointer (some ⟨g21, 0, none⟩)), (0, .slice A0 (List.length l0) c0), (1, .int .i64 p1)]) (fun (i : (Option Addr) × Nat × (List OpD) × Nat) w' => Own w D w' [blk g21 (OpD.cells p2) 74, row i.1 (List.length i.2.2.1) i.2.1 (List.flatMap OpD.cells i.2.2.1) 74 6] ∧ (i.2.2.2 ≤ List.length l0 ∧ List.length i.2.2.1 ≤ i.2.2.2 ∧ owner_cutOp_L0 l0 p1 p2 l0 ([]) 0 = owner_cutOp_L0 l0 p1 p2 (List.drop i.2.2.2 l0) i.2.2.1 i.2.2.2)) (fun i => List.length l0 - i.2.2.2) (none, 0, [], 0) ⟨rfl, rfl, rfl, rfl, rfl, rfl, rfl, trivial⟩ ⟨H31, (show 0 ≤ List.length l0 ∧ 0 ≤ 0 ∧ owner_cutOp_L0 l0 p1 p2 l0 ([]) 0 = owner_cutOp_L0 l0 p1 p2 (List.drop 0 l0) ([]) 0 from ⟨by omega, by omega, rfl⟩)⟩ ?_
  rintro ⟨A26, c27, l28, k29⟩ w32 ⟨H33, hf34⟩
  show Wp _ _ _ [(7, .slice A26 (List.length l28) c27), (36, .int .i64 ((k29 : Nat) : Int)), (35, .int .i64 ((List.length l0 : Nat) : Int)), (6, .slice none 0 0), (5, .pointer (some ⟨g21, 0, none⟩)), (0, .slice A0 (List.length l0) c0), (1, .int .i64 p1)] _ _
  replace H33 : Own w D w32 [blk g21 (OpD.cells p2) 74, row A26 (List.length l28) c27 (List.flatMap OpD.cells l28) 74 6] := H33
  replace hf34 : k29 ≤ List.length l0 ∧ List.length l28 ≤ k29 ∧ owner_cutOp_L0 l0 p1 p2 l0 ([]) 0 = owner_cutOp_L0 l0 p1 p2 (List.drop k29 l0) l28 k29 := hf34
  obtain ⟨hi36, hi37, hq35⟩ := hf34
  refine Wp.seq (Wp.region (Kn (v := .bool (decide (((k29 : Nat) : Int) < ((List.length l0 : Nat) : Int)))) rfl rfl rfl (fun _ => by kernel_rfl) (WL.nil (Fin.then (Wp.seq ?_)))))
  by_cases h38 : ((k29 : Nat) : Int) < ((List.length l0 : Nat) : Int)
  obtain ⟨x39, hx40⟩ := rds_at (ls := l0) (i := k29) OwnerD.len (by decide) (H33.ro hx0) (by first | omega | (simp; done) | (simp; omega))
  have hd41 := drop_at hx40
  refine Wp.cond1 rfl (decide_eq_true h38) (Wp.skip (Fin.then (Wp.seq (Wp.block (Wp.seq (Wp.region (Mv rfl rfl (As rfl rfl (WL.nil (Fin.then (Wp.seq (Wp.seq (Wp.region (Mv rfl rfl (Mv rfl rfl (WL.val (v := .pointer (some ⟨ab A0, ao A0 + k29 * 2, none⟩)) rfl (Yl.indexAddr (El22) rfl rfl ((H33.ro hx0).addr (i := k29) (by omega)) (by omega)) (Kn (v := .pointer (some ⟨ab A0, ao A0 + k29 * 2 + 1, none⟩)) rfl rfl rfl (fun _ => by kernel_rfl) (WL.val (v := .int .i64 x39.xShard) rfl (Yl.load rfl (Lds.one Try.isAgg3 (((H33.ro hx0).elem OwnerD.len hx40 (by decide)).at_ (k := 1) rfl))) (Mv rfl rfl (WL.val (v := .bool (decide (¬ (x39.xShard = p1)))) rfl (Yl.bool (e := !(decide (x39.xShard = p1))) (Yl.kern rfl rfl (fun _ => by kernel_rfl)) decide_not.symm) (WL.nil (Fin.then ?_))))))))))))))))))))))
  by_cases h42 : x39.xShard = p1
  refine Wp.cond0 rfl (decide_eq_false (not_not_intro h42)) (Wp.skip (Fin.then (Wp.seq ?_)))
  have H44 := H33.drew
  refine Wp.drawnX [] (fun W => ∃ L', Own w D W ([blk g21 (OpD.cells p2) 74, row A26 (List.length l28) c27 (List.flatMap OpD.cells l28) 74 6] ++ L')) (by kernel_rfl) (by kernel_rfl) (NoP.then (NoP.block (NoP.then (NoP.then (NoP.block (NoP.then NoP.base)))))) ⟨_, H44⟩ ?_
  revert H44
  generalize World.drew w32 = w43
  intro H44
  replace H44 : Own w D w43 [blk g21 (OpD.cells p2) 74, row A26 (List.length l28) c27 (List.flatMap OpD.cells l28) 74 6] := H44
  refine GX.take (v := .pointer (some ⟨g21, 3, none⟩)) (rs := []) 0 rfl (by kernel_rfl) (fun _ _ => Yl.kern rfl rfl (fun _ => by kernel_rfl)) (GX.take (v := .string ⟨List.toArray p2.xLo⟩) (rs := []) 1 rfl (by kernel_rfl) (fun _ ⟨_, H9⟩ => Yl.load rfl (Lds.one Try.isAgg9 (Cls.of (H9.cls (i := 0) rfl) rfl))) (GX.take (v := .pointer (some ⟨g21, 4, none⟩)) (rs := []) 2 rfl (by kernel_rfl) (fun _ _ => Yl.kern rfl rfl (fun _ => by kernel_rfl)) (GX.take (v := .string ⟨List.toArray p2.xHi⟩) (rs := []) 3 rfl (by kernel_rfl) (fun _ ⟨_, H9⟩ => Yl.load rfl (Lds.one Try.isAgg9 (Cls.of (H9.cls (i := 0) rfl) rfl))) (GX.take (v := .agg #[.string ⟨List.toArray p2.xLo⟩, .string ⟨List.toArray p2.xHi⟩]) (rs := []) 4 rfl (by kernel_rfl) (fun _ _ => Yl.kern rfl rfl (fun _ => by kernel_rfl)) (GX.take (v := .slice A0 (List.length l0) c0) (rs := []) 5 rfl (by kernel_rfl) (fun _ _ => Yl.move rfl) (GX.take (v := .int .i64 ((k29 : Nat) : Int)) (rs := []) 6 rfl (by kernel_rfl) (fun _ _ => Yl.move rfl) ?_))))))
  refine GX.any2 7 12 (by kernel_rfl) ?_ ?_
  obtain ⟨r50, hr51⟩ : ∃ q, owner_rangeOf l0 ((k29 : Nat) : Int) = q := ⟨_, rfl⟩
  obtain ⟨D45, HP46, ro47, bk48, rr49⟩ := Own.enter0 H44
  refine GY.do 7 rfl (by kernel_rfl) (Do.call Try.call36 rfl (owner_rangeOf_ok _ _ A0 (List.length l0) c0 l0 ((k29 : Nat) : Int) r50 HP46 (ro47 _ hx0) rfl (by omega) (by omega) hr51) ?_)
  rintro _ w52 ⟨rfl, HQ53⟩
  have H54 : Own w D w52 [blk g21 (OpD.cells p2) 74, row A26 (List.length l28) c27 (List.flatMap OpD.cells l28) 74 6] := bk48 _ _ HQ53
  refine ⟨.inr ⟨_, H54⟩, ?_⟩
  refine GX.any2 8 12 (by kernel_rfl) ?_ ?_
  obtain ⟨⟨r60, r61⟩, hr62⟩ : ∃ q : RangeD × Bool, span_Meet (RangeD.mk p2.xLo p2.xHi) r50 = q := ⟨_, rfl⟩
  obtain ⟨D55, HP56, ro57, bk58, rr59⟩ := Own.enter0 H54
  refine GY.do 8 rfl (by kernel_rfl) (Do.call Try.call57 rfl (span_Meet_ok _ _ (RangeD.mk p2.xLo p2.xHi) r50 r60 r61 HP56 hr62) ?_)
  rintro _ w63 ⟨rfl, HQ64⟩
  have H65 : Own w D w63 [blk g21 (OpD.cells p2) 74, row A26 (List.length l28) c27 (List.flatMap OpD.cells l28) 74 6] := bk58 _ _ HQ64
  refine ⟨.inr ⟨_, H65⟩, ?_⟩
  refine GX.take (v := .tuple #[.agg (RangeD.cells r60).toArray, .bool r61]) (rs := []) 9 rfl (by kernel_rfl) (fun _ _ => Yl.move rfl) (GX.take (v := .agg (RangeD.cells r60).toArray) (rs := []) 10 rfl (by kernel_rfl) (fun _ _ => Yl.kern rfl rfl (fun _ => by kernel_rfl)) (GX.take (v := .bool r61) (rs := []) 11 rfl (by kernel_rfl) (fun _ _ => Yl.kern rfl rfl (fun _ => by kernel_rfl)) ?_))
  refine GX.do 12 rfl (by kernel_rfl) (Do.newP (cs := [.string ⟨List.toArray ([])⟩, .string ⟨List.toArray ([])⟩]) (t := 24) H65 rfl rfl (fun _ => by kernel_rfl) ?_)
  intro g66 w67 H68
  replace H68 : Own w D w67 [blk g66 [.string ⟨List.toArray ([])⟩, .string ⟨List.toArray ([])⟩] 24, blk g21 (OpD.cells p2) 74, row A26 (List.length l28) c27 (List.flatMap OpD.cells l28) 74 6] := H68
  have H69 : Own w D w67 [blk g21 (OpD.cells p2) 74, row A26 (List.length l28) c27 (List.flatMap OpD.cells l28) 74 6, blk g66 [.string ⟨List.toArray ([])⟩, .string ⟨List.toArray ([])⟩] 24] := H68.pick [1, 2, 0] (by decide) rfl
  refine ⟨.inr ⟨_, H69⟩, ?_⟩
  have H70 : Own w D w67 [blk g66 [.string ⟨List.toArray ([])⟩, .string ⟨List.toArray ([])⟩] 24, blk g21 (OpD.cells p2) 74, row A26 (List.length l28) c27 (List.flatMap OpD.cells l28) 74 6] := H69.pick [2, 0, 1] (by decide) rfl
  refine GX.do0 13 rfl (by kernel_rfl) (Do.store (vs := (RangeD.cells r60)) (o := 0) H70 rfl rfl Try.sizeOf24 rfl rfl rfl rfl ?_)
  intro w71 H72
  replace H72 : Own w D w71 [blk g66 (RangeD.cells r60) 24, blk g21 (OpD.cells p2) 74, row A26 (List.length l28) c27 (List.flatMap OpD.cells l28) 74 6] := H72
  have H73 : Own w D w71 [blk g21 (OpD.cells p2) 74, row A26 (List.length l28) c27 (List.flatMap OpD.cells l28) 74 6, blk g66 (RangeD.cells r60) 24] := H72.pick [1, 2, 0] (by decide) rfl
  refine ⟨.inr ⟨_, H73⟩, ?_⟩
  refine GX.take (v := .bool r61) (rs := []) 14 rfl (by kernel_rfl) (fun _ _ => Yl.assign rfl) (GX.done (by kernel_rfl) (Fin.then (Wp.seq (Wp.region (Mv rfl rfl (WL.nil (Fin.then ?_)))))))
  rcases Bool.eq_false_or_eq_true (r61) with h74 | h74
  refine Wp.cond1 rfl h74 (Wp.region (Mv rfl rfl (Kn (v := .pointer (some ⟨g21, 0, none⟩)) rfl rfl rfl (fun _ => by kernel_rfl) (WL.val (v := .int .i64 p2.xKind) rfl (Yl.load rfl (Lds.one Try.isAgg3 (Cls.of (H73.cls (i := 0) rfl) rfl))) (Kn (v := .pointer (some ⟨g66, 0, none⟩)) rfl rfl rfl (fun _ => by kernel_rfl) (WL.val (v := .string ⟨List.toArray r60.xLo⟩) rfl (Yl.load rfl (Lds.one Try.isAgg9 (Cls.of (H73.cls (i := 2) rfl) rfl))) (Kn (v := .pointer (some ⟨g66, 1, none⟩)) rfl rfl rfl (fun _ => by kernel_rfl) (WL.val (v := .string ⟨List.toArray r60.xHi⟩) rfl (Yl.load rfl (Lds.one Try.isAgg9 (Cls.of (H73.cls (i := 2) rfl) rfl))) (Kn (v := .pointer (some ⟨g21, 5, none⟩)) rfl rfl rfl (fun _ => by kernel_rfl) (WL.val (v := .int .i64 p2.xMost) rfl (Yl.load rfl (Lds.one Try.isAgg3 (Cls.of (H73.cls (i := 0) rfl) rfl))) (Kn (v := .agg #[.int .i64 p2.xKind, .string ⟨List.toArray ([])⟩, .string ⟨List.toArray ([])⟩, .string ⟨List.toArray r60.xLo⟩, .string ⟨List.toArray r60.xHi⟩, .int .i64 p2.xMost]) rfl rfl rfl (fun _ => by kernel_rfl) ?_)))))))))))
  refine WL.do rfl (Do.newRow (cs := [.int .i64 p2.xKind, .string ⟨List.toArray ([])⟩, .string ⟨List.toArray ([])⟩, .string ⟨List.toArray r60.xLo⟩, .string ⟨List.toArray r60.xHi⟩, .int .i64 p2.xMost]) (t := 74) (sz := 6) (m := 1) H73 rfl rfl (fun _ => by kernel_rfl) rfl (by decide) ?_)
  intro A75 w76 H77
  replace H77 : Own w D w76 [row A75 1 1 (List.flatMap OpD.cells ([(OpD.mk p2.xKind ([]) ([]) r60.xLo r60.xHi p2.xMost)])) 74 6, blk g21 (OpD.cells p2) 74, row A26 (List.length l28) c27 (List.flatMap OpD.cells l28) 74 6, blk g66 (RangeD.cells r60) 24] := H77
  have H78 : Own w D w76 [row A26 (List.length l28) c27 (List.flatMap OpD.cells l28) 74 6, row A75 1 1 (List.flatMap OpD.cells ([(OpD.mk p2.xKind ([]) ([]) r60.xLo r60.xHi p2.xMost)])) 74 6, blk g21 (OpD.cells p2) 74, blk g66 (RangeD.cells r60) 24] := H77.pick [2, 0, 1, 3] (by decide) rfl
  refine WL.do rfl (Do.appendW (k := List.length l28) (m := 1) (El41) H78 rfl rfl (src_of Try.underlying41 (H78.rds (i := 1) rfl) (flat_one OpD.one ([(OpD.mk p2.xKind ([]) ([]) r60.xLo r60.xHi p2.xMost)]))) rfl (by omega) (s := List.length (l28 ++ [(OpD.mk p2.xKind ([]) ([]) r60.xLo r60.xHi p2.xMost)])) (by first | omega | (simp only [List.length_append, List.length_cons, List.length_nil] <;> omega)) (List.flatMap_append).symm ?_)
  intro A79 c80 w81 H82
  replace H82 : Own w D w81 [row A79 (List.length (l28 ++ [(OpD.mk p2.xKind ([]) ([]) r60.xLo r60.xHi p2.xMost)])) c80 (List.flatMap OpD.cells (l28 ++ [(OpD.mk p2.xKind ([]) ([]) r60.xLo r60.xHi p2.xMost)])) 74 6, row A75 1 1 (List.flatMap OpD.cells ([(OpD.mk p2.xKind ([]) ([]) r60.xLo r60.xHi p2.xMost)])) 74 6, blk g21 (OpD.cells p2) 74, blk g66 (RangeD.cells r60) 24] := H82
  have hl83 : List.length (l28 ++ [(OpD.mk p2.xKind ([]) ([]) r60.xLo r60.xHi p2.xMost)]) = List.length l28 + 1 := by simp only [List.length_append, List.length_cons, List.length_nil]
  refine As rfl rfl (WL.nil (Fin.blockN (Fin.then (Wp.region (WL.val (v := .int .i64 ((k29 + 1 : Nat) : Int)) rfl (Yl.int (e := IntKind.i64.wrap (((k29 : Nat) : Int) + 1)) (Yl.kern rfl rfl (fun _ => by kernel_rfl)) (by rw [IntWalk.i64_in _ (by omega)]; omega)) (Mv rfl rfl (WL.nil ?_)))))))
  have H84 : Own w D w81 [blk g21 (OpD.cells p2) 74, row A79 (List.length (l28 ++ [(OpD.mk p2.xKind ([]) ([]) r60.xLo r60.xHi p2.xMost)])) c80 (List.flatMap OpD.cells (l28 ++ [(OpD.mk p2.xKind ([]) ([]) r60.xLo r60.xHi p2.xMost)])) 74 6] := H82.pick [2, 0] (by decide) rfl
  exact Fin.round (A79, c80, (l28 ++ [(OpD.mk p2.xKind ([]) ([]) r60.xLo r60.xHi p2.xMost)]), k29 + 1) ⟨rfl, rfl, rfl, rfl, rfl, rfl, rfl, trivial⟩ ⟨H84, (show (k29 + 1) ≤ List.length l0 ∧ List.length (l28 ++ [(OpD.mk p2.xKind ([]) ([]) r60.xLo r60.xHi p2.xMost)]) ≤ (k29 + 1) ∧ owner_cutOp_L0 l0 p1 p2 l0 ([]) 0 = owner_cutOp_L0 l0 p1 p2 (List.drop (k29 + 1) l0) (l28 ++ [(OpD.mk p2.xKind ([]) ([]) r60.xLo r60.xHi p2.xMost)]) (k29 + 1) from ⟨by omega, by omega, Eq.trans (hq35) (Eq.trans (congrArg (fun q => owner_cutOp_L0 l0 p1 p2 q l28 k29) hd41) (Eq.trans (if_pos h42) (Eq.trans (bnd_of hr51) (Eq.trans (bnd_of hr62) (if_pos h74)))))⟩)⟩ (by show List.length l0 - (k29 + 1) < List.length l0 - k29; omega)
  refine Wp.cond0 rfl h74 (Wp.skip (Fin.blockN (Fin.then (Wp.region (WL.val (v := .int .i64 ((k29 + 1 : Nat) : Int)) rfl (Yl.int (e := IntKind.i64.wrap (((k29 : Nat) : Int) + 1)) (Yl.kern rfl rfl (fun _ => by kernel_rfl)) (by rw [IntWalk.i64_in _ (by omega)]; omega)) (Mv rfl rfl (WL.nil ?_)))))))
  have H85 : Own w D w71 [blk g21 (OpD.cells p2) 74, row A26 (List.length l28) c27 (List.flatMap OpD.cells l28) 74 6] := H73.pick [0, 1] (by decide) rfl
  exact Fin.round (A26, c27, l28, k29 + 1) ⟨rfl, rfl, rfl, rfl, rfl, rfl, rfl, trivial⟩ ⟨H85, (show (k29 + 1) ≤ List.length l0 ∧ List.length l28 ≤ (k29 + 1) ∧ owner_cutOp_L0 l0 p1 p2 l0 ([]) 0 = owner_cutOp_L0 l0 p1 p2 (List.drop (k29 + 1) l0) l28 (k29 + 1) from ⟨by omega, by omega, Eq.trans (hq35) (Eq.trans (congrArg (fun q => owner_cutOp_L0 l0 p1 p2 q l28 k29) hd41) (Eq.trans (if_pos h42) (Eq.trans (bnd_of hr51) (Eq.trans (bnd_of hr62) (ifF h74)))))⟩)⟩ (by show List.length l0 - (k29 + 1) < List.length l0 - k29; omega)
  refine GY.do 12 rfl (by kernel_rfl) (Do.newP (cs := [.string ⟨List.toArray ([])⟩, .string ⟨List.toArray ([])⟩]) (t := 24) H54 rfl rfl (fun _ => by kernel_rfl) ?_)
  intro g86 w87 H88
  replace H88 : Own w D w87 [blk g86 [.string ⟨List.toArray ([])⟩, .string ⟨List.toArray ([])⟩] 24, blk g21 (OpD.cells p2) 74, row A26 (List.length l28) c27 (List.flatMap OpD.cells l28) 74 6] := H88
  have H89 : Own w D w87 [blk g21 (OpD.cells p2) 74, row A26 (List.length l28) c27 (List.flatMap OpD.cells l28) 74 6, blk g86 [.string ⟨List.toArray ([])⟩, .string ⟨List.toArray ([])⟩] 24] := H88.pick [1, 2, 0] (by decide) rfl
  refine ⟨.inr ⟨_, H89⟩, ?_⟩
  obtain ⟨⟨r95, r96⟩, hr97⟩ : ∃ q : RangeD × Bool, span_Meet (RangeD.mk p2.xLo p2.xHi) r50 = q := ⟨_, rfl⟩
  obtain ⟨D90, HP91, ro92, bk93, rr94⟩ := Own.enter0 H89
  refine GX.do 8 rfl (by kernel_rfl) (Do.call Try.call57 rfl (span_Meet_ok _ _ (RangeD.mk p2.xLo p2.xHi) r50 r95 r96 HP91 hr97) ?_)
  rintro _ w98 ⟨rfl, HQ99⟩
  have H100 : Own w D w98 [blk g21 (OpD.cells p2) 74, row A26 (List.length l28) c27 (List.flatMap OpD.cells l28) 74 6, blk g86 [.string ⟨List.toArray ([])⟩, .string ⟨List.toArray ([])⟩] 24] := bk93 _ _ HQ99
  refine ⟨.inr ⟨_, H100⟩, ?_⟩
  refine GX.take (v := .tuple #[.agg (RangeD.cells r95).toArray, .bool r96]) (rs := []) 9 rfl (by kernel_rfl) (fun _ _ => Yl.move rfl) (GX.take (v := .agg (RangeD.cells r95).toArray) (rs := []) 10 rfl (by kernel_rfl) (fun _ _ => Yl.kern rfl rfl (fun _ => by kernel_rfl)) (GX.take (v := .bool r96) (rs := []) 11 rfl (by kernel_rfl) (fun _ _ => Yl.kern rfl rfl (fun _ => by kernel_rfl)) ?_))
  have H101 : Own w D w98 [blk g86 [.string ⟨List.toArray ([])⟩, .string ⟨List.toArray ([])⟩] 24, blk g21 (OpD.cells p2) 74, row A26 (List.length l28) c27 (List.flatMap OpD.cells l28) 74 6] := H100.pick [2, 0, 1] (by decide) rfl
  refine GX.do0 13 rfl (by kernel_rfl) (Do.store (vs := (RangeD.cells r95)) (o := 0) H101 rfl rfl Try.sizeOf24 rfl rfl rfl rfl ?_)
  intro w102 H103
  replace H103 : Own w D w102 [blk g86 (RangeD.cells r95) 24, blk g21 (OpD.cells p2) 74, row A26 (List.length l28) c27 (List.flatMap OpD.cells l28) 74 6] := H103
  have H104 : Own w D w102 [blk g21 (OpD.cells p2) 74, row A26 (List.length l28) c27 (List.flatMap OpD.cells l28) 74 6, blk g86 (RangeD.cells r95) 24] := H103.pick [1, 2, 0] (by decide) rfl
  refine ⟨.inr ⟨_, H104⟩, ?_⟩
  refine GX.take (v := .bool r96) (rs := []) 14 rfl (by kernel_rfl) (fun _ _ => Yl.assign rfl) (GX.done (by kernel_rfl) (Fin.then (Wp.seq (Wp.region (Mv rfl rfl (WL.nil (Fin.then ?_)))))))
  rcases Bool.eq_false_or_eq_true (r96) with h105 | h105
  refine Wp.cond1 rfl h105 (Wp.region (Mv rfl rfl (Kn (v := .pointer (some ⟨g21, 0, none⟩)) rfl rfl rfl (fun _ => by kernel_rfl) (WL.val (v := .int .i64 p2.xKind) rfl (Yl.load rfl (Lds.one Try.isAgg3 (Cls.of (H104.cls (i := 0) rfl) rfl))) (Kn (v := .pointer (some ⟨g86, 0, none⟩)) rfl rfl rfl (fun _ => by kernel_rfl) (WL.val (v := .string ⟨List.toArray r95.xLo⟩) rfl (Yl.load rfl (Lds.one Try.isAgg9 (Cls.of (H104.cls (i := 2) rfl) rfl))) (Kn (v := .pointer (some ⟨g86, 1, none⟩)) rfl rfl rfl (fun _ => by kernel_rfl) (WL.val (v := .string ⟨List.toArray r95.xHi⟩) rfl (Yl.load rfl (Lds.one Try.isAgg9 (Cls.of (H104.cls (i := 2) rfl) rfl))) (Kn (v := .pointer (some ⟨g21, 5, none⟩)) rfl rfl rfl (fun _ => by kernel_rfl) (WL.val (v := .int .i64 p2.xMost) rfl (Yl.load rfl (Lds.one Try.isAgg3 (Cls.of (H104.cls (i := 0) rfl) rfl))) (Kn (v := .agg #[.int .i64 p2.xKind, .string ⟨List.toArray ([])⟩, .string ⟨List.toArray ([])⟩, .string ⟨List.toArray r95.xLo⟩, .string ⟨List.toArray r95.xHi⟩, .int .i64 p2.xMost]) rfl rfl rfl (fun _ => by kernel_rfl) ?_)))))))))))
  refine WL.do rfl (Do.newRow (cs := [.int .i64 p2.xKind, .string ⟨List.toArray ([])⟩, .string ⟨List.toArray ([])⟩, .string ⟨List.toArray r95.xLo⟩, .string ⟨List.toArray r95.xHi⟩, .int .i64 p2.xMost]) (t := 74) (sz := 6) (m := 1) H104 rfl rfl (fun _ => by kernel_rfl) rfl (by decide) ?_)
  intro A106 w107 H108
  replace H108 : Own w D w107 [row A106 1 1 (List.flatMap OpD.cells ([(OpD.mk p2.xKind ([]) ([]) r95.xLo r95.xHi p2.xMost)])) 74 6, blk g21 (OpD.cells p2) 74, row A26 (List.length l28) c27 (List.flatMap OpD.cells l28) 74 6, blk g86 (RangeD.cells r95) 24] := H108
  have H109 : Own w D w107 [row A26 (List.length l28) c27 (List.flatMap OpD.cells l28) 74 6, row A106 1 1 (List.flatMap OpD.cells ([(OpD.mk p2.xKind ([]) ([]) r95.xLo r95.xHi p2.xMost)])) 74 6, blk g21 (OpD.cells p2) 74, blk g86 (RangeD.cells r95) 24] := H108.pick [2, 0, 1, 3] (by decide) rfl
  refine WL.do rfl (Do.appendW (k := List.length l28) (m := 1) (El41) H109 rfl rfl (src_of Try.underlying41 (H109.rds (i := 1) rfl) (flat_one OpD.one ([(OpD.mk p2.xKind ([]) ([]) r95.xLo r95.xHi p2.xMost)]))) rfl (by omega) (s := List.length (l28 ++ [(OpD.mk p2.xKind ([]) ([]) r95.xLo r95.xHi p2.xMost)])) (by first | omega | (simp only [List.length_append, List.length_cons, List.length_nil] <;> omega)) (List.flatMap_append).symm ?_)
  intro A110 c111 w112 H113
  replace H113 : Own w D w112 [row A110 (List.length (l28 ++ [(OpD.mk p2.xKind ([]) ([]) r95.xLo r95.xHi p2.xMost)])) c111 (List.flatMap OpD.cells (l28 ++ [(OpD.mk p2.xKind ([]) ([]) r95.xLo r95.xHi p2.xMost)])) 74 6, row A106 1 1 (List.flatMap OpD.cells ([(OpD.mk p2.xKind ([]) ([]) r95.xLo r95.xHi p2.xMost)])) 74 6, blk g21 (OpD.cells p2) 74, blk g86 (RangeD.cells r95) 24] := H113
  have hl114 : List.length (l28 ++ [(OpD.mk p2.xKind ([]) ([]) r95.xLo r95.xHi p2.xMost)]) = List.length l28 + 1 := by simp only [List.length_append, List.length_cons, List.length_nil]
  refine As rfl rfl (WL.nil (Fin.blockN (Fin.then (Wp.region (WL.val (v := .int .i64 ((k29 + 1 : Nat) : Int)) rfl (Yl.int (e := IntKind.i64.wrap (((k29 : Nat) : Int) + 1)) (Yl.kern rfl rfl (fun _ => by kernel_rfl)) (by rw [IntWalk.i64_in _ (by omega)]; omega)) (Mv rfl rfl (WL.nil ?_)))))))
  have H115 : Own w D w112 [blk g21 (OpD.cells p2) 74, row A110 (List.length (l28 ++ [(OpD.mk p2.xKind ([]) ([]) r95.xLo r95.xHi p2.xMost)])) c111 (List.flatMap OpD.cells (l28 ++ [(OpD.mk p2.xKind ([]) ([]) r95.xLo r95.xHi p2.xMost)])) 74 6] := H113.pick [2, 0] (by decide) rfl
  exact Fin.round (A110, c111, (l28 ++ [(OpD.mk p2.xKind ([]) ([]) r95.xLo r95.xHi p2.xMost)]), k29 + 1) ⟨rfl, rfl, rfl, rfl, rfl, rfl, rfl, trivial⟩ ⟨H115, (show (k29 + 1) ≤ List.length l0 ∧ List.length (l28 ++ [(OpD.mk p2.xKind ([]) ([]) r95.xLo r95.xHi p2.xMost)]) ≤ (k29 + 1) ∧ owner_cutOp_L0 l0 p1 p2 l0 ([]) 0 = owner_cutOp_L0 l0 p1 p2 (List.drop (k29 + 1) l0) (l28 ++ [(OpD.mk p2.xKind ([]) ([]) r95.xLo r95.xHi p2.xMost)]) (k29 + 1) from ⟨by omega, by omega, Eq.trans (hq35) (Eq.trans (congrArg (fun q => owner_cutOp_L0 l0 p1 p2 q l28 k29) hd41) (Eq.trans (if_pos h42) (Eq.trans (bnd_of hr51) (Eq.trans (bnd_of hr97) (if_pos h105)))))⟩)⟩ (by show List.length l0 - (k29 + 1) < List.length l0 - k29; omega)
  refine Wp.cond0 rfl h105 (Wp.skip (Fin.blockN (Fin.then (Wp.region (WL.val (v := .int .i64 ((k29 + 1 : Nat) : Int)) rfl (Yl.int (e := IntKind.i64.wrap (((k29 : Nat) : Int) + 1)) (Yl.kern rfl rfl (fun _ => by kernel_rfl)) (by rw [IntWalk.i64_in _ (by omega)]; omega)) (Mv rfl rfl (WL.nil ?_)))))))
  have H116 : Own w D w102 [blk g21 (OpD.cells p2) 74, row A26 (List.length l28) c27 (List.flatMap OpD.cells l28) 74 6] := H104.pick [0, 1] (by decide) rfl
  exact Fin.round (A26, c27, l28, k29 + 1) ⟨rfl, rfl, rfl, rfl, rfl, rfl, rfl, trivial⟩ ⟨H116, (show (k29 + 1) ≤ List.length l0 ∧ List.length l28 ≤ (k29 + 1) ∧ owner_cutOp_L0 l0 p1 p2 l0 ([]) 0 = owner_cutOp_L0 l0 p1 p2 (List.drop (k29 + 1) l0) l28 (k29 + 1) from ⟨by omega, by omega, Eq.trans (hq35) (Eq.trans (congrArg (fun q => owner_cutOp_L0 l0 p1 p2 q l28 k29) hd41) (Eq.trans (if_pos h42) (Eq.trans (bnd_of hr51) (Eq.trans (bnd_of hr97) (ifF h105)))))⟩)⟩ (by show List.length l0 - (k29 + 1) < List.length l0 - k29; omega)
  refine GY.do 12 rfl (by kernel_rfl) (Do.newP (cs := [.string ⟨List.toArray ([])⟩, .string ⟨List.toArray ([])⟩]) (t := 24) H44 rfl rfl (fun _ => by kernel_rfl) ?_)
  intro g117 w118 H119
  replace H119 : Own w D w118 [blk g117 [.string ⟨List.toArray ([])⟩, .string ⟨List.toArray ([])⟩] 24, blk g21 (OpD.cells p2) 74, row A26 (List.length l28) c27 (List.flatMap OpD.cells l28) 74 6] := H119
  have H120 : Own w D w118 [blk g21 (OpD.cells p2) 74, row A26 (List.length l28) c27 (List.flatMap OpD.cells l28) 74 6, blk g117 [.string ⟨List.toArray ([])⟩, .string ⟨List.toArray ([])⟩] 24] := H119.pick [1, 2, 0] (by decide) rfl
  refine ⟨.inr ⟨_, H120⟩, ?_⟩
  obtain ⟨r126, hr127⟩ : ∃ q, owner_rangeOf l0 ((k29 : Nat) : Int) = q := ⟨_, rfl⟩
  obtain ⟨D121, HP122, ro123, bk124, rr125⟩ := Own.enter0 H120
  refine GX.do 7 rfl (by kernel_rfl) (Do.call Try.call36 rfl (owner_rangeOf_ok _ _ A0 (List.length l0) c0 l0 ((k29 : Nat) : Int) r126 HP122 (ro123 _ hx0) rfl (by omega) (by omega) hr127) ?_)
  rintro _ w128 ⟨rfl, HQ129⟩
  have H130 : Own w D w128 [blk g21 (OpD.cells p2) 74, row A26 (List.length l28) c27 (List.flatMap OpD.cells l28) 74 6, blk g117 [.string ⟨List.toArray ([])⟩, .string ⟨List.toArray ([])⟩] 24] := bk124 _ _ HQ129
  refine ⟨.inr ⟨_, H130⟩, ?_⟩
  obtain ⟨⟨r136, r137⟩, hr138⟩ : ∃ q : RangeD × Bool, span_Meet (RangeD.mk p2.xLo p2.xHi) r126 = q := ⟨_, rfl⟩
  obtain ⟨D131, HP132, ro133, bk134, rr135⟩ := Own.enter0 H130
  refine GX.do 8 rfl (by kernel_rfl) (Do.call Try.call57 rfl (span_Meet_ok _ _ (RangeD.mk p2.xLo p2.xHi) r126 r136 r137 HP132 hr138) ?_)
  rintro _ w139 ⟨rfl, HQ140⟩
  have H141 : Own w D w139 [blk g21 (OpD.cells p2) 74, row A26 (List.length l28) c27 (List.flatMap OpD.cells l28) 74 6, blk g117 [.string ⟨List.toArray ([])⟩, .string ⟨List.toArray ([])⟩] 24] := bk134 _ _ HQ140
  refine ⟨.inr ⟨_, H141⟩, ?_⟩
  refine GX.take (v := .tuple #[.agg (RangeD.cells r136).toArray, .bool r137]) (rs := []) 9 rfl (by kernel_rfl) (fun _ _ => Yl.move rfl) (GX.take (v := .agg (RangeD.cells r136).toArray) (rs := []) 10 rfl (by kernel_rfl) (fun _ _ => Yl.kern rfl rfl (fun _ => by kernel_rfl)) (GX.take (v := .bool r137) (rs := []) 11 rfl (by kernel_rfl) (fun _ _ => Yl.kern rfl rfl (fun _ => by kernel_rfl)) ?_))
  have H142 : Own w D w139 [blk g117 [.string ⟨List.toArray ([])⟩, .string ⟨List.toArray ([])⟩] 24, blk g21 (OpD.cells p2) 74, row A26 (List.length l28) c27 (List.flatMap OpD.cells l28) 74 6] := H141.pick [2, 0, 1] (by decide) rfl
  refine GX.do0 13 rfl (by kernel_rfl) (Do.store (vs := (RangeD.cells r136)) (o := 0) H142 rfl rfl Try.sizeOf24 rfl rfl rfl rfl ?_)
  intro w143 H144
  replace H144 : Own w D w143 [blk g117 (RangeD.cells r136) 24, blk g21 (OpD.cells p2) 74, row A26 (List.length l28) c27 (List.flatMap OpD.cells l28) 74 6] := H144
  have H145 : Own w D w143 [blk g21 (OpD.cells p2) 74, row A26 (List.length l28) c27 (List.flatMap OpD.cells l28) 74 6, blk g117 (RangeD.cells r136) 24] := H144.pick [1, 2, 0] (by decide) rfl
  refine ⟨.inr ⟨_, H145⟩, ?_⟩
  refine GX.take (v := .bool r137) (rs := []) 14 rfl (by kernel_rfl) (fun _ _ => Yl.assign rfl) (GX.done (by kernel_rfl) (Fin.then (Wp.seq (Wp.region (Mv rfl rfl (WL.nil (Fin.then ?_)))))))
  rcases Bool.eq_false_or_eq_true (r137) with h146 | h146
  refine Wp.cond1 rfl h146 (Wp.region (Mv rfl rfl (Kn (v := .pointer (some ⟨g21, 0, none⟩)) rfl rfl rfl (fun _ => by kernel_rfl) (WL.val (v := .int .i64 p2.xKind) rfl (Yl.load rfl (Lds.one Try.isAgg3 (Cls.of (H145.cls (i := 0) rfl) rfl))) (Kn (v := .pointer (some ⟨g117, 0, none⟩)) rfl rfl rfl (fun _ => by kernel_rfl) (WL.val (v := .string ⟨List.toArray r136.xLo⟩) rfl (Yl.load rfl (Lds.one Try.isAgg9 (Cls.of (H145.cls (i := 2) rfl) rfl))) (Kn (v := .pointer (some ⟨g117, 1, none⟩)) rfl rfl rfl (fun _ => by kernel_rfl) (WL.val (v := .string ⟨List.toArray r136.xHi⟩) rfl (Yl.load rfl (Lds.one Try.isAgg9 (Cls.of (H145.cls (i := 2) rfl) rfl))) (Kn (v := .pointer (some ⟨g21, 5, none⟩)) rfl rfl rfl (fun _ => by kernel_rfl) (WL.val (v := .int .i64 p2.xMost) rfl (Yl.load rfl (Lds.one Try.isAgg3 (Cls.of (H145.cls (i := 0) rfl) rfl))) (Kn (v := .agg #[.int .i64 p2.xKind, .string ⟨List.toArray ([])⟩, .string ⟨List.toArray ([])⟩, .string ⟨List.toArray r136.xLo⟩, .string ⟨List.toArray r136.xHi⟩, .int .i64 p2.xMost]) rfl rfl rfl (fun _ => by kernel_rfl) ?_)))))))))))
  refine WL.do rfl (Do.newRow (cs := [.int .i64 p2.xKind, .string ⟨List.toArray ([])⟩, .string ⟨List.toArray ([])⟩, .string ⟨List.toArray r136.xLo⟩, .string ⟨List.toArray r136.xHi⟩, .int .i64 p2.xMost]) (t := 74) (sz := 6) (m := 1) H145 rfl rfl (fun _ => by kernel_rfl) rfl (by decide) ?_)
  intro A147 w148 H149
  replace H149 : Own w D w148 [row A147 1 1 (List.flatMap OpD.cells ([(OpD.mk p2.xKind ([]) ([]) r136.xLo r136.xHi p2.xMost)])) 74 6, blk g21 (OpD.cells p2) 74, row A26 (List.length l28) c27 (List.flatMap OpD.cells l28) 74 6, blk g117 (RangeD.cells r136) 24] := H149
  have H150 : Own w D w148 [row A26 (List.length l28) c27 (List.flatMap OpD.cells l28) 74 6, row A147 1 1 (List.flatMap OpD.cells ([(OpD.mk p2.xKind ([]) ([]) r136.xLo r136.xHi p2.xMost)])) 74 6, blk g21 (OpD.cells p2) 74, blk g117 (RangeD.cells r136) 24] := H149.pick [2, 0, 1, 3] (by decide) rfl
  refine WL.do rfl (Do.appendW (k := List.length l28) (m := 1) (El41) H150 rfl rfl (src_of Try.underlying41 (H150.rds (i := 1) rfl) (flat_one OpD.one ([(OpD.mk p2.xKind ([]) ([]) r136.xLo r136.xHi p2.xMost)]))) rfl (by omega) (s := List.length (l28 ++ [(OpD.mk p2.xKind ([]) ([]) r136.xLo r136.xHi p2.xMost)])) (by first | omega | (simp only [List.length_append, List.length_cons, List.length_nil] <;> omega)) (List.flatMap_append).symm ?_)
  intro A151 c152 w153 H154
  replace H154 : Own w D w153 [row A151 (List.length (l28 ++ [(OpD.mk p2.xKind ([]) ([]) r136.xLo r136.xHi p2.xMost)])) c152 (List.flatMap OpD.cells (l28 ++ [(OpD.mk p2.xKind ([]) ([]) r136.xLo r136.xHi p2.xMost)])) 74 6, row A147 1 1 (List.flatMap OpD.cells ([(OpD.mk p2.xKind ([]) ([]) r136.xLo r136.xHi p2.xMost)])) 74 6, blk g21 (OpD.cells p2) 74, blk g117 (RangeD.cells r136) 24] := H154
  have hl155 : List.length (l28 ++ [(OpD.mk p2.xKind ([]) ([]) r136.xLo r136.xHi p2.xMost)]) = List.length l28 + 1 := by simp only [List.length_append, List.length_cons, List.length_nil]
  refine As rfl rfl (WL.nil (Fin.blockN (Fin.then (Wp.region (WL.val (v := .int .i64 ((k29 + 1 : Nat) : Int)) rfl (Yl.int (e := IntKind.i64.wrap (((k29 : Nat) : Int) + 1)) (Yl.kern rfl rfl (fun _ => by kernel_rfl)) (by rw [IntWalk.i64_in _ (by omega)]; omega)) (Mv rfl rfl (WL.nil ?_)))))))
  have H156 : Own w D w153 [blk g21 (OpD.cells p2) 74, row A151 (List.length (l28 ++ [(OpD.mk p2.xKind ([]) ([]) r136.xLo r136.xHi p2.xMost)])) c152 (List.flatMap OpD.cells (l28 ++ [(OpD.mk p2.xKind ([]) ([]) r136.xLo r136.xHi p2.xMost)])) 74 6] := H154.pick [2, 0] (by decide) rfl
  exact Fin.round (A151, c152, (l28 ++ [(OpD.mk p2.xKind ([]) ([]) r136.xLo r136.xHi p2.xMost)]), k29 + 1) ⟨rfl, rfl, rfl, rfl, rfl, rfl, rfl, trivial⟩ ⟨H156, (show (k29 + 1) ≤ List.length l0 ∧ List.length (l28 ++ [(OpD.mk p2.xKind ([]) ([]) r136.xLo r136.xHi p2.xMost)]) ≤ (k29 + 1) ∧ owner_cutOp_L0 l0 p1 p2 l0 ([]) 0 = owner_cutOp_L0 l0 p1 p2 (List.drop (k29 + 1) l0) (l28 ++ [(OpD.mk p2.xKind ([]) ([]) r136.xLo r136.xHi p2.xMost)]) (k29 + 1) from ⟨by omega, by omega, Eq.trans (hq35) (Eq.trans (congrArg (fun q => owner_cutOp_L0 l0 p1 p2 q l28 k29) hd41) (Eq.trans (if_pos h42) (Eq.trans (bnd_of hr127) (Eq.trans (bnd_of hr138) (if_pos h146)))))⟩)⟩ (by show List.length l0 - (k29 + 1) < List.length l0 - k29; omega)
  refine Wp.cond0 rfl h146 (Wp.skip (Fin.blockN (Fin.then (Wp.region (WL.val (v := .int .i64 ((k29 + 1 : Nat) : Int)) rfl (Yl.int (e := IntKind.i64.wrap (((k29 : Nat) : Int) + 1)) (Yl.kern rfl rfl (fun _ => by kernel_rfl)) (by rw [IntWalk.i64_in _ (by omega)]; omega)) (Mv rfl rfl (WL.nil ?_)))))))
  have H157 : Own w D w143 [blk g21 (OpD.cells p2) 74, row A26 (List.length l28) c27 (List.flatMap OpD.cells l28) 74 6] := H145.pick [0, 1] (by decide) rfl
  exact Fin.round (A26, c27, l28, k29 + 1) ⟨rfl, rfl, rfl, rfl, rfl, rfl, rfl, trivial⟩ ⟨H157, (show (k29 + 1) ≤ List.length l0 ∧ List.length l28 ≤ (k29 + 1) ∧ owner_cutOp_L0 l0 p1 p2 l0 ([]) 0 = owner_cutOp_L0 l0 p1 p2 (List.drop (k29 + 1) l0) l28 (k29 + 1) from ⟨by omega, by omega, Eq.trans (hq35) (Eq.trans (congrArg (fun q => owner_cutOp_L0 l0 p1 p2 q l28 k29) hd41) (Eq.trans (if_pos h42) (Eq.trans (bnd_of hr127) (Eq.trans (bnd_of hr138) (ifF h146)))))⟩)⟩ (by show List.length l0 - (k29 + 1) < List.length l0 - k29; omega)
  refine Wp.cond1 rfl (decide_eq_true h42) (Wp.exit (Fin.thenX (Fin.blockX (Fin.then (Wp.region (WL.val (v := .int .i64 ((k29 + 1 : Nat) : Int)) rfl (Yl.int (e := IntKind.i64.wrap (((k29 : Nat) : Int) + 1)) (Yl.kern rfl rfl (fun _ => by kernel_rfl)) (by rw [IntWalk.i64_in _ (by omega)]; omega)) (Mv rfl rfl (WL.nil ?_))))))))
  have H158 : Own w D w32 [blk g21 (OpD.cells p2) 74, row A26 (List.length l28) c27 (List.flatMap OpD.cells l28) 74 6] := H33.pick [0, 1] (by decide) rfl
  exact Fin.round (A26, c27, l28, k29 + 1) ⟨rfl, rfl, rfl, rfl, rfl, rfl, rfl, trivial⟩ ⟨H158, (show (k29 + 1) ≤ List.length l0 ∧ List.length l28 ≤ (k29 + 1) ∧ owner_cutOp_L0 l0 p1 p2 l0 ([]) 0 = owner_cutOp_L0 l0 p1 p2 (List.drop (k29 + 1) l0) l28 (k29 + 1) from ⟨by omega, by omega, Eq.trans (hq35) (Eq.trans (congrArg (fun q => owner_cutOp_L0 l0 p1 p2 q l28 k29) hd41) (if_neg h42))⟩)⟩ (by show List.length l0 - (k29 + 1) < List.length l0 - k29; omega)
  refine Wp.cond0 rfl (decide_eq_false h38) (Wp.exit (Fin.thenX ?_))
  have hL159 : owner_cutOp_L0 l0 p1 p2 l0 ([]) 0 = l28 := Eq.trans (hq35) (Eq.trans (congrArg (fun q => owner_cutOp_L0 l0 p1 p2 q l28 k29) (drop_end (ls := l0) (i := k29) (by omega))) rfl)
  refine Fin.thenX (Fin.blockX (Fin.then (Wp.seq (Wp.region (Mv rfl rfl (As rfl rfl (WL.nil (Fin.then (Wp.ret (Fin.res (res1 rfl rfl) ?_))))))))))
  have H160 : Own w D w32 [row A26 (List.length l28) c27 (List.flatMap OpD.cells l28) 74 6] := H33.pick [1] (by decide) rfl
  have e : owner_cutOp l0 p1 p2 = l28 := Eq.trans (if_pos h24) (bnd_of hL159)
  obtain rfl := e.symm.trans hr
  exact ⟨A26, c27, rfl, H160, (by first | omega | (simp only [List.length_cons, List.length_nil]; omega))⟩
  refine WL.valG (v := .pointer (some ⟨g21, 0, none⟩)) rfl rfl (decide_eq_true h24) rfl (Yl.kern rfl rfl (fun _ => by kernel_rfl)) (WL.valG (v := .int .i64 p2.xKind) rfl rfl (decide_eq_true h24) rfl (Yl.load rfl (Lds.one Try.isAgg3 (Cls.of (H23.cls (i := 0) rfl) rfl))) (WL.valG (v := .bool (decide (¬ (p2.xKind = 5)))) rfl rfl (decide_eq_true h24) rfl (Yl.bool (e := !(decide (p2.xKind = 5))) (Yl.kern rfl rfl (fun _ => by kernel_rfl)) decide_not.symm) (WL.val (v := .bool (decide (¬ (p2.xKind = 5)))) rfl (Yl.pickT rfl (decide_eq_true h24) rfl) (WL.nil (Fin.then ?_)))))
  by_cases h161 : p2.xKind = 5
  refine Wp.cond0 rfl (decide_eq_false (not_not_intro h161)) (Wp.skip (Fin.then (Wp.seq (Wp.seq (Wp.region (Mv rfl rfl (Kn (v := .int .i64 ((List.length l0 : Nat) : Int)) rfl rfl rfl (fun _ => by kernel_rfl) (Mv rfl rfl (WL.nil (Fin.then (Wp.block ?_)))))))))))
  have H162 : Own w D w22 [row none 0 0 (List.flatMap OpD.cells ([])) 74 6, blk g21 (OpD.cells p2) 74] := H23.free (row_nil 74 6)
  have H168 : Own w D w22 [blk g21 (OpD.cells p2) 74, row none 0 0 (List.flatMap OpD.cells ([])) 74 6] := H162.pick [1, 0] (by decide) rfl
  refine Wp.loop (ι := (Option Addr) × Nat × (List OpD) × Nat) (fun i => [(7, .slice i.1 (List.length i.2.2.1) i.2.1), (36, .int .i64 ((i.2.2.2 : Nat) : Int)), (35, .int .i64 ((List.length l0 : Nat) : Int)), (6, .slice none 0 0), (5, .pointer (some ⟨g21, 0, none⟩)), (0, .slice A0 (List.length l0) c0), (1, .int .i64 p1)]) (fun (i : (Option Addr) × Nat × (List OpD) × Nat) w' => Own w D w' [blk g21 (OpD.cells p2) 74, row i.1 (List.length i.2.2.1) i.2.1 (List.flatMap OpD.cells i.2.2.1) 74 6] ∧ (i.2.2.2 ≤ List.length l0 ∧ List.length i.2.2.1 ≤ i.2.2.2 ∧ owner_cutOp_L1 l0 p1 p2 l0 ([]) 0 = owner_cutOp_L1 l0 p1 p2 (List.drop i.2.2.2 l0) i.2.2.1 i.2.2.2)) (fun i => List.length l0 - i.2.2.2) (none, 0, [], 0) ⟨rfl, rfl, rfl, rfl, rfl, rfl, rfl, trivial⟩ ⟨H168, (show 0 ≤ List.length l0 ∧ 0 ≤ 0 ∧ owner_cutOp_L1 l0 p1 p2 l0 ([]) 0 = owner_cutOp_L1 l0 p1 p2 (List.drop 0 l0) ([]) 0 from ⟨by omega, by omega, rfl⟩)⟩ ?_
  rintro ⟨A163, c164, l165, k166⟩ w169 ⟨H170, hf171⟩
  show Wp _ _ _ [(7, .slice A163 (List.length l165) c164), (36, .int .i64 ((k166 : Nat) : Int)), (35, .int .i64 ((List.length l0 : Nat) : Int)), (6, .slice none 0 0), (5, .pointer (some ⟨g21, 0, none⟩)), (0, .slice A0 (List.length l0) c0), (1, .int .i64 p1)] _ _
  replace H170 : Own w D w169 [blk g21 (OpD.cells p2) 74, row A163 (List.length l165) c164 (List.flatMap OpD.cells l165) 74 6] := H170
  replace hf171 : k166 ≤ List.length l0 ∧ List.length l165 ≤ k166 ∧ owner_cutOp_L1 l0 p1 p2 l0 ([]) 0 = owner_cutOp_L1 l0 p1 p2 (List.drop k166 l0) l165 k166 := hf171
  obtain ⟨hi173, hi174, hq172⟩ := hf171
  refine Wp.seq (Wp.region (Kn (v := .bool (decide (((k166 : Nat) : Int) < ((List.length l0 : Nat) : Int)))) rfl rfl rfl (fun _ => by kernel_rfl) (WL.nil (Fin.then (Wp.seq ?_)))))
  by_cases h175 : ((k166 : Nat) : Int) < ((List.length l0 : Nat) : Int)
  obtain ⟨x176, hx177⟩ := rds_at (ls := l0) (i := k166) OwnerD.len (by decide) (H170.ro hx0) (by first | omega | (simp; done) | (simp; omega))
  have hd178 := drop_at hx177
  refine Wp.cond1 rfl (decide_eq_true h175) (Wp.skip (Fin.then (Wp.seq (Wp.block (Wp.seq (Wp.region (Mv rfl rfl (As rfl rfl (WL.nil (Fin.then (Wp.seq (Wp.seq (Wp.region (Mv rfl rfl (Mv rfl rfl (WL.val (v := .pointer (some ⟨ab A0, ao A0 + k166 * 2, none⟩)) rfl (Yl.indexAddr (El22) rfl rfl ((H170.ro hx0).addr (i := k166) (by omega)) (by omega)) (Kn (v := .pointer (some ⟨ab A0, ao A0 + k166 * 2 + 1, none⟩)) rfl rfl rfl (fun _ => by kernel_rfl) (WL.val (v := .int .i64 x176.xShard) rfl (Yl.load rfl (Lds.one Try.isAgg3 (((H170.ro hx0).elem OwnerD.len hx177 (by decide)).at_ (k := 1) rfl))) (Mv rfl rfl (WL.val (v := .bool (decide (¬ (x176.xShard = p1)))) rfl (Yl.bool (e := !(decide (x176.xShard = p1))) (Yl.kern rfl rfl (fun _ => by kernel_rfl)) decide_not.symm) (WL.nil (Fin.then ?_))))))))))))))))))))))
  by_cases h179 : x176.xShard = p1
  refine Wp.cond0 rfl (decide_eq_false (not_not_intro h179)) (Wp.skip (Fin.then (Wp.seq ?_)))
  have H181 := H170.drew
  refine Wp.drawnX [] (fun W => ∃ L', Own w D W ([blk g21 (OpD.cells p2) 74, row A163 (List.length l165) c164 (List.flatMap OpD.cells l165) 74 6] ++ L')) (by kernel_rfl) (by kernel_rfl) (NoP.then (NoP.block (NoP.then (NoP.then (NoP.block (NoP.then NoP.base)))))) ⟨_, H181⟩ ?_
  revert H181
  generalize World.drew w169 = w180
  intro H181
  replace H181 : Own w D w180 [blk g21 (OpD.cells p2) 74, row A163 (List.length l165) c164 (List.flatMap OpD.cells l165) 74 6] := H181
  refine GX.take (v := .pointer (some ⟨g21, 3, none⟩)) (rs := []) 0 rfl (by kernel_rfl) (fun _ _ => Yl.kern rfl rfl (fun _ => by kernel_rfl)) (GX.take (v := .string ⟨List.toArray p2.xLo⟩) (rs := []) 1 rfl (by kernel_rfl) (fun _ ⟨_, H9⟩ => Yl.load rfl (Lds.one Try.isAgg9 (Cls.of (H9.cls (i := 0) rfl) rfl))) (GX.take (v := .pointer (some ⟨g21, 4, none⟩)) (rs := []) 2 rfl (by kernel_rfl) (fun _ _ => Yl.kern rfl rfl (fun _ => by kernel_rfl)) (GX.take (v := .string ⟨List.toArray p2.xHi⟩) (rs := []) 3 rfl (by kernel_rfl) (fun _ ⟨_, H9⟩ => Yl.load rfl (Lds.one Try.isAgg9 (Cls.of (H9.cls (i := 0) rfl) rfl))) (GX.take (v := .agg #[.string ⟨List.toArray p2.xLo⟩, .string ⟨List.toArray p2.xHi⟩]) (rs := []) 4 rfl (by kernel_rfl) (fun _ _ => Yl.kern rfl rfl (fun _ => by kernel_rfl)) (GX.take (v := .slice A0 (List.length l0) c0) (rs := []) 5 rfl (by kernel_rfl) (fun _ _ => Yl.move rfl) (GX.take (v := .int .i64 ((k166 : Nat) : Int)) (rs := []) 6 rfl (by kernel_rfl) (fun _ _ => Yl.move rfl) ?_))))))
  refine GX.any2 7 12 (by kernel_rfl) ?_ ?_
  obtain ⟨r187, hr188⟩ : ∃ q, owner_rangeOf l0 ((k166 : Nat) : Int) = q := ⟨_, rfl⟩
  obtain ⟨D182, HP183, ro184, bk185, rr186⟩ := Own.enter0 H181
  refine GY.do 7 rfl (by kernel_rfl) (Do.call Try.call36 rfl (owner_rangeOf_ok _ _ A0 (List.length l0) c0 l0 ((k166 : Nat) : Int) r187 HP183 (ro184 _ hx0) rfl (by omega) (by omega) hr188) ?_)
  rintro _ w189 ⟨rfl, HQ190⟩
  have H191 : Own w D w189 [blk g21 (OpD.cells p2) 74, row A163 (List.length l165) c164 (List.flatMap OpD.cells l165) 74 6] := bk185 _ _ HQ190
  refine ⟨.inr ⟨_, H191⟩, ?_⟩
  refine GX.any2 8 12 (by kernel_rfl) ?_ ?_
  obtain ⟨⟨r197, r198⟩, hr199⟩ : ∃ q : RangeD × Bool, span_Meet (RangeD.mk p2.xLo p2.xHi) r187 = q := ⟨_, rfl⟩
  obtain ⟨D192, HP193, ro194, bk195, rr196⟩ := Own.enter0 H191
  refine GY.do 8 rfl (by kernel_rfl) (Do.call Try.call57 rfl (span_Meet_ok _ _ (RangeD.mk p2.xLo p2.xHi) r187 r197 r198 HP193 hr199) ?_)
  rintro _ w200 ⟨rfl, HQ201⟩
  have H202 : Own w D w200 [blk g21 (OpD.cells p2) 74, row A163 (List.length l165) c164 (List.flatMap OpD.cells l165) 74 6] := bk195 _ _ HQ201
  refine ⟨.inr ⟨_, H202⟩, ?_⟩
  refine GX.take (v := .tuple #[.agg (RangeD.cells r197).toArray, .bool r198]) (rs := []) 9 rfl (by kernel_rfl) (fun _ _ => Yl.move rfl) (GX.take (v := .agg (RangeD.cells r197).toArray) (rs := []) 10 rfl (by kernel_rfl) (fun _ _ => Yl.kern rfl rfl (fun _ => by kernel_rfl)) (GX.take (v := .bool r198) (rs := []) 11 rfl (by kernel_rfl) (fun _ _ => Yl.kern rfl rfl (fun _ => by kernel_rfl)) ?_))
  refine GX.do 12 rfl (by kernel_rfl) (Do.newP (cs := [.string ⟨List.toArray ([])⟩, .string ⟨List.toArray ([])⟩]) (t := 24) H202 rfl rfl (fun _ => by kernel_rfl) ?_)
  intro g203 w204 H205
  replace H205 : Own w D w204 [blk g203 [.string ⟨List.toArray ([])⟩, .string ⟨List.toArray ([])⟩] 24, blk g21 (OpD.cells p2) 74, row A163 (List.length l165) c164 (List.flatMap OpD.cells l165) 74 6] := H205
  have H206 : Own w D w204 [blk g21 (OpD.cells p2) 74, row A163 (List.length l165) c164 (List.flatMap OpD.cells l165) 74 6, blk g203 [.string ⟨List.toArray ([])⟩, .string ⟨List.toArray ([])⟩] 24] := H205.pick [1, 2, 0] (by decide) rfl
  refine ⟨.inr ⟨_, H206⟩, ?_⟩
  have H207 : Own w D w204 [blk g203 [.string ⟨List.toArray ([])⟩, .string ⟨List.toArray ([])⟩] 24, blk g21 (OpD.cells p2) 74, row A163 (List.length l165) c164 (List.flatMap OpD.cells l165) 74 6] := H206.pick [2, 0, 1] (by decide) rfl
  refine GX.do0 13 rfl (by kernel_rfl) (Do.store (vs := (RangeD.cells r197)) (o := 0) H207 rfl rfl Try.sizeOf24 rfl rfl rfl rfl ?_)
  intro w208 H209
  replace H209 : Own w D w208 [blk g203 (RangeD.cells r197) 24, blk g21 (OpD.cells p2) 74, row A163 (List.length l165) c164 (List.flatMap OpD.cells l165) 74 6] := H209
  have H210 : Own w D w208 [blk g21 (OpD.cells p2) 74, row A163 (List.length l165) c164 (List.flatMap OpD.cells l165) 74 6, blk g203 (RangeD.cells r197) 24] := H209.pick [1, 2, 0] (by decide) rfl
  refine ⟨.inr ⟨_, H210⟩, ?_⟩
  refine GX.take (v := .bool r198) (rs := []) 14 rfl (by kernel_rfl) (fun _ _ => Yl.assign rfl) (GX.done (by kernel_rfl) (Fin.then (Wp.seq (Wp.region (Mv rfl rfl (WL.nil (Fin.then ?_)))))))
  rcases Bool.eq_false_or_eq_true (r198) with h211 | h211
  refine Wp.cond1 rfl h211 (Wp.region (Mv rfl rfl (Kn (v := .pointer (some ⟨g21, 0, none⟩)) rfl rfl rfl (fun _ => by kernel_rfl) (WL.val (v := .int .i64 p2.xKind) rfl (Yl.load rfl (Lds.one Try.isAgg3 (Cls.of (H210.cls (i := 0) rfl) rfl))) (Kn (v := .pointer (some ⟨g203, 0, none⟩)) rfl rfl rfl (fun _ => by kernel_rfl) (WL.val (v := .string ⟨List.toArray r197.xLo⟩) rfl (Yl.load rfl (Lds.one Try.isAgg9 (Cls.of (H210.cls (i := 2) rfl) rfl))) (Kn (v := .pointer (some ⟨g203, 1, none⟩)) rfl rfl rfl (fun _ => by kernel_rfl) (WL.val (v := .string ⟨List.toArray r197.xHi⟩) rfl (Yl.load rfl (Lds.one Try.isAgg9 (Cls.of (H210.cls (i := 2) rfl) rfl))) (Kn (v := .pointer (some ⟨g21, 5, none⟩)) rfl rfl rfl (fun _ => by kernel_rfl) (WL.val (v := .int .i64 p2.xMost) rfl (Yl.load rfl (Lds.one Try.isAgg3 (Cls.of (H210.cls (i := 0) rfl) rfl))) (Kn (v := .agg #[.int .i64 p2.xKind, .string ⟨List.toArray ([])⟩, .string ⟨List.toArray ([])⟩, .string ⟨List.toArray r197.xLo⟩, .string ⟨List.toArray r197.xHi⟩, .int .i64 p2.xMost]) rfl rfl rfl (fun _ => by kernel_rfl) ?_)))))))))))
  refine WL.do rfl (Do.newRow (cs := [.int .i64 p2.xKind, .string ⟨List.toArray ([])⟩, .string ⟨List.toArray ([])⟩, .string ⟨List.toArray r197.xLo⟩, .string ⟨List.toArray r197.xHi⟩, .int .i64 p2.xMost]) (t := 74) (sz := 6) (m := 1) H210 rfl rfl (fun _ => by kernel_rfl) rfl (by decide) ?_)
  intro A212 w213 H214
  replace H214 : Own w D w213 [row A212 1 1 (List.flatMap OpD.cells ([(OpD.mk p2.xKind ([]) ([]) r197.xLo r197.xHi p2.xMost)])) 74 6, blk g21 (OpD.cells p2) 74, row A163 (List.length l165) c164 (List.flatMap OpD.cells l165) 74 6, blk g203 (RangeD.cells r197) 24] := H214
  have H215 : Own w D w213 [row A163 (List.length l165) c164 (List.flatMap OpD.cells l165) 74 6, row A212 1 1 (List.flatMap OpD.cells ([(OpD.mk p2.xKind ([]) ([]) r197.xLo r197.xHi p2.xMost)])) 74 6, blk g21 (OpD.cells p2) 74, blk g203 (RangeD.cells r197) 24] := H214.pick [2, 0, 1, 3] (by decide) rfl
  refine WL.do rfl (Do.appendW (k := List.length l165) (m := 1) (El41) H215 rfl rfl (src_of Try.underlying41 (H215.rds (i := 1) rfl) (flat_one OpD.one ([(OpD.mk p2.xKind ([]) ([]) r197.xLo r197.xHi p2.xMost)]))) rfl (by omega) (s := List.length (l165 ++ [(OpD.mk p2.xKind ([]) ([]) r197.xLo r197.xHi p2.xMost)])) (by first | omega | (simp only [List.length_append, List.length_cons, List.length_nil] <;> omega)) (List.flatMap_append).symm ?_)
  intro A216 c217 w218 H219
  replace H219 : Own w D w218 [row A216 (List.length (l165 ++ [(OpD.mk p2.xKind ([]) ([]) r197.xLo r197.xHi p2.xMost)])) c217 (List.flatMap OpD.cells (l165 ++ [(OpD.mk p2.xKind ([]) ([]) r197.xLo r197.xHi p2.xMost)])) 74 6, row A212 1 1 (List.flatMap OpD.cells ([(OpD.mk p2.xKind ([]) ([]) r197.xLo r197.xHi p2.xMost)])) 74 6, blk g21 (OpD.cells p2) 74, blk g203 (RangeD.cells r197) 24] := H219
  have hl220 : List.length (l165 ++ [(OpD.mk p2.xKind ([]) ([]) r197.xLo r197.xHi p2.xMost)]) = List.length l165 + 1 := by simp only [List.length_append, List.length_cons, List.length_nil]
  refine As rfl rfl (WL.nil (Fin.blockN (Fin.then (Wp.region (WL.val (v := .int .i64 ((k166 + 1 : Nat) : Int)) rfl (Yl.int (e := IntKind.i64.wrap (((k166 : Nat) : Int) + 1)) (Yl.kern rfl rfl (fun _ => by kernel_rfl)) (by rw [IntWalk.i64_in _ (by omega)]; omega)) (Mv rfl rfl (WL.nil ?_)))))))
  have H221 : Own w D w218 [blk g21 (OpD.cells p2) 74, row A216 (List.length (l165 ++ [(OpD.mk p2.xKind ([]) ([]) r197.xLo r197.xHi p2.xMost)])) c217 (List.flatMap OpD.cells (l165 ++ [(OpD.mk p2.xKind ([]) ([]) r197.xLo r197.xHi p2.xMost)])) 74 6] := H219.pick [2, 0] (by decide) rfl
  exact Fin.round (A216, c217, (l165 ++ [(OpD.mk p2.xKind ([]) ([]) r197.xLo r197.xHi p2.xMost)]), k166 + 1) ⟨rfl, rfl, rfl, rfl, rfl, rfl, rfl, trivial⟩ ⟨H221, (show (k166 + 1) ≤ List.length l0 ∧ List.length (l165 ++ [(OpD.mk p2.xKind ([]) ([]) r197.xLo r197.xHi p2.xMost)]) ≤ (k166 + 1) ∧ owner_cutOp_L1 l0 p1 p2 l0 ([]) 0 = owner_cutOp_L1 l0 p1 p2 (List.drop (k166 + 1) l0) (l165 ++ [(OpD.mk p2.xKind ([]) ([]) r197.xLo r197.xHi p2.xMost)]) (k166 + 1) from ⟨by omega, by omega, Eq.trans (hq172) (Eq.trans (congrArg (fun q => owner_cutOp_L1 l0 p1 p2 q l165 k166) hd178) (Eq.trans (if_pos h179) (Eq.trans (bnd_of hr188) (Eq.trans (bnd_of hr199) (if_pos h211)))))⟩)⟩ (by show List.length l0 - (k166 + 1) < List.length l0 - k166; omega)
  refine Wp.cond0 rfl h211 (Wp.skip (Fin.blockN (Fin.then (Wp.region (WL.val (v := .int .i64 ((k166 + 1 : Nat) : Int)) rfl (Yl.int (e := IntKind.i64.wrap (((k166 : Nat) : Int) + 1)) (Yl.kern rfl rfl (fun _ => by kernel_rfl)) (by rw [IntWalk.i64_in _ (by omega)]; omega)) (Mv rfl rfl (WL.nil ?_)))))))
  have H222 : Own w D w208 [blk g21 (OpD.cells p2) 74, row A163 (List.length l165) c164 (List.flatMap OpD.cells l165) 74 6] := H210.pick [0, 1] (by decide) rfl
  exact Fin.round (A163, c164, l165, k166 + 1) ⟨rfl, rfl, rfl, rfl, rfl, rfl, rfl, trivial⟩ ⟨H222, (show (k166 + 1) ≤ List.length l0 ∧ List.length l165 ≤ (k166 + 1) ∧ owner_cutOp_L1 l0 p1 p2 l0 ([]) 0 = owner_cutOp_L1 l0 p1 p2 (List.drop (k166 + 1) l0) l165 (k166 + 1) from ⟨by omega, by omega, Eq.trans (hq172) (Eq.trans (congrArg (fun q => owner_cutOp_L1 l0 p1 p2 q l165 k166) hd178) (Eq.trans (if_pos h179) (Eq.trans (bnd_of hr188) (Eq.trans (bnd_of hr199) (ifF h211)))))⟩)⟩ (by show List.length l0 - (k166 + 1) < List.length l0 - k166; omega)
  refine GY.do 12 rfl (by kernel_rfl) (Do.newP (cs := [.string ⟨List.toArray ([])⟩, .string ⟨List.toArray ([])⟩]) (t := 24) H191 rfl rfl (fun _ => by kernel_rfl) ?_)
  intro g223 w224 H225
  replace H225 : Own w D w224 [blk g223 [.string ⟨List.toArray ([])⟩, .string ⟨List.toArray ([])⟩] 24, blk g21 (OpD.cells p2) 74, row A163 (List.length l165) c164 (List.flatMap OpD.cells l165) 74 6] := H225
  have H226 : Own w D w224 [blk g21 (OpD.cells p2) 74, row A163 (List.length l165) c164 (List.flatMap OpD.cells l165) 74 6, blk g223 [.string ⟨List.toArray ([])⟩, .string ⟨List.toArray ([])⟩] 24] := H225.pick [1, 2, 0] (by decide) rfl
  refine ⟨.inr ⟨_, H226⟩, ?_⟩
  obtain ⟨⟨r232, r233⟩, hr234⟩ : ∃ q : RangeD × Bool, span_Meet (RangeD.mk p2.xLo p2.xHi) r187 = q := ⟨_, rfl⟩
  obtain ⟨D227, HP228, ro229, bk230, rr231⟩ := Own.enter0 H226
  refine GX.do 8 rfl (by kernel_rfl) (Do.call Try.call57 rfl (span_Meet_ok _ _ (RangeD.mk p2.xLo p2.xHi) r187 r232 r233 HP228 hr234) ?_)
  rintro _ w235 ⟨rfl, HQ236⟩
  have H237 : Own w D w235 [blk g21 (OpD.cells p2) 74, row A163 (List.length l165) c164 (List.flatMap OpD.cells l165) 74 6, blk g223 [.string ⟨List.toArray ([])⟩, .string ⟨List.toArray ([])⟩] 24] := bk230 _ _ HQ236
  refine ⟨.inr ⟨_, H237⟩, ?_⟩
  refine GX.take (v := .tuple #[.agg (RangeD.cells r232).toArray, .bool r233]) (rs := []) 9 rfl (by kernel_rfl) (fun _ _ => Yl.move rfl) (GX.take (v := .agg (RangeD.cells r232).toArray) (rs := []) 10 rfl (by kernel_rfl) (fun _ _ => Yl.kern rfl rfl (fun _ => by kernel_rfl)) (GX.take (v := .bool r233) (rs := []) 11 rfl (by kernel_rfl) (fun _ _ => Yl.kern rfl rfl (fun _ => by kernel_rfl)) ?_))
  have H238 : Own w D w235 [blk g223 [.string ⟨List.toArray ([])⟩, .string ⟨List.toArray ([])⟩] 24, blk g21 (OpD.cells p2) 74, row A163 (List.length l165) c164 (List.flatMap OpD.cells l165) 74 6] := H237.pick [2, 0, 1] (by decide) rfl
  refine GX.do0 13 rfl (by kernel_rfl) (Do.store (vs := (RangeD.cells r232)) (o := 0) H238 rfl rfl Try.sizeOf24 rfl rfl rfl rfl ?_)
  intro w239 H240
  replace H240 : Own w D w239 [blk g223 (RangeD.cells r232) 24, blk g21 (OpD.cells p2) 74, row A163 (List.length l165) c164 (List.flatMap OpD.cells l165) 74 6] := H240
  have H241 : Own w D w239 [blk g21 (OpD.cells p2) 74, row A163 (List.length l165) c164 (List.flatMap OpD.cells l165) 74 6, blk g223 (RangeD.cells r232) 24] := H240.pick [1, 2, 0] (by decide) rfl
  refine ⟨.inr ⟨_, H241⟩, ?_⟩
  refine GX.take (v := .bool r233) (rs := []) 14 rfl (by kernel_rfl) (fun _ _ => Yl.assign rfl) (GX.done (by kernel_rfl) (Fin.then (Wp.seq (Wp.region (Mv rfl rfl (WL.nil (Fin.then ?_)))))))
  rcases Bool.eq_false_or_eq_true (r233) with h242 | h242
  refine Wp.cond1 rfl h242 (Wp.region (Mv rfl rfl (Kn (v := .pointer (some ⟨g21, 0, none⟩)) rfl rfl rfl (fun _ => by kernel_rfl) (WL.val (v := .int .i64 p2.xKind) rfl (Yl.load rfl (Lds.one Try.isAgg3 (Cls.of (H241.cls (i := 0) rfl) rfl))) (Kn (v := .pointer (some ⟨g223, 0, none⟩)) rfl rfl rfl (fun _ => by kernel_rfl) (WL.val (v := .string ⟨List.toArray r232.xLo⟩) rfl (Yl.load rfl (Lds.one Try.isAgg9 (Cls.of (H241.cls (i := 2) rfl) rfl))) (Kn (v := .pointer (some ⟨g223, 1, none⟩)) rfl rfl rfl (fun _ => by kernel_rfl) (WL.val (v := .string ⟨List.toArray r232.xHi⟩) rfl (Yl.load rfl (Lds.one Try.isAgg9 (Cls.of (H241.cls (i := 2) rfl) rfl))) (Kn (v := .pointer (some ⟨g21, 5, none⟩)) rfl rfl rfl (fun _ => by kernel_rfl) (WL.val (v := .int .i64 p2.xMost) rfl (Yl.load rfl (Lds.one Try.isAgg3 (Cls.of (H241.cls (i := 0) rfl) rfl))) (Kn (v := .agg #[.int .i64 p2.xKind, .string ⟨List.toArray ([])⟩, .string ⟨List.toArray ([])⟩, .string ⟨List.toArray r232.xLo⟩, .string ⟨List.toArray r232.xHi⟩, .int .i64 p2.xMost]) rfl rfl rfl (fun _ => by kernel_rfl) ?_)))))))))))
  refine WL.do rfl (Do.newRow (cs := [.int .i64 p2.xKind, .string ⟨List.toArray ([])⟩, .string ⟨List.toArray ([])⟩, .string ⟨List.toArray r232.xLo⟩, .string ⟨List.toArray r232.xHi⟩, .int .i64 p2.xMost]) (t := 74) (sz := 6) (m := 1) H241 rfl rfl (fun _ => by kernel_rfl) rfl (by decide) ?_)
  intro A243 w244 H245
  replace H245 : Own w D w244 [row A243 1 1 (List.flatMap OpD.cells ([(OpD.mk p2.xKind ([]) ([]) r232.xLo r232.xHi p2.xMost)])) 74 6, blk g21 (OpD.cells p2) 74, row A163 (List.length l165) c164 (List.flatMap OpD.cells l165) 74 6, blk g223 (RangeD.cells r232) 24] := H245
  have H246 : Own w D w244 [row A163 (List.length l165) c164 (List.flatMap OpD.cells l165) 74 6, row A243 1 1 (List.flatMap OpD.cells ([(OpD.mk p2.xKind ([]) ([]) r232.xLo r232.xHi p2.xMost)])) 74 6, blk g21 (OpD.cells p2) 74, blk g223 (RangeD.cells r232) 24] := H245.pick [2, 0, 1, 3] (by decide) rfl
  refine WL.do rfl (Do.appendW (k := List.length l165) (m := 1) (El41) H246 rfl rfl (src_of Try.underlying41 (H246.rds (i := 1) rfl) (flat_one OpD.one ([(OpD.mk p2.xKind ([]) ([]) r232.xLo r232.xHi p2.xMost)]))) rfl (by omega) (s := List.length (l165 ++ [(OpD.mk p2.xKind ([]) ([]) r232.xLo r232.xHi p2.xMost)])) (by first | omega | (simp only [List.length_append, List.length_cons, List.length_nil] <;> omega)) (List.flatMap_append).symm ?_)
  intro A247 c248 w249 H250
  replace H250 : Own w D w249 [row A247 (List.length (l165 ++ [(OpD.mk p2.xKind ([]) ([]) r232.xLo r232.xHi p2.xMost)])) c248 (List.flatMap OpD.cells (l165 ++ [(OpD.mk p2.xKind ([]) ([]) r232.xLo r232.xHi p2.xMost)])) 74 6, row A243 1 1 (List.flatMap OpD.cells ([(OpD.mk p2.xKind ([]) ([]) r232.xLo r232.xHi p2.xMost)])) 74 6, blk g21 (OpD.cells p2) 74, blk g223 (RangeD.cells r232) 24] := H250
  have hl251 : List.length (l165 ++ [(OpD.mk p2.xKind ([]) ([]) r232.xLo r232.xHi p2.xMost)]) = List.length l165 + 1 := by simp only [List.length_append, List.length_cons, List.length_nil]
  refine As rfl rfl (WL.nil (Fin.blockN (Fin.then (Wp.region (WL.val (v := .int .i64 ((k166 + 1 : Nat) : Int)) rfl (Yl.int (e := IntKind.i64.wrap (((k166 : Nat) : Int) + 1)) (Yl.kern rfl rfl (fun _ => by kernel_rfl)) (by rw [IntWalk.i64_in _ (by omega)]; omega)) (Mv rfl rfl (WL.nil ?_)))))))
  have H252 : Own w D w249 [blk g21 (OpD.cells p2) 74, row A247 (List.length (l165 ++ [(OpD.mk p2.xKind ([]) ([]) r232.xLo r232.xHi p2.xMost)])) c248 (List.flatMap OpD.cells (l165 ++ [(OpD.mk p2.xKind ([]) ([]) r232.xLo r232.xHi p2.xMost)])) 74 6] := H250.pick [2, 0] (by decide) rfl
  exact Fin.round (A247, c248, (l165 ++ [(OpD.mk p2.xKind ([]) ([]) r232.xLo r232.xHi p2.xMost)]), k166 + 1) ⟨rfl, rfl, rfl, rfl, rfl, rfl, rfl, trivial⟩ ⟨H252, (show (k166 + 1) ≤ List.length l0 ∧ List.length (l165 ++ [(OpD.mk p2.xKind ([]) ([]) r232.xLo r232.xHi p2.xMost)]) ≤ (k166 + 1) ∧ owner_cutOp_L1 l0 p1 p2 l0 ([]) 0 = owner_cutOp_L1 l0 p1 p2 (List.drop (k166 + 1) l0) (l165 ++ [(OpD.mk p2.xKind ([]) ([]) r232.xLo r232.xHi p2.xMost)]) (k166 + 1) from ⟨by omega, by omega, Eq.trans (hq172) (Eq.trans (congrArg (fun q => owner_cutOp_L1 l0 p1 p2 q l165 k166) hd178) (Eq.trans (if_pos h179) (Eq.trans (bnd_of hr188) (Eq.trans (bnd_of hr234) (if_pos h242)))))⟩)⟩ (by show List.length l0 - (k166 + 1) < List.length l0 - k166; omega)
  refine Wp.cond0 rfl h242 (Wp.skip (Fin.blockN (Fin.then (Wp.region (WL.val (v := .int .i64 ((k166 + 1 : Nat) : Int)) rfl (Yl.int (e := IntKind.i64.wrap (((k166 : Nat) : Int) + 1)) (Yl.kern rfl rfl (fun _ => by kernel_rfl)) (by rw [IntWalk.i64_in _ (by omega)]; omega)) (Mv rfl rfl (WL.nil ?_)))))))
  have H253 : Own w D w239 [blk g21 (OpD.cells p2) 74, row A163 (List.length l165) c164 (List.flatMap OpD.cells l165) 74 6] := H241.pick [0, 1] (by decide) rfl
  exact Fin.round (A163, c164, l165, k166 + 1) ⟨rfl, rfl, rfl, rfl, rfl, rfl, rfl, trivial⟩ ⟨H253, (show (k166 + 1) ≤ List.length l0 ∧ List.length l165 ≤ (k166 + 1) ∧ owner_cutOp_L1 l0 p1 p2 l0 ([]) 0 = owner_cutOp_L1 l0 p1 p2 (List.drop (k166 + 1) l0) l165 (k166 + 1) from ⟨by omega, by omega, Eq.trans (hq172) (Eq.trans (congrArg (fun q => owner_cutOp_L1 l0 p1 p2 q l165 k166) hd178) (Eq.trans (if_pos h179) (Eq.trans (bnd_of hr188) (Eq.trans (bnd_of hr234) (ifF h242)))))⟩)⟩ (by show List.length l0 - (k166 + 1) < List.length l0 - k166; omega)
  refine GY.do 12 rfl (by kernel_rfl) (Do.newP (cs := [.string ⟨List.toArray ([])⟩, .string ⟨List.toArray ([])⟩]) (t := 24) H181 rfl rfl (fun _ => by kernel_rfl) ?_)
  intro g254 w255 H256
  replace H256 : Own w D w255 [blk g254 [.string ⟨List.toArray ([])⟩, .string ⟨List.toArray ([])⟩] 24, blk g21 (OpD.cells p2) 74, row A163 (List.length l165) c164 (List.flatMap OpD.cells l165) 74 6] := H256
  have H257 : Own w D w255 [blk g21 (OpD.cells p2) 74, row A163 (List.length l165) c164 (List.flatMap OpD.cells l165) 74 6, blk g254 [.string ⟨List.toArray ([])⟩, .string ⟨List.toArray ([])⟩] 24] := H256.pick [1, 2, 0] (by decide) rfl
  refine ⟨.inr ⟨_, H257⟩, ?_⟩
  obtain ⟨r263, hr264⟩ : ∃ q, owner_rangeOf l0 ((k166 : Nat) : Int) = q := ⟨_, rfl⟩
  obtain ⟨D258, HP259, ro260, bk261, rr262⟩ := Own.enter0 H257
  refine GX.do 7 rfl (by kernel_rfl) (Do.call Try.call36 rfl (owner_rangeOf_ok _ _ A0 (List.length l0) c0 l0 ((k166 : Nat) : Int) r263 HP259 (ro260 _ hx0) rfl (by omega) (by omega) hr264) ?_)
  rintro _ w265 ⟨rfl, HQ266⟩
  have H267 : Own w D w265 [blk g21 (OpD.cells p2) 74, row A163 (List.length l165) c164 (List.flatMap OpD.cells l165) 74 6, blk g254 [.string ⟨List.toArray ([])⟩, .string ⟨List.toArray ([])⟩] 24] := bk261 _ _ HQ266
  refine ⟨.inr ⟨_, H267⟩, ?_⟩
  obtain ⟨⟨r273, r274⟩, hr275⟩ : ∃ q : RangeD × Bool, span_Meet (RangeD.mk p2.xLo p2.xHi) r263 = q := ⟨_, rfl⟩
  obtain ⟨D268, HP269, ro270, bk271, rr272⟩ := Own.enter0 H267
  refine GX.do 8 rfl (by kernel_rfl) (Do.call Try.call57 rfl (span_Meet_ok _ _ (RangeD.mk p2.xLo p2.xHi) r263 r273 r274 HP269 hr275) ?_)
  rintro _ w276 ⟨rfl, HQ277⟩
  have H278 : Own w D w276 [blk g21 (OpD.cells p2) 74, row A163 (List.length l165) c164 (List.flatMap OpD.cells l165) 74 6, blk g254 [.string ⟨List.toArray ([])⟩, .string ⟨List.toArray ([])⟩] 24] := bk271 _ _ HQ277
  refine ⟨.inr ⟨_, H278⟩, ?_⟩
  refine GX.take (v := .tuple #[.agg (RangeD.cells r273).toArray, .bool r274]) (rs := []) 9 rfl (by kernel_rfl) (fun _ _ => Yl.move rfl) (GX.take (v := .agg (RangeD.cells r273).toArray) (rs := []) 10 rfl (by kernel_rfl) (fun _ _ => Yl.kern rfl rfl (fun _ => by kernel_rfl)) (GX.take (v := .bool r274) (rs := []) 11 rfl (by kernel_rfl) (fun _ _ => Yl.kern rfl rfl (fun _ => by kernel_rfl)) ?_))
  have H279 : Own w D w276 [blk g254 [.string ⟨List.toArray ([])⟩, .string ⟨List.toArray ([])⟩] 24, blk g21 (OpD.cells p2) 74, row A163 (List.length l165) c164 (List.flatMap OpD.cells l165) 74 6] := H278.pick [2, 0, 1] (by decide) rfl
  refine GX.do0 13 rfl (by kernel_rfl) (Do.store (vs := (RangeD.cells r273)) (o := 0) H279 rfl rfl Try.sizeOf24 rfl rfl rfl rfl ?_)
  intro w280 H281
  replace H281 : Own w D w280 [blk g254 (RangeD.cells r273) 24, blk g21 (OpD.cells p2) 74, row A163 (List.length l165) c164 (List.flatMap OpD.cells l165) 74 6] := H281
  have H282 : Own w D w280 [blk g21 (OpD.cells p2) 74, row A163 (List.length l165) c164 (List.flatMap OpD.cells l165) 74 6, blk g254 (RangeD.cells r273) 24] := H281.pick [1, 2, 0] (by decide) rfl
  refine ⟨.inr ⟨_, H282⟩, ?_⟩
  refine GX.take (v := .bool r274) (rs := []) 14 rfl (by kernel_rfl) (fun _ _ => Yl.assign rfl) (GX.done (by kernel_rfl) (Fin.then (Wp.seq (Wp.region (Mv rfl rfl (WL.nil (Fin.then ?_)))))))
  rcases Bool.eq_false_or_eq_true (r274) with h283 | h283
  refine Wp.cond1 rfl h283 (Wp.region (Mv rfl rfl (Kn (v := .pointer (some ⟨g21, 0, none⟩)) rfl rfl rfl (fun _ => by kernel_rfl) (WL.val (v := .int .i64 p2.xKind) rfl (Yl.load rfl (Lds.one Try.isAgg3 (Cls.of (H282.cls (i := 0) rfl) rfl))) (Kn (v := .pointer (some ⟨g254, 0, none⟩)) rfl rfl rfl (fun _ => by kernel_rfl) (WL.val (v := .string ⟨List.toArray r273.xLo⟩) rfl (Yl.load rfl (Lds.one Try.isAgg9 (Cls.of (H282.cls (i := 2) rfl) rfl))) (Kn (v := .pointer (some ⟨g254, 1, none⟩)) rfl rfl rfl (fun _ => by kernel_rfl) (WL.val (v := .string ⟨List.toArray r273.xHi⟩) rfl (Yl.load rfl (Lds.one Try.isAgg9 (Cls.of (H282.cls (i := 2) rfl) rfl))) (Kn (v := .pointer (some ⟨g21, 5, none⟩)) rfl rfl rfl (fun _ => by kernel_rfl) (WL.val (v := .int .i64 p2.xMost) rfl (Yl.load rfl (Lds.one Try.isAgg3 (Cls.of (H282.cls (i := 0) rfl) rfl))) (Kn (v := .agg #[.int .i64 p2.xKind, .string ⟨List.toArray ([])⟩, .string ⟨List.toArray ([])⟩, .string ⟨List.toArray r273.xLo⟩, .string ⟨List.toArray r273.xHi⟩, .int .i64 p2.xMost]) rfl rfl rfl (fun _ => by kernel_rfl) ?_)))))))))))
  refine WL.do rfl (Do.newRow (cs := [.int .i64 p2.xKind, .string ⟨List.toArray ([])⟩, .string ⟨List.toArray ([])⟩, .string ⟨List.toArray r273.xLo⟩, .string ⟨List.toArray r273.xHi⟩, .int .i64 p2.xMost]) (t := 74) (sz := 6) (m := 1) H282 rfl rfl (fun _ => by kernel_rfl) rfl (by decide) ?_)
  intro A284 w285 H286
  replace H286 : Own w D w285 [row A284 1 1 (List.flatMap OpD.cells ([(OpD.mk p2.xKind ([]) ([]) r273.xLo r273.xHi p2.xMost)])) 74 6, blk g21 (OpD.cells p2) 74, row A163 (List.length l165) c164 (List.flatMap OpD.cells l165) 74 6, blk g254 (RangeD.cells r273) 24] := H286
  have H287 : Own w D w285 [row A163 (List.length l165) c164 (List.flatMap OpD.cells l165) 74 6, row A284 1 1 (List.flatMap OpD.cells ([(OpD.mk p2.xKind ([]) ([]) r273.xLo r273.xHi p2.xMost)])) 74 6, blk g21 (OpD.cells p2) 74, blk g254 (RangeD.cells r273) 24] := H286.pick [2, 0, 1, 3] (by decide) rfl
  refine WL.do rfl (Do.appendW (k := List.length l165) (m := 1) (El41) H287 rfl rfl (src_of Try.underlying41 (H287.rds (i := 1) rfl) (flat_one OpD.one ([(OpD.mk p2.xKind ([]) ([]) r273.xLo r273.xHi p2.xMost)]))) rfl (by omega) (s := List.length (l165 ++ [(OpD.mk p2.xKind ([]) ([]) r273.xLo r273.xHi p2.xMost)])) (by first | omega | (simp only [List.length_append, List.length_cons, List.length_nil] <;> omega)) (List.flatMap_append).symm ?_)
  intro A288 c289 w290 H291
  replace H291 : Own w D w290 [row A288 (List.length (l165 ++ [(OpD.mk p2.xKind ([]) ([]) r273.xLo r273.xHi p2.xMost)])) c289 (List.flatMap OpD.cells (l165 ++ [(OpD.mk p2.xKind ([]) ([]) r273.xLo r273.xHi p2.xMost)])) 74 6, row A284 1 1 (List.flatMap OpD.cells ([(OpD.mk p2.xKind ([]) ([]) r273.xLo r273.xHi p2.xMost)])) 74 6, blk g21 (OpD.cells p2) 74, blk g254 (RangeD.cells r273) 24] := H291
  have hl292 : List.length (l165 ++ [(OpD.mk p2.xKind ([]) ([]) r273.xLo r273.xHi p2.xMost)]) = List.length l165 + 1 := by simp only [List.length_append, List.length_cons, List.length_nil]
  refine As rfl rfl (WL.nil (Fin.blockN (Fin.then (Wp.region (WL.val (v := .int .i64 ((k166 + 1 : Nat) : Int)) rfl (Yl.int (e := IntKind.i64.wrap (((k166 : Nat) : Int) + 1)) (Yl.kern rfl rfl (fun _ => by kernel_rfl)) (by rw [IntWalk.i64_in _ (by omega)]; omega)) (Mv rfl rfl (WL.nil ?_)))))))
  have H293 : Own w D w290 [blk g21 (OpD.cells p2) 74, row A288 (List.length (l165 ++ [(OpD.mk p2.xKind ([]) ([]) r273.xLo r273.xHi p2.xMost)])) c289 (List.flatMap OpD.cells (l165 ++ [(OpD.mk p2.xKind ([]) ([]) r273.xLo r273.xHi p2.xMost)])) 74 6] := H291.pick [2, 0] (by decide) rfl
  exact Fin.round (A288, c289, (l165 ++ [(OpD.mk p2.xKind ([]) ([]) r273.xLo r273.xHi p2.xMost)]), k166 + 1) ⟨rfl, rfl, rfl, rfl, rfl, rfl, rfl, trivial⟩ ⟨H293, (show (k166 + 1) ≤ List.length l0 ∧ List.length (l165 ++ [(OpD.mk p2.xKind ([]) ([]) r273.xLo r273.xHi p2.xMost)]) ≤ (k166 + 1) ∧ owner_cutOp_L1 l0 p1 p2 l0 ([]) 0 = owner_cutOp_L1 l0 p1 p2 (List.drop (k166 + 1) l0) (l165 ++ [(OpD.mk p2.xKind ([]) ([]) r273.xLo r273.xHi p2.xMost)]) (k166 + 1) from ⟨by omega, by omega, Eq.trans (hq172) (Eq.trans (congrArg (fun q => owner_cutOp_L1 l0 p1 p2 q l165 k166) hd178) (Eq.trans (if_pos h179) (Eq.trans (bnd_of hr264) (Eq.trans (bnd_of hr275) (if_pos h283)))))⟩)⟩ (by show List.length l0 - (k166 + 1) < List.length l0 - k166; omega)
  refine Wp.cond0 rfl h283 (Wp.skip (Fin.blockN (Fin.then (Wp.region (WL.val (v := .int .i64 ((k166 + 1 : Nat) : Int)) rfl (Yl.int (e := IntKind.i64.wrap (((k166 : Nat) : Int) + 1)) (Yl.kern rfl rfl (fun _ => by kernel_rfl)) (by rw [IntWalk.i64_in _ (by omega)]; omega)) (Mv rfl rfl (WL.nil ?_)))))))
  have H294 : Own w D w280 [blk g21 (OpD.cells p2) 74, row A163 (List.length l165) c164 (List.flatMap OpD.cells l165) 74 6] := H282.pick [0, 1] (by decide) rfl
  exact Fin.round (A163, c164, l165, k166 + 1) ⟨rfl, rfl, rfl, rfl, rfl, rfl, rfl, trivial⟩ ⟨H294, (show (k166 + 1) ≤ List.length l0 ∧ List.length l165 ≤ (k166 + 1) ∧ owner_cutOp_L1 l0 p1 p2 l0 ([]) 0 = owner_cutOp_L1 l0 p1 p2 (List.drop (k166 + 1) l0) l165 (k166 + 1) from ⟨by omega, by omega, Eq.trans (hq172) (Eq.trans (congrArg (fun q => owner_cutOp_L1 l0 p1 p2 q l165 k166) hd178) (Eq.trans (if_pos h179) (Eq.trans (bnd_of hr264) (Eq.trans (bnd_of hr275) (ifF h283)))))⟩)⟩ (by show List.length l0 - (k166 + 1) < List.length l0 - k166; omega)
  refine Wp.cond1 rfl (decide_eq_true h179) (Wp.exit (Fin.thenX (Fin.blockX (Fin.then (Wp.region (WL.val (v := .int .i64 ((k166 + 1 : Nat) : Int)) rfl (Yl.int (e := IntKind.i64.wrap (((k166 : Nat) : Int) + 1)) (Yl.kern rfl rfl (fun _ => by kernel_rfl)) (by rw [IntWalk.i64_in _ (by omega)]; omega)) (Mv rfl rfl (WL.nil ?_))))))))
  have H295 : Own w D w169 [blk g21 (OpD.cells p2) 74, row A163 (List.length l165) c164 (List.flatMap OpD.cells l165) 74 6] := H170.pick [0, 1] (by decide) rfl
  exact Fin.round (A163, c164, l165, k166 + 1) ⟨rfl, rfl, rfl, rfl, rfl, rfl, rfl, trivial⟩ ⟨H295, (show (k166 + 1) ≤ List.length l0 ∧ List.length l165 ≤ (k166 + 1) ∧ owner_cutOp_L1 l0 p1 p2 l0 ([]) 0 = owner_cutOp_L1 l0 p1 p2 (List.drop (k166 + 1) l0) l165 (k166 + 1) from ⟨by omega, by omega, Eq.trans (hq172) (Eq.trans (congrArg (fun q => owner_cutOp_L1 l0 p1 p2 q l165 k166) hd178) (if_neg h179))⟩)⟩ (by show List.length l0 - (k166 + 1) < List.length l0 - k166; omega)
  refine Wp.cond0 rfl (decide_eq_false h175) (Wp.exit (Fin.thenX ?_))
  have hL296 : owner_cutOp_L1 l0 p1 p2 l0 ([]) 0 = l165 := Eq.trans (hq172) (Eq.trans (congrArg (fun q => owner_cutOp_L1 l0 p1 p2 q l165 k166) (drop_end (ls := l0) (i := k166) (by omega))) rfl)
  refine Fin.thenX (Fin.blockX (Fin.then (Wp.seq (Wp.region (Mv rfl rfl (As rfl rfl (WL.nil (Fin.then (Wp.ret (Fin.res (res1 rfl rfl) ?_))))))))))
  have H297 : Own w D w169 [row A163 (List.length l165) c164 (List.flatMap OpD.cells l165) 74 6] := H170.pick [1] (by decide) rfl
  have e : owner_cutOp l0 p1 p2 = l165 := Eq.trans (if_neg h24) (Eq.trans (if_pos h161) (bnd_of hL296))
  obtain rfl := e.symm.trans hr
  exact ⟨A163, c164, rfl, H297, (by first | omega | (simp only [List.length_cons, List.length_nil]; omega))⟩
  refine Wp.cond1 rfl (decide_eq_true h161) (Wp.seq (Wp.seq (Wp.region (Mv rfl rfl (Mv rfl rfl (Kn (v := .pointer (some ⟨g21, 1, none⟩)) rfl rfl rfl (fun _ => by kernel_rfl) (WL.val (v := .string ⟨List.toArray p2.xKey⟩) rfl (Yl.load rfl (Lds.one Try.isAgg9 (Cls.of (H23.cls (i := 0) rfl) rfl))) ?_)))))))
  obtain ⟨r303, hr304⟩ : ∃ q, owner_place l0 p2.xKey = q := ⟨_, rfl⟩
  obtain ⟨D298, HP299, ro300, bk301, rr302⟩ := Own.enter0 H23
  refine WL.do rfl (Do.call Try.call33 rfl (owner_place_ok _ _ A0 (List.length l0) c0 l0 p2.xKey r303 HP299 (ro300 _ hx0) rfl (by omega) (by first | omega | (simp only [List.length_cons, List.length_nil]; omega)) hr304) ?_)
  rintro _ w305 ⟨rfl, HQ306, hk308⟩
  have H307 : Own w D w305 [blk g21 (OpD.cells p2) 74] := bk301 _ _ HQ306
  replace hk308 : 0 ≤ r303 ∧ r303 < ((List.length l0 : Nat) : Int) := hk308
  obtain ⟨x309, hx310⟩ := rds_at (ls := l0) (i := Int.toNat r303) OwnerD.len (by decide) (H307.ro hx0) (by first | omega | (simp; done) | (simp; omega))
  refine WL.val (v := .pointer (some ⟨ab A0, ao A0 + (Int.toNat r303) * 2, none⟩)) rfl (Yl.indexAddr (El22) rfl (ev_nat (r := r303) rfl (by omega)) ((H307.ro hx0).addr (i := Int.toNat r303) (by omega)) (by omega)) (Kn (v := .pointer (some ⟨ab A0, ao A0 + (Int.toNat r303) * 2 + 1, none⟩)) rfl rfl rfl (fun _ => by kernel_rfl) (WL.val (v := .int .i64 x309.xShard) rfl (Yl.load rfl (Lds.one Try.isAgg3 (((H307.ro hx0).elem OwnerD.len hx310 (by decide)).at_ (k := 1) rfl))) (Mv rfl rfl (Kn (v := .bool (decide (x309.xShard = p1))) rfl rfl rfl (fun _ => by kernel_rfl) (WL.nil (Fin.then ?_))))))
  refine Wp.joinT (ι := (Option Addr) × Nat × (List OpD)) (fun i => [(7, .slice i.1 (List.length i.2.2) i.2.1), (6, .slice none 0 0), (5, .pointer (some ⟨g21, 0, none⟩)), (0, .slice A0 (List.length l0) c0), (1, .int .i64 p1)]) (fun (i : (Option Addr) × Nat × (List OpD)) w' => Own w D w' [blk g21 (OpD.cells p2) 74, row i.1 (List.length i.2.2) i.2.1 (List.flatMap OpD.cells i.2.2) 74 6] ∧ (0 ≤ List.length i.2.2 ∧ List.length i.2.2 ≤ 1 ∧ (if x309.xShard = p1 then [p2] else []) = i.2.2)) ?_ ?_
  by_cases h314 : x309.xShard = p1
  refine Wp.cond1 rfl (decide_eq_true h314) (Wp.region (Mv rfl rfl (WL.val (v := .agg (OpD.cells p2).toArray) rfl (Yl.load rfl (Lds.agg (cs := (OpD.cells p2)) Try.isAgg74 Try.sizeOf74 ((H307.cls (i := 0) rfl).lit (k := 0) (m := 6) rfl))) ?_)))
  refine WL.do rfl (Do.newRow (cs := (OpD.cells p2)) (t := 74) (sz := 6) (m := 1) H307 rfl rfl (fun _ => by kernel_rfl) rfl (by decide) ?_)
  intro A315 w316 H317
  replace H317 : Own w D w316 [row A315 1 1 (List.flatMap OpD.cells ([p2])) 74 6, blk g21 (OpD.cells p2) 74] := H317
  have H318 : Own w D w316 [row none 0 0 (List.flatMap OpD.cells ([])) 74 6, row A315 1 1 (List.flatMap OpD.cells ([p2])) 74 6, blk g21 (OpD.cells p2) 74] := H317.free (row_nil 74 6)
  refine WL.do rfl (Do.appendW (k := 0) (m := 1) (El41) H318 rfl rfl (src_of Try.underlying41 (H318.rds (i := 1) rfl) (flat_one OpD.one ([p2]))) rfl (by omega) (s := 1) (by omega) rfl ?_)
  intro A319 c320 w321 H322
  replace H322 : Own w D w321 [row A319 1 c320 (List.flatMap OpD.cells ([p2])) 74 6, row A315 1 1 (List.flatMap OpD.cells ([p2])) 74 6, blk g21 (OpD.cells p2) 74] := H322
  refine As rfl rfl (WL.nil ?_)
  have H323 : Own w D w321 [blk g21 (OpD.cells p2) 74, row A319 1 c320 (List.flatMap OpD.cells ([p2])) 74 6] := H322.pick [2, 0] (by decide) rfl
  exact Fin.join (A319, c320, [p2]) ⟨rfl, rfl, rfl, rfl, rfl, trivial⟩ ⟨H323, (show 0 ≤ List.length ([p2]) ∧ List.length ([p2]) ≤ 1 ∧ (if x309.xShard = p1 then [p2] else []) = ([p2]) from ⟨by omega, by first | omega | exact Nat.le_refl _ | exact Nat.zero_le _, if_pos h314⟩)⟩
  refine Wp.cond0 rfl (decide_eq_false h314) (Wp.skip ?_)
  have H324 : Own w D w305 [row none 0 0 (List.flatMap OpD.cells ([])) 74 6, blk g21 (OpD.cells p2) 74] := H307.free (row_nil 74 6)
  have H325 : Own w D w305 [blk g21 (OpD.cells p2) 74, row none 0 0 (List.flatMap OpD.cells ([])) 74 6] := H324.pick [1, 0] (by decide) rfl
  exact Fin.join (none, 0, []) ⟨rfl, rfl, rfl, rfl, rfl, trivial⟩ ⟨H325, (show 0 ≤ List.length ([]) ∧ 0 ≤ 1 ∧ (if x309.xShard = p1 then [p2] else []) = ([]) from ⟨by omega, by first | omega | exact Nat.le_refl _ | exact Nat.zero_le _, if_neg h314⟩)⟩
  rintro ⟨A311, c312, l313⟩ w326 ⟨H327, hf328⟩
  show Wp _ _ _ [(7, .slice A311 (List.length l313) c312), (6, .slice none 0 0), (5, .pointer (some ⟨g21, 0, none⟩)), (0, .slice A0 (List.length l0) c0), (1, .int .i64 p1)] _ _
  replace H327 : Own w D w326 [blk g21 (OpD.cells p2) 74, row A311 (List.length l313) c312 (List.flatMap OpD.cells l313) 74 6] := H327
  replace hf328 : 0 ≤ List.length l313 ∧ List.length l313 ≤ 1 ∧ (if x309.xShard = p1 then [p2] else []) = l313 := hf328
  obtain ⟨hi330, hi331, hj329⟩ := hf328
  refine Wp.seq (Wp.region (Mv rfl rfl (As rfl rfl (WL.nil (Fin.then (Wp.ret (Fin.thenR (Fin.res (res1 rfl rfl) ?_))))))))
  have H332 : Own w D w326 [row A311 (List.length l313) c312 (List.flatMap OpD.cells l313) 74 6] := H327.pick [1] (by decide) rfl
  have e : owner_cutOp l0 p1 p2 = l313 := Eq.trans (if_neg h24) (Eq.trans (if_neg h161) (Eq.trans (bnd_of hr304) (Eq.trans (bnd_of (getD_of hx310)) (bnd_of hj329))))
  obtain rfl := e.symm.trans hr
  exact ⟨A311, c312, rfl, H332, (by first | omega | (simp only [List.length_cons, List.length_nil]; omega))⟩

theorem El42 : Elem Try.prog 42 47 3 56 := elem_of (z := .agg #[.int .i64 0, .slice none 0 0, .slice none 0 0]) Try.underlying42 (by kernel_rfl) rfl (by decide)

theorem El45 : Elem Try.prog 45 3 1 8 := elem_of (z := .int .i64 0) Try.underlying45 (by kernel_rfl) rfl (by decide)

structure PartD where
  xShard : Int
  xOps : Sv OpD
  xFrom : Sv Int

def PartD.cells (x : PartD) : List Value := [.int .i64 x.xShard, .slice x.xOps.A (List.length x.xOps.ls) x.xOps.c, .slice x.xFrom.A (List.length x.xFrom.ls) x.xFrom.c]

theorem PartD.len : ∀ x, (PartD.cells x).length = 3 := fun _ => rfl

theorem PartD.one : ∀ x, ∀ u ∈ PartD.cells x, u.oneCell' = true := fun x u hu => by
  simp only [PartD.cells, List.mem_cons, List.not_mem_nil, or_false] at hu
  rcases hu with rfl | rfl | rfl <;> rfl

def PartD.Ok (w : World) (x : PartD) : Prop := ((-9223372036854775808) ≤ x.xShard ∧ x.xShard ≤ 9223372036854775807) ∧ (SvOk w 6 80 OpD.cells (OpD.Ok w) x.xOps) ∧ (SvOk w 1 8 (eI .i64) (fun n => (-9223372036854775808) ≤ n ∧ n ≤ 9223372036854775807) x.xFrom)

set_option maxRecDepth 100000 in
theorem opens_PartD (w : World) : Opens Try.prog w 47 3 PartD.cells (PartD.Ok w) :=
  (opens_struct (sz := 3) Try.underlying47 (by kernel_rfl) (OpensF.cons (i := 0) (off := 0) (s := 1) rfl rfl (opens_int (k := .i64) (lo := -9223372036854775808) (hi := 9223372036854775807) Try.underlying3 (by kernel_rfl) (by decide) (by decide)) (OpensF.cons (i := 1) (off := 1) (s := 1) rfl rfl (opens_slice (bytes := 80) Try.underlying41 (by kernel_rfl) (by kernel_rfl) (by decide) (opens_OpD w)) (OpensF.cons (i := 2) (off := 2) (s := 1) rfl rfl (opens_slice (bytes := 8) Try.underlying45 (by kernel_rfl) (by kernel_rfl) (by decide) (opens_int (k := .i64) (lo := -9223372036854775808) (hi := 9223372036854775807) Try.underlying3 (by kernel_rfl) (by decide) (by decide))) OpensF.nil)))).map (fun p => ⟨p.1, p.2.1, p.2.2.1⟩) PartD.len (fun _ => rfl) fun _ h => ⟨h.1, h.2.1, h.2.2.1⟩

instance : Inhabited PartD := ⟨⟨default, default, default⟩⟩

structure PartT where
  xShard : Int
  xOps : Ll OpD
  xFrom : Ll Int

instance : Inhabited PartT := ⟨⟨default, default, default⟩⟩

def PartD.abs (x : PartD) : PartT := ⟨x.xShard, ⟨x.xOps.ls⟩, ⟨x.xFrom.ls⟩⟩

def PartD.own (x : PartD) : List HP := [row x.xOps.A (List.length x.xOps.ls) x.xOps.c (List.flatMap OpD.cells x.xOps.ls) 74 6, row x.xFrom.A (List.length x.xFrom.ls) x.xFrom.c (List.flatMap (eI .i64) x.xFrom.ls) 3 1]

def math_bits_Mul64 (p1 : Nat) : Nat × Nat :=
  (((0 * (p1 / 4294967296)) + (((0 * (p1 % 4294967296)) + ((1 * (p1 % 4294967296)) / 4294967296)) / 4294967296)) + (((((0 * (p1 % 4294967296)) + ((1 * (p1 % 4294967296)) / 4294967296)) % 4294967296) + (1 * (p1 / 4294967296))) / 4294967296), 1 * p1)

set_option maxRecDepth 100000 in
theorem math_bits_Mul64_ok (w : World) (D : Nat → Prop) (p0 : Int) (p1 : Nat) (r0 : Nat) (r1 : Nat) (H : Own w D w []) (hp0 : p0 = 1) (hh0 : p1 ≤ 9223372036854775807) (hr : math_bits_Mul64 p1 = (r0, r1)) :
    Calls Try.prog 87 #[.int .u64 p0, .int .u64 ((p1 : Nat) : Int)] w (Ret fun v w' => v = .tuple #[.int .u64 ((r0 : Nat) : Int), .int .u64 ((r1 : Nat) : Int)] ∧ Own w D w' [] ∧ (r0 = 0 ∧ r1 = p1)) := by
  subst hp0
  refine Calls.body (args := [.int .u64 1, .int .u64 ((p1 : Nat) : Int)]) Try.func87 rfl rfl rfl ?_
  show Wp _ _ _ [(0, .int .u64 1), (1, .int .u64 ((p1 : Nat) : Int))] _ _
  refine Wp.seq (Wp.region (As rfl rfl (As rfl rfl (WL.nil (Fin.then (Wp.seq (Wp.region (Mv rfl rfl (Kn (v := .int .u64 1) rfl rfl rfl (fun _ => by kernel_rfl) (As rfl rfl (WL.nil (Fin.then (Wp.seq (Wp.region (Mv rfl rfl (Kn (v := .int .u64 0) rfl rfl rfl (fun _ => by kernel_rfl) (As rfl rfl (WL.nil (Fin.then (Wp.seq (Wp.region (Mv rfl rfl (WL.val (v := .int .u64 ((p1 % 4294967296 : Nat) : Int)) rfl (Yl.int (e := IntKind.u64.wrap (((BitVec.ofInt 64 ((p1 : Nat) : Int) &&& BitVec.ofInt 64 4294967295).toNat : Nat) : Int)) (Yl.kern rfl rfl (fun _ => by kernel_rfl)) (and_mask _ 32 (by decide) _ (by decide))) (As rfl rfl (WL.nil (Fin.then (Wp.seq (Wp.region (Mv rfl rfl (WL.val (v := .int .u64 ((p1 / 4294967296 : Nat) : Int)) rfl (Yl.int (e := Int.fdiv ((p1 : Nat) : Int) 4294967296) (Yl.kern rfl rfl (fun _ => by kernel_rfl)) (shr_nat _ 32 _ (by decide))) (As rfl rfl (WL.nil (Fin.then (Wp.seq (Wp.region (Mv rfl rfl (Mv rfl rfl (WL.val (v := .int .u64 ((1 * (p1 % 4294967296) : Nat) : Int)) rfl (Yl.int (e := IntKind.u64.wrap (1 * ((p1 % 4294967296 : Nat) : Int))) (Yl.kern rfl rfl (fun _ => by kernel_rfl)) (by rw [IntWalk.u64_in _ (by omega)]; omega)) (As rfl rfl ?_)))))))))))))))))))))))))))))))))))))))
  refine WL.nil (Fin.then (Wp.seq (Wp.region (Mv rfl rfl (Mv rfl rfl (WL.val (v := .int .u64 ((0 * (p1 % 4294967296) : Nat) : Int)) rfl (Yl.int (e := IntKind.u64.wrap (0 * ((p1 % 4294967296 : Nat) : Int))) (Yl.kern rfl rfl (fun _ => by kernel_rfl)) (by rw [IntWalk.u64_in _ (by omega)]; omega)) (Mv rfl rfl (WL.val (v := .int .u64 (((1 * (p1 % 4294967296)) / 4294967296 : Nat) : Int)) rfl (Yl.int (e := Int.fdiv ((1 * (p1 % 4294967296) : Nat) : Int) 4294967296) (Yl.kern rfl rfl (fun _ => by kernel_rfl)) (shr_nat _ 32 _ (by decide))) (WL.val (v := .int .u64 (((0 * (p1 % 4294967296)) + ((1 * (p1 % 4294967296)) / 4294967296) : Nat) : Int)) rfl (Yl.int (e := IntKind.u64.wrap (((0 * (p1 % 4294967296) : Nat) : Int) + (((1 * (p1 % 4294967296)) / 4294967296 : Nat) : Int))) (Yl.kern rfl rfl (fun _ => by kernel_rfl)) (by rw [IntWalk.u64_in _ (by omega)]; omega)) (As rfl rfl (WL.nil (Fin.then (Wp.seq (Wp.region (Mv rfl rfl (WL.val (v := .int .u64 ((((0 * (p1 % 4294967296)) + ((1 * (p1 % 4294967296)) / 4294967296)) % 4294967296 : Nat) : Int)) rfl (Yl.int (e := IntKind.u64.wrap (((BitVec.ofInt 64 (((0 * (p1 % 4294967296)) + ((1 * (p1 % 4294967296)) / 4294967296) : Nat) : Int) &&& BitVec.ofInt 64 4294967295).toNat : Nat) : Int)) (Yl.kern rfl rfl (fun _ => by kernel_rfl)) (and_mask _ 32 (by decide) _ (by decide))) (As rfl rfl (WL.nil (Fin.then (Wp.seq (Wp.region (Mv rfl rfl (WL.val (v := .int .u64 ((((0 * (p1 % 4294967296)) + ((1 * (p1 % 4294967296)) / 4294967296)) / 4294967296 : Nat) : Int)) rfl (Yl.int (e := Int.fdiv (((0 * (p1 % 4294967296)) + ((1 * (p1 % 4294967296)) / 4294967296) : Nat) : Int) 4294967296) (Yl.kern rfl rfl (fun _ => by kernel_rfl)) (shr_nat _ 32 _ (by decide))) (As rfl rfl (WL.nil (Fin.then (Wp.seq (Wp.region (Mv rfl rfl (Mv rfl rfl (Mv rfl rfl (WL.val (v := .int .u64 ((1 * (p1 / 4294967296) : Nat) : Int)) rfl (Yl.int (e := IntKind.u64.wrap (1 * ((p1 / 4294967296 : Nat) : Int))) (Yl.kern rfl rfl (fun _ => by kernel_rfl)) (by rw [IntWalk.u64_in _ (by omega)]; omega)) (WL.val (v := .int .u64 (((((0 * (p1 % 4294967296)) + ((1 * (p1 % 4294967296)) / 4294967296)) % 4294967296) + (1 * (p1 / 4294967296)) : Nat) : Int)) rfl (Yl.int (e := IntKind.u64.wrap (((((0 * (p1 % 4294967296)) + ((1 * (p1 % 4294967296)) / 4294967296)) % 4294967296 : Nat) : Int) + ((1 * (p1 / 4294967296) : Nat) : Int))) (Yl.kern rfl rfl (fun _ => by kernel_rfl)) (by rw [IntWalk.u64_in _ (by omega)]; omega)) (As rfl rfl (WL.nil (Fin.then (Wp.seq (Wp.region (Mv rfl rfl ?_)))))))))))))))))))))))))))))))))))))))
  refine Mv rfl rfl (WL.val (v := .int .u64 ((0 * (p1 / 4294967296) : Nat) : Int)) rfl (Yl.int (e := IntKind.u64.wrap (0 * ((p1 / 4294967296 : Nat) : Int))) (Yl.kern rfl rfl (fun _ => by kernel_rfl)) (by rw [IntWalk.u64_in _ (by omega)]; omega)) (Mv rfl rfl (WL.val (v := .int .u64 (((0 * (p1 / 4294967296)) + (((0 * (p1 % 4294967296)) + ((1 * (p1 % 4294967296)) / 4294967296)) / 4294967296) : Nat) : Int)) rfl (Yl.int (e := IntKind.u64.wrap (((0 * (p1 / 4294967296) : Nat) : Int) + ((((0 * (p1 % 4294967296)) + ((1 * (p1 % 4294967296)) / 4294967296)) / 4294967296 : Nat) : Int))) (Yl.kern rfl rfl (fun _ => by kernel_rfl)) (by rw [IntWalk.u64_in _ (by omega)]; omega)) (Mv rfl rfl (WL.val (v := .int .u64 ((((((0 * (p1 % 4294967296)) + ((1 * (p1 % 4294967296)) / 4294967296)) % 4294967296) + (1 * (p1 / 4294967296))) / 4294967296 : Nat) : Int)) rfl (Yl.int (e := Int.fdiv (((((0 * (p1 % 4294967296)) + ((1 * (p1 % 4294967296)) / 4294967296)) % 4294967296) + (1 * (p1 / 4294967296)) : Nat) : Int) 4294967296) (Yl.kern rfl rfl (fun _ => by kernel_rfl)) (shr_nat _ 32 _ (by decide))) (WL.val (v := .int .u64 ((((0 * (p1 / 4294967296)) + (((0 * (p1 % 4294967296)) + ((1 * (p1 % 4294967296)) / 4294967296)) / 4294967296)) + (((((0 * (p1 % 4294967296)) + ((1 * (p1 % 4294967296)) / 4294967296)) % 4294967296) + (1 * (p1 / 4294967296))) / 4294967296) : Nat) : Int)) rfl (Yl.int (e := IntKind.u64.wrap ((((0 * (p1 / 4294967296)) + (((0 * (p1 % 4294967296)) + ((1 * (p1 % 4294967296)) / 4294967296)) / 4294967296) : Nat) : Int) + ((((((0 * (p1 % 4294967296)) + ((1 * (p1 % 4294967296)) / 4294967296)) % 4294967296) + (1 * (p1 / 4294967296))) / 4294967296 : Nat) : Int))) (Yl.kern rfl rfl (fun _ => by kernel_rfl)) (by rw [IntWalk.u64_in _ (by omega)]; omega)) (As rfl rfl (WL.nil (Fin.then (Wp.seq (Wp.region (Mv rfl rfl (Mv rfl rfl (WL.val (v := .int .u64 ((1 * p1 : Nat) : Int)) rfl (Yl.int (e := IntKind.u64.wrap (1 * ((p1 : Nat) : Int))) (Yl.kern rfl rfl (fun _ => by kernel_rfl)) (by rw [IntWalk.u64_in _ (by omega)]; omega)) (As rfl rfl (WL.nil (Fin.then (Wp.ret (Fin.res (res2 rfl rfl rfl) ?_)))))))))))))))))))
  have H21 : Own w D w [] := H.pick [] (by decide) rfl
  have e : math_bits_Mul64 p1 = (((0 * (p1 / 4294967296)) + (((0 * (p1 % 4294967296)) + ((1 * (p1 % 4294967296)) / 4294967296)) / 4294967296)) + (((((0 * (p1 % 4294967296)) + ((1 * (p1 % 4294967296)) / 4294967296)) % 4294967296) + (1 * (p1 / 4294967296))) / 4294967296), 1 * p1) := rfl
  obtain ⟨rfl, rfl⟩ := pj2 (e.symm.trans hr)
  exact ⟨rfl, H21, (by omega)⟩

def math_bits_Mul (p1 : Nat) : Nat × Nat :=
  bnd (math_bits_Mul64 p1) fun yr26 => (yr26.1, yr26.2)

set_option maxRecDepth 100000 in
theorem math_bits_Mul_ok (w : World) (D : Nat → Prop) (p0 : Int) (p1 : Nat) (r0 : Nat) (r1 : Nat) (H : Own w D w []) (hp0 : p0 = 1) (hh0 : p1 ≤ 9223372036854775807) (hr : math_bits_Mul p1 = (r0, r1)) :
    Calls Try.prog 64 #[.int .u64 p0, .int .u64 ((p1 : Nat) : Int)] w (Ret fun v w' => v = .tuple #[.int .u64 ((r0 : Nat) : Int), .int .u64 ((r1 : Nat) : Int)] ∧ Own w D w' [] ∧ (r0 = 0 ∧ r1 = p1)) := by
  subst hp0
  refine Calls.body (args := [.int .u64 1, .int .u64 ((p1 : Nat) : Int)]) Try.func64 rfl rfl rfl ?_
  show Wp _ _ _ [(0, .int .u64 1), (1, .int .u64 ((p1 : Nat) : Int))] _ _
  refine Wp.seq (Wp.region (As rfl rfl (As rfl rfl (WL.nil (Fin.then (Wp.seq (Wp.cond0 rfl rfl (Wp.skip (Fin.then (Wp.seq (Wp.region (Mv rfl rfl (Mv rfl rfl ?_)))))))))))))
  obtain ⟨⟨r26, r27⟩, hr28⟩ : ∃ q : Nat × Nat, math_bits_Mul64 p1 = q := ⟨_, rfl⟩
  obtain ⟨D21, HP22, ro23, bk24, rr25⟩ := Own.enter0 H
  refine WL.do rfl (Do.call Try.call87 rfl (math_bits_Mul64_ok _ _ 1 p1 r26 r27 HP22 rfl (by omega) hr28) ?_)
  rintro _ w29 ⟨rfl, HQ30, hk32⟩
  have H31 : Own w D w29 [] := bk24 _ _ HQ30
  replace hk32 : r26 = 0 ∧ r27 = p1 := hk32
  refine Mv rfl rfl (Kn (v := .int .u64 ((r26 : Nat) : Int)) rfl rfl rfl (fun _ => by kernel_rfl) (Kn (v := .int .u64 ((r27 : Nat) : Int)) rfl rfl rfl (fun _ => by kernel_rfl) (As rfl rfl (As rfl rfl (WL.nil (Fin.then (Wp.seq (Wp.region (Mv rfl rfl (Mv rfl rfl (As rfl rfl (As rfl rfl (WL.nil (Fin.then (Wp.ret (Fin.res (res2 rfl rfl rfl) ?_))))))))))))))))
  have H33 : Own w D w29 [] := H31.pick [] (by decide) rfl
  have e : math_bits_Mul p1 = (r26, r27) := bnd_of hr28
  obtain ⟨rfl, rfl⟩ := pj2 (e.symm.trans hr)
  exact ⟨rfl, H33, (by omega)⟩

def slices_Repeat_int_int_L0 (r28 : Nat) : Nat → Nat → List Int → (List Int)
  | 0, k42, l43 => default
  | q44 + 1, k42, l43 => if ((k42 : Nat) : Int) < ((r28 : Nat) : Int) then slices_Repeat_int_int_L0 r28 q44 (k42 + (min k42 (r28 - k42))) (List.take k42 l43 ++ (List.take (min k42 (r28 - k42)) (List.take k42 l43) ++ List.drop (k42 + (min k42 (r28 - k42))) l43)) else l43

def slices_Repeat_int_int (l0 : List Int) (p1 : Int) : (List Int) :=
  bnd (math_bits_Mul (Int.toNat p1)) fun yr27 => bnd (slices_Repeat_int_int_L0 yr27.2 ((Int.toNat p1 - (min (List.length l0) yr27.2)) + 1) (min (List.length l0) yr27.2) (List.take 0 (List.replicate yr27.2 (0 : Int)) ++ (List.take (min (List.length l0) yr27.2) l0 ++ List.drop (0 + (min (List.length l0) yr27.2)) (List.replicate yr27.2 (0 : Int))))) fun sLrbL => sLrbL

set_option maxRecDepth 100000 in
theorem slices_Repeat_int_int_ok (w : World) (D : Nat → Prop) (A0 : Option Addr) (n0 c0 : Nat) (l0 : List Int) (p1 : Int) (r0 : List Int) (H : Own w D w []) (hx0 : Ro w D fun w' => Rds w' 1 A0 n0 (List.flatMap (eI .i64) l0)) (hn0 : n0 = List.length l0) (hl0 : List.length l0 * 8 ≤ 211106232532992) (hh0 : List.length l0 = 1 ∧ 0 ≤ p1 ∧ p1 * 8 ≤ 140737488351232) (hr : slices_Repeat_int_int l0 p1 = r0) :
    Calls Try.prog 50 #[.slice A0 n0 c0, .int .i64 p1] w (Ret fun v w' => ∃ (B0 : Option Addr) (b0 : Nat), v = .slice B0 (List.length r0) b0 ∧ Own w D w' [row B0 (List.length r0) b0 (List.flatMap (eI .i64) r0) 3 1] ∧ (((List.length r0 : Nat) : Int) = p1)) := by
  subst hn0
  refine Calls.body (args := [.slice A0 (List.length l0) c0, .int .i64 p1]) Try.func50 rfl rfl rfl ?_
  show Wp _ _ _ [(0, .slice A0 (List.length l0) c0), (1, .int .i64 p1)] _ _
  refine Wp.seq (Wp.region (As rfl rfl (WL.nil (Fin.then (Wp.seq (Wp.seq (Wp.region (Mv rfl rfl (Kn (v := .bool (decide (p1 < 0))) rfl rfl rfl (fun _ => by kernel_rfl) (WL.nil (Fin.then ?_)))))))))))
  have hb21 : (decide (p1 < 0)) = false := (decide_eq_false (by omega))
  refine Wp.cond0 rfl hb21 (Wp.skip (Fin.then (Wp.seq (Wp.region (Mv rfl rfl (Kn (v := .int .i64 ((List.length l0 : Nat) : Int)) rfl rfl rfl (fun _ => by kernel_rfl) (WL.val (v := .int .u64 ((List.length l0 : Nat) : Int)) rfl (Yl.int (e := IntKind.u64.wrap ((List.length l0 : Nat) : Int)) (Yl.kern rfl rfl (fun _ => by kernel_rfl)) (IntWalk.u64_in _ (by omega))) (WL.val (v := .int .i64 ((Int.toNat p1 : Nat) : Int)) rfl (Yl.int (e := p1) (Yl.move rfl) (by omega)) (WL.val (v := .int .u64 ((Int.toNat p1 : Nat) : Int)) rfl (Yl.int (e := IntKind.u64.wrap ((Int.toNat p1 : Nat) : Int)) (Yl.kern rfl rfl (fun _ => by kernel_rfl)) (IntWalk.u64_in _ (by omega))) ?_)))))))))
  obtain ⟨⟨r27, r28⟩, hr29⟩ : ∃ q : Nat × Nat, math_bits_Mul (Int.toNat p1) = q := ⟨_, rfl⟩
  obtain ⟨D22, HP23, ro24, bk25, rr26⟩ := Own.enter0 H
  refine WL.do rfl (Do.call Try.call64 rfl (math_bits_Mul_ok _ _ ((List.length l0 : Nat) : Int) (Int.toNat p1) r27 r28 HP23 (by omega) (by omega) hr29) ?_)
  rintro _ w30 ⟨rfl, HQ31, hk33⟩
  have H32 : Own w D w30 [] := bk25 _ _ HQ31
  replace hk33 : r27 = 0 ∧ r28 = (Int.toNat p1) := hk33
  refine Mv rfl rfl (Kn (v := .int .u64 ((r27 : Nat) : Int)) rfl rfl rfl (fun _ => by kernel_rfl) (Kn (v := .int .u64 ((r28 : Nat) : Int)) rfl rfl rfl (fun _ => by kernel_rfl) (As rfl rfl (As rfl rfl (WL.nil (Fin.then (Wp.seq (Wp.seq (Wp.region (Mv rfl rfl (Kn (v := .bool (decide (((r27 : Nat) : Int) > 0))) rfl rfl rfl (fun _ => by kernel_rfl) (Mv rfl rfl ?_))))))))))))
  have hb34 : (decide (((r27 : Nat) : Int) > 0)) = false := (decide_eq_false (by omega))
  refine WL.valG (v := .int .u64 ((r28 : Nat) : Int)) rfl rfl hb34 rfl (Yl.move rfl) (WL.valG (v := .bool (decide (((r28 : Nat) : Int) > 9223372036854775807))) rfl rfl hb34 rfl (Yl.kern rfl rfl (fun _ => by kernel_rfl)) (WL.val (v := .bool (decide (((r28 : Nat) : Int) > 9223372036854775807))) rfl (Yl.pickF rfl hb34 rfl) (WL.nil (Fin.then ?_))))
  have hb35 : (decide (((r28 : Nat) : Int) > 9223372036854775807)) = false := (decide_eq_false (by omega))
  refine Wp.cond0 rfl hb35 (Wp.skip (Fin.then (Wp.seq (Wp.region (Mv rfl rfl (WL.val (v := .int .i64 ((r28 : Nat) : Int)) rfl (Yl.int (e := IntKind.i64.wrap ((r28 : Nat) : Int)) (Yl.kern rfl rfl (fun _ => by kernel_rfl)) (IntWalk.i64_in _ (by omega))) ?_))))))
  refine WL.do rfl (Do.makeE (x0 := (0 : Int)) (z := .int .i64 0) (k := r28) (size := 1) (bytes := 8) eI_len (by decide) rfl Try.underlying45 (by kernel_rfl) H32 rfl rfl (by omega) (by unfold maxLen; omega) ?_)
  intro A36 w37 H38
  replace H38 : Own w D w37 [row A36 r28 r28 (List.flatMap (eI .i64) (List.replicate r28 (0 : Int))) 3 1] := H38
  refine As rfl rfl (WL.nil (Fin.then (Wp.seq (Wp.region (Mv rfl rfl (Mv rfl rfl ?_))))))
  refine WL.do rfl (Do.copy (lo := 0) (k := min (List.length l0) r28) (El45) H38 rfl (fun hp => by rw [Nat.zero_mul, Nat.add_zero]; exact (H38.rds (i := 0) rfl).isSome (by omega)) (by omega) rfl (H38.ro hx0) (flat_one eI_one l0) (by omega) (flat_put eI_len _ _ _ _ (by first | omega | (simp; done) | (simp; omega))) ?_)
  intro w39 H40
  replace H40 : Own w D w39 [row A36 r28 r28 (List.flatMap (eI .i64) (List.take 0 (List.replicate r28 (0 : Int)) ++ (List.take (min (List.length l0) r28) l0 ++ List.drop (0 + (min (List.length l0) r28)) (List.replicate r28 (0 : Int))))) 3 1] := H40
  have hl41 : List.length (List.take 0 (List.replicate r28 (0 : Int)) ++ (List.take (min (List.length l0) r28) l0 ++ List.drop (0 + (min (List.length l0) r28)) (List.replicate r28 (0 : Int)))) = r28 := by simp only [List.length_append, List.length_take, List.length_drop, List.length_replicate]; omega
  refine As rfl rfl (WL.nil (Fin.then (Wp.seq (Wp.block ?_))))
  have H46 : Own w D w39 [row A36 r28 r28 (List.flatMap (eI .i64) (List.take 0 (List.replicate r28 (0 : Int)) ++ (List.take (min (List.length l0) r28) l0 ++ List.drop (0 + (min (List.length l0) r28)) (List.replicate r28 (0 : Int))))) 3 1] := H40.pick [0] (by decide) rfl
  refine Wp.loop (ι := Nat × (List Int) × Nat) (fun i => [(8, .int .i64 ((i.1 : Nat) : Int)), (7, .slice A36 r28 r28), (4, .slice none 0 0)]) (fun (i : Nat × (List Int) × Nat) w' => Own w D w' [row A36 r28 r28 (List.flatMap (eI .i64) i.2.1) 3 1] ∧ (List.length i.2.1 = r28 ∧ ((i.1 : Nat) : Int) ≤ p1 ∧ (1 ≤ i.1 ∨ p1 = 0) ∧ Int.toNat p1 - i.1 < i.2.2 ∧ slices_Repeat_int_int_L0 r28 ((Int.toNat p1 - (min (List.length l0) r28)) + 1) (min (List.length l0) r28) (List.take 0 (List.replicate r28 (0 : Int)) ++ (List.take (min (List.length l0) r28) l0 ++ List.drop (0 + (min (List.length l0) r28)) (List.replicate r28 (0 : Int)))) = slices_Repeat_int_int_L0 r28 i.2.2 i.1 i.2.1)) (fun i => i.2.2) (min (List.length l0) r28, (List.take 0 (List.replicate r28 (0 : Int)) ++ (List.take (min (List.length l0) r28) l0 ++ List.drop (0 + (min (List.length l0) r28)) (List.replicate r28 (0 : Int)))), (Int.toNat p1 - (min (List.length l0) r28)) + 1) ⟨rfl, rfl, rfl, trivial⟩ ⟨H46, (show List.length (List.take 0 (List.replicate r28 (0 : Int)) ++ (List.take (min (List.length l0) r28) l0 ++ List.drop (0 + (min (List.length l0) r28)) (List.replicate r28 (0 : Int)))) = r28 ∧ (((min (List.length l0) r28) : Nat) : Int) ≤ p1 ∧ (1 ≤ (min (List.length l0) r28) ∨ p1 = 0) ∧ Int.toNat p1 - (min (List.length l0) r28) < ((Int.toNat p1 - (min (List.length l0) r28)) + 1) ∧ slices_Repeat_int_int_L0 r28 ((Int.toNat p1 - (min (List.length l0) r28)) + 1) (min (List.length l0) r28) (List.take 0 (List.replicate r28 (0 : Int)) ++ (List.take (min (List.length l0) r28) l0 ++ List.drop (0 + (min (List.length l0) r28)) (List.replicate r28 (0 : Int)))) = slices_Repeat_int_int_L0 r28 ((Int.toNat p1 - (min (List.length l0) r28)) + 1) (min (List.length l0) r28) (List.take 0 (List.replicate r28 (0 : Int)) ++ (List.take (min (List.length l0) r28) l0 ++ List.drop (0 + (min (List.length l0) r28)) (List.replicate r28 (0 : Int)))) from ⟨by first | omega | (simp only [List.length_set]; omega), by omega, by omega, by omega, rfl⟩)⟩ ?_
  rintro ⟨k42, l43, f45⟩ w47 ⟨H48, hf49⟩
  show Wp _ _ _ [(8, .int .i64 ((k42 : Nat) : Int)), (7, .slice A36 r28 r28), (4, .slice none 0 0)] _ _
  replace H48 : Own w D w47 [row A36 r28 r28 (List.flatMap (eI .i64) l43) 3 1] := H48
  replace hf49 : List.length l43 = r28 ∧ ((k42 : Nat) : Int) ≤ p1 ∧ (1 ≤ k42 ∨ p1 = 0) ∧ Int.toNat p1 - k42 < f45 ∧ slices_Repeat_int_int_L0 r28 ((Int.toNat p1 - (min (List.length l0) r28)) + 1) (min (List.length l0) r28) (List.take 0 (List.replicate r28 (0 : Int)) ++ (List.take (min (List.length l0) r28) l0 ++ List.drop (0 + (min (List.length l0) r28)) (List.replicate r28 (0 : Int)))) = slices_Repeat_int_int_L0 r28 f45 k42 l43 := hf49
  obtain ⟨hi51, hi52, hi53, hi54, hq50⟩ := hf49
  obtain ⟨f55, hf56⟩ : ∃ q, f45 = q + 1 := ⟨f45 - 1, by omega⟩
  subst hf56
  refine Wp.seq (Wp.seq (Wp.region (Mv rfl rfl (Mv rfl rfl (Kn (v := .int .i64 ((r28 : Nat) : Int)) rfl rfl rfl (fun _ => by kernel_rfl) (Kn (v := .bool (decide (((k42 : Nat) : Int) < ((r28 : Nat) : Int)))) rfl rfl rfl (fun _ => by kernel_rfl) (WL.nil (Fin.then ?_))))))))
  by_cases h57 : ((k42 : Nat) : Int) < ((r28 : Nat) : Int)
  refine Wp.cond1 rfl (decide_eq_true h57) (Wp.skip (Fin.then (Wp.block ?_)))
  have H59 := H48.drew
  refine Wp.drawnX [7] (fun W => ∃ L', Own w D W ([row A36 r28 r28 (List.flatMap (eI .i64) l43) 3 1] ++ L')) (by kernel_rfl) (by kernel_rfl) (NoP.block (NoP.then (NoP.block (NoP.then NoP.base)))) ⟨_, H59⟩ ?_
  revert H59
  generalize World.drew w47 = w58
  intro H59
  replace H59 : Own w D w58 [row A36 r28 r28 (List.flatMap (eI .i64) l43) 3 1] := H59
  refine GX.takeA (v := .int .i64 ((k42 : Nat) : Int)) 0 rfl (by kernel_rfl) (fun _ => Yl.move rfl) (GX.take (v := .slice A36 r28 r28) (rs := [[3]]) 1 rfl (by kernel_rfl) (fun _ _ => Yl.move rfl) (GX.take (v := .int .i64 ((k42 : Nat) : Int)) (rs := [[3]]) 2 rfl (by kernel_rfl) (fun _ _ => Yl.move rfl) (GX.take (v := .slice (cutA A36 k42 1 r28) (r28 - k42) (r28 - k42)) (rs := [[]]) 3 rfl (by kernel_rfl) (fun _ _ => Yl.cutFrom (El45) rfl rfl (by omega)) (GX.take (v := .slice A36 r28 r28) (rs := [[6]]) 4 rfl (by kernel_rfl) (fun _ _ => Yl.move rfl) (GX.take (v := .int .i64 ((k42 : Nat) : Int)) (rs := [[6]]) 5 rfl (by kernel_rfl) (fun _ _ => Yl.move rfl) (GX.take (v := .slice A36 k42 r28) (rs := [[]]) 6 rfl (by kernel_rfl) (fun _ _ => Yl.cutTo (El45) rfl rfl (by omega)) ?_))))))
  refine GX.do 7 rfl (by kernel_rfl) (Do.copy (lo := k42) (k := min k42 (r28 - k42)) (El45) H59 rfl (fun _ => cutA_pos ((H59.rds (i := 0) rfl).addr (i := k42) (by omega)) (by omega)) (by omega) rfl (Rds.toE (hi := k42) eI_len (H59.rds (i := 0) rfl) (by omega)) (flat_one eI_one (List.take k42 l43)) (by omega) (flat_put eI_len _ _ _ _ (by first | omega | (simp; done) | (simp; omega))) ?_)
  intro w60 H61
  replace H61 : Own w D w60 [row A36 r28 r28 (List.flatMap (eI .i64) (List.take k42 l43 ++ (List.take (min k42 (r28 - k42)) (List.take k42 l43) ++ List.drop (k42 + (min k42 (r28 - k42))) l43))) 3 1] := H61
  have hl62 : List.length (List.take k42 l43 ++ (List.take (min k42 (r28 - k42)) (List.take k42 l43) ++ List.drop (k42 + (min k42 (r28 - k42))) l43)) = r28 := by simp only [List.length_append, List.length_take, List.length_drop, List.length_replicate]; omega
  refine ⟨.inl (by kernel_rfl), ?_⟩
  refine GX.takeA (v := .int .i64 ((k42 + (min k42 (r28 - k42)) : Nat) : Int)) 8 rfl (by kernel_rfl) (fun _ => Yl.int (e := IntKind.i64.wrap (((k42 : Nat) : Int) + ((min k42 (r28 - k42) : Nat) : Int))) (Yl.kern rfl rfl (fun _ => by kernel_rfl)) (by rw [IntWalk.i64_in _ (by omega)]; omega)) (GX.takeA (v := .int .i64 ((k42 + (min k42 (r28 - k42)) : Nat) : Int)) 9 rfl (by kernel_rfl) (fun _ => Yl.assign rfl) (GX.done (by kernel_rfl) (Fin.blockN ?_)))
  have H63 : Own w D w60 [row A36 r28 r28 (List.flatMap (eI .i64) (List.take k42 l43 ++ (List.take (min k42 (r28 - k42)) (List.take k42 l43) ++ List.drop (k42 + (min k42 (r28 - k42))) l43))) 3 1] := H61.pick [0] (by decide) rfl
  exact Fin.round (k42 + (min k42 (r28 - k42)), (List.take k42 l43 ++ (List.take (min k42 (r28 - k42)) (List.take k42 l43) ++ List.drop (k42 + (min k42 (r28 - k42))) l43)), f55) ⟨rfl, rfl, rfl, trivial⟩ ⟨H63, (show List.length (List.take k42 l43 ++ (List.take (min k42 (r28 - k42)) (List.take k42 l43) ++ List.drop (k42 + (min k42 (r28 - k42))) l43)) = r28 ∧ (((k42 + (min k42 (r28 - k42))) : Nat) : Int) ≤ p1 ∧ (1 ≤ (k42 + (min k42 (r28 - k42))) ∨ p1 = 0) ∧ Int.toNat p1 - (k42 + (min k42 (r28 - k42))) < f55 ∧ slices_Repeat_int_int_L0 r28 ((Int.toNat p1 - (min (List.length l0) r28)) + 1) (min (List.length l0) r28) (List.take 0 (List.replicate r28 (0 : Int)) ++ (List.take (min (List.length l0) r28) l0 ++ List.drop (0 + (min (List.length l0) r28)) (List.replicate r28 (0 : Int)))) = slices_Repeat_int_int_L0 r28 f55 (k42 + (min k42 (r28 - k42))) (List.take k42 l43 ++ (List.take (min k42 (r28 - k42)) (List.take k42 l43) ++ List.drop (k42 + (min k42 (r28 - k42))) l43)) from ⟨by first | omega | (simp only [List.length_set]; omega), by omega, by omega, by omega, Eq.trans (hq50) (if_pos h57)⟩)⟩ (by show f55 < f55 + 1; omega)
  refine Wp.cond0 rfl (decide_eq_false h57) (Wp.exit (Fin.thenX ?_))
  have hL64 : slices_Repeat_int_int_L0 r28 ((Int.toNat p1 - (min (List.length l0) r28)) + 1) (min (List.length l0) r28) (List.take 0 (List.replicate r28 (0 : Int)) ++ (List.take (min (List.length l0) r28) l0 ++ List.drop (0 + (min (List.length l0) r28)) (List.replicate r28 (0 : Int)))) = l43 := Eq.trans (hq50) (if_neg h57)
  refine Fin.thenX (Fin.blockX (Fin.then (Wp.seq (Wp.region (Mv rfl rfl (As rfl rfl (WL.nil (Fin.then (Wp.ret (Fin.res (res1 rfl rfl) ?_))))))))))
  have hn65 : r28 = List.length l43 := by first | omega | (simp only [List.length_set]; done) | (simp only [List.length_set, List.length_append, List.length_cons, List.length_nil, List.length_take, List.length_drop, List.length_replicate]; omega)
  have H66 : Own w D w47 [row A36 (List.length l43) r28 (List.flatMap (eI .i64) l43) 3 1] := by rw [← hn65]; exact H48
  have H67 : Own w D w47 [row A36 (List.length l43) r28 (List.flatMap (eI .i64) l43) 3 1] := H66.pick [0] (by decide) rfl
  have e : slices_Repeat_int_int l0 p1 = l43 := Eq.trans (bnd_of hr29) (bnd_of hL64)
  obtain rfl := e.symm.trans hr
  exact ⟨A36, r28, (by first | rfl | (rw [← hn65]; done) | (rw [← hn65]; rfl)), H67, (by omega)⟩

def owner_Cut_L1 (l0 : List OwnerD) (l49 : List PartT) (k51 : Nat) : List OpD → Nat → List OpD → List Int → (List OpD) × (List Int)
  | [], k70, l73, l76 => (l73, l76)
  | x87 :: q77, k70, l73, l76 => bnd (owner_cutOp l0 ((k51 : Nat) : Int) x87) fun yr95 => bnd (slices_Repeat_int_int ([((k70 : Nat) : Int)]) ((List.length yr95 : Nat) : Int)) fun yr124 => owner_Cut_L1 l0 l49 k51 q77 (k70 + 1) (l73 ++ yr95) (l76 ++ yr124)

def owner_Cut_L0 (l0 : List OwnerD) (l1 : List OpD) : Nat → List PartT → Nat → (List PartT)
  | 0, l49, k51 => l49
  | q52 + 1, l49, k51 => bnd (owner_Cut_L1 l0 l49 k51 l1 0 ([]) ([])) fun sLrbtbtLsL => if ((List.length sLrbtbtLsL.1 : Nat) : Int) > 0 then owner_Cut_L0 l0 l1 q52 (l49 ++ [(PartT.mk ((k51 : Nat) : Int) (Ll.mk sLrbtbtLsL.1) (Ll.mk sLrbtbtLsL.2))]) (k51 + 1) else owner_Cut_L0 l0 l1 q52 l49 (k51 + 1)

def owner_Cut (l0 : List OwnerD) (l1 : List OpD) : (List PartT) × Int :=
  bnd (owner_Check l0) fun yr26 => if yr26 = 0 then bnd (op_Check l1) fun yr38 => if yr38 = 0 then bnd (owner_Cut_L0 l0 l1 5 ([]) 0) fun sLrbtbtL => (sLrbtbtL, 0) else ([], yr38) else ([], yr26)

set_option maxRecDepth 100000 in
theorem owner_Cut_ok (w : World) (D : Nat → Prop) (A0 : Option Addr) (n0 c0 : Nat) (l0 : List OwnerD) (A1 : Option Addr) (n1 c1 : Nat) (l1 : List OpD) (r0 : List PartT) (r1 : Int) (H : Own w D w []) (hx0 : Ro w D fun w' => Rds w' 2 A0 n0 (List.flatMap OwnerD.cells l0)) (hn0 : n0 = List.length l0) (hl0 : List.length l0 * 24 ≤ 211106232532992) (hx1 : Ro w D fun w' => Rds w' 6 A1 n1 (List.flatMap OpD.cells l1)) (hn1 : n1 = List.length l1) (hl1 : List.length l1 * 80 ≤ 211106232532992) (hr : owner_Cut l0 l1 = (r0, r1)) :
    Calls Try.prog 26 #[.slice A0 n0 c0, .slice A1 n1 c1] w (Ret fun v w' => ∃ (B0 : Option Addr) (b0 : Nat) (e0 : List PartD), v = .tuple #[.slice B0 (List.length r0) b0, .int .i64 r1] ∧ Own w D w' [row B0 (List.length r0) b0 (List.flatMap PartD.cells e0) 47 3, sepL (List.flatMap PartD.own e0)] ∧ (List.map PartD.abs e0 = r0)) := by
  subst hn0 hn1
  refine Calls.body (args := [.slice A0 (List.length l0) c0, .slice A1 (List.length l1) c1]) Try.func26 rfl rfl rfl ?_
  show Wp _ _ _ [(0, .slice A0 (List.length l0) c0), (1, .slice A1 (List.length l1) c1)] _ _
  refine Wp.seq (Wp.region (As rfl rfl (As rfl rfl (WL.nil (Fin.then (Wp.seq (Wp.seq (Wp.region (Mv rfl rfl ?_)))))))))
  obtain ⟨r26, hr27⟩ : ∃ q, owner_Check l0 = q := ⟨_, rfl⟩
  obtain ⟨D21, HP22, ro23, bk24, rr25⟩ := Own.enter0 H
  refine WL.do rfl (Do.call Try.call14 rfl (owner_Check_ok _ _ A0 (List.length l0) c0 l0 r26 HP22 (ro23 _ hx0) rfl (by omega) hr27) ?_)
  rintro _ w28 ⟨rfl, HQ29, hk31⟩
  have H30 : Own w D w28 [] := bk24 _ _ HQ29
  replace hk31 : ¬ (r26 = 0) ∨ (1 ≤ List.length l0 ∧ List.length l0 ≤ 6) := hk31
  refine As rfl rfl (WL.nil (Fin.then (Wp.seq (Wp.region (Mv rfl rfl (WL.val (v := .bool (decide (¬ (r26 = 0)))) rfl (Yl.bool (e := !(decide (r26 = 0))) (Yl.kern rfl rfl (fun _ => by kernel_rfl)) decide_not.symm) (WL.nil (Fin.then ?_))))))))
  by_cases h32 : r26 = 0
  refine Wp.cond0 rfl (decide_eq_false (not_not_intro h32)) (Wp.skip (Fin.then (Wp.seq (Wp.seq (Wp.region (Mv rfl rfl ?_))))))
  obtain ⟨r38, hr39⟩ : ∃ q, op_Check l1 = q := ⟨_, rfl⟩
  obtain ⟨D33, HP34, ro35, bk36, rr37⟩ := Own.enter0 H30
  refine WL.do rfl (Do.call Try.call48 rfl (op_Check_ok _ _ A1 (List.length l1) c1 l1 r38 HP34 (ro35 _ hx1) rfl (by omega) hr39) ?_)
  rintro _ w40 ⟨rfl, HQ41, hk43⟩
  have H42 : Own w D w40 [] := bk36 _ _ HQ41
  replace hk43 : ¬ (r38 = 0) ∨ (1 ≤ List.length l1 ∧ List.length l1 ≤ 4) := hk43
  refine As rfl rfl (WL.nil (Fin.then (Wp.seq (Wp.region (Mv rfl rfl (WL.val (v := .bool (decide (¬ (r38 = 0)))) rfl (Yl.bool (e := !(decide (r38 = 0))) (Yl.kern rfl rfl (fun _ => by kernel_rfl)) decide_not.symm) (WL.nil (Fin.then ?_))))))))
  by_cases h44 : r38 = 0
  refine Wp.cond0 rfl (decide_eq_false (not_not_intro h44)) (Wp.skip (Fin.then (Wp.seq (Wp.region (As rfl rfl (WL.nil (Fin.then (Wp.seq (Wp.seq (Wp.region (Mv rfl rfl (WL.nil (Fin.then (Wp.block ?_))))))))))))))
  have H45 : Own w D w40 [sepL (List.flatMap PartD.own ([]))] := H42.sepNil
  have H46 : Own w D w40 [row none 0 0 (List.flatMap PartD.cells ([])) 47 3, sepL (List.flatMap PartD.own ([]))] := H45.free (row_nil 47 3)
  have H53 : Own w D w40 [row none 0 0 (List.flatMap PartD.cells ([])) 47 3, sepL (List.flatMap PartD.own ([]))] := H46.pick [0, 1] (by decide) rfl
  refine Wp.loop (ι := (Option Addr) × Nat × (List PartD) × (List PartT) × Nat) (fun i => [(8, .slice i.1 (List.length i.2.2.2.1) i.2.1), (23, .int .i64 ((i.2.2.2.2 : Nat) : Int)), (5, .int .i64 0), (4, .slice none 0 0), (0, .slice A0 (List.length l0) c0), (1, .slice A1 (List.length l1) c1)]) (fun (i : (Option Addr) × Nat × (List PartD) × (List PartT) × Nat) w' => Own w D w' [row i.1 (List.length i.2.2.2.1) i.2.1 (List.flatMap PartD.cells i.2.2.1) 47 3, sepL (List.flatMap PartD.own i.2.2.1)] ∧ (List.map PartD.abs i.2.2.1 = i.2.2.2.1 ∧ i.2.2.2.2 ≤ 5 ∧ List.length i.2.2.2.1 ≤ i.2.2.2.2 ∧ owner_Cut_L0 l0 l1 5 ([]) 0 = owner_Cut_L0 l0 l1 (5 - i.2.2.2.2) i.2.2.2.1 i.2.2.2.2)) (fun i => 5 - i.2.2.2.2) (none, 0, [], [], 0) ⟨rfl, rfl, rfl, rfl, rfl, rfl, trivial⟩ ⟨H53, (show List.map PartD.abs ([]) = ([]) ∧ 0 ≤ 5 ∧ 0 ≤ 0 ∧ owner_Cut_L0 l0 l1 5 ([]) 0 = owner_Cut_L0 l0 l1 (5 - 0) ([]) 0 from ⟨by exact rfl, by omega, by omega, rfl⟩)⟩ ?_
  rintro ⟨A47, c48, d50, l49, k51⟩ w54 ⟨H55, hf56⟩
  show Wp _ _ _ [(8, .slice A47 (List.length l49) c48), (23, .int .i64 ((k51 : Nat) : Int)), (5, .int .i64 0), (4, .slice none 0 0), (0, .slice A0 (List.length l0) c0), (1, .slice A1 (List.length l1) c1)] _ _
  replace H55 : Own w D w54 [row A47 (List.length l49) c48 (List.flatMap PartD.cells d50) 47 3, sepL (List.flatMap PartD.own d50)] := H55
  replace hf56 : List.map PartD.abs d50 = l49 ∧ k51 ≤ 5 ∧ List.length l49 ≤ k51 ∧ owner_Cut_L0 l0 l1 5 ([]) 0 = owner_Cut_L0 l0 l1 (5 - k51) l49 k51 := hf56
  obtain ⟨hi58, hi59, hi60, hq57⟩ := hf56
  have hl61 := abs_len hi58
  refine Wp.seq (Wp.region (Kn (v := .bool (decide (((k51 : Nat) : Int) < 5))) rfl rfl rfl (fun _ => by kernel_rfl) (WL.nil (Fin.then (Wp.seq ?_)))))
  by_cases h62 : ((k51 : Nat) : Int) < 5
  refine Wp.cond1 rfl (decide_eq_true h62) (Wp.skip (Fin.then (Wp.seq (Wp.block (Wp.seq (Wp.region (Mv rfl rfl (As rfl rfl (WL.nil (Fin.then (Wp.seq (Wp.region (Mv rfl rfl (Kn (v := .agg #[.int .i64 ((k51 : Nat) : Int), .slice none 0 0, .slice none 0 0]) rfl rfl rfl (fun _ => by kernel_rfl) ?_))))))))))))))
  refine WL.do rfl (Do.newP (cs := [.int .i64 0, .slice none 0 0, .slice none 0 0]) (t := 47) H55 rfl rfl (fun _ => by kernel_rfl) ?_)
  intro g63 w64 H65
  replace H65 : Own w D w64 [blk g63 [.int .i64 0, .slice none 0 0, .slice none 0 0] 47, row A47 (List.length l49) c48 (List.flatMap PartD.cells d50) 47 3, sepL (List.flatMap PartD.own d50)] := H65
  refine WL.do0 (Do.store (vs := [.int .i64 ((k51 : Nat) : Int), .slice none 0 0, .slice none 0 0]) (o := 0) H65 rfl rfl Try.sizeOf47 rfl rfl rfl rfl ?_)
  intro w66 H67
  replace H67 : Own w D w66 [blk g63 [.int .i64 ((k51 : Nat) : Int), .slice none 0 0, .slice none 0 0] 47, row A47 (List.length l49) c48 (List.flatMap PartD.cells d50) 47 3, sepL (List.flatMap PartD.own d50)] := H67
  refine WL.nil (Fin.then (Wp.seq (Wp.seq (Wp.region (Mv rfl rfl (Kn (v := .int .i64 ((List.length l1 : Nat) : Int)) rfl rfl rfl (fun _ => by kernel_rfl) (Mv rfl rfl (WL.nil (Fin.then (Wp.block ?_))))))))))
  have H68 : Own w D w66 [row none 0 0 (List.flatMap OpD.cells ([])) 74 6, blk g63 [.int .i64 ((k51 : Nat) : Int), .slice none 0 0, .slice none 0 0] 47, row A47 (List.length l49) c48 (List.flatMap PartD.cells d50) 47 3, sepL (List.flatMap PartD.own d50)] := H67.free (row_nil 74 6)
  have H69 : Own w D w66 [row none 0 0 (List.flatMap (eI .i64) ([])) 3 1, row none 0 0 (List.flatMap OpD.cells ([])) 74 6, blk g63 [.int .i64 ((k51 : Nat) : Int), .slice none 0 0, .slice none 0 0] 47, row A47 (List.length l49) c48 (List.flatMap PartD.cells d50) 47 3, sepL (List.flatMap PartD.own d50)] := H68.free (row_nil 3 1)
  have H78 : Own w D w66 [blk g63 [.int .i64 ((k51 : Nat) : Int), .slice none 0 0, .slice none 0 0] 47, row A47 (List.length l49) c48 (List.flatMap PartD.cells d50) 47 3, sepL (List.flatMap PartD.own d50), row none 0 0 (List.flatMap OpD.cells ([])) 74 6, row none 0 0 (List.flatMap (eI .i64) ([])) 3 1] := H69.pick [2, 3, 4, 1, 0] (by decide) rfl
  refine Wp.loop (ι := Nat × (Option Addr) × Nat × (List OpD) × (Option Addr) × Nat × (List Int)) (fun i => [(30, .int .i64 ((i.1 : Nat) : Int)), (29, .int .i64 ((List.length l1 : Nat) : Int)), (28, .slice A1 (List.length l1) c1), (10, .pointer (some ⟨g63, 0, none⟩)), (27, .agg #[.int .i64 ((k51 : Nat) : Int), .slice none 0 0, .slice none 0 0]), (26, .int .i64 ((k51 : Nat) : Int)), (9, .int .i64 ((k51 : Nat) : Int)), (25, .int .i64 ((k51 : Nat) : Int)), (24, .bool (decide (((k51 : Nat) : Int) < 5))), (8, .slice A47 (List.length l49) c48), (23, .int .i64 ((k51 : Nat) : Int)), (5, .int .i64 0), (4, .slice none 0 0), (0, .slice A0 (List.length l0) c0), (1, .slice A1 (List.length l1) c1)]) (fun (i : Nat × (Option Addr) × Nat × (List OpD) × (Option Addr) × Nat × (List Int)) w' => Own w D w' [blk g63 [.int .i64 ((k51 : Nat) : Int), .slice i.2.1 (List.length i.2.2.2.1) i.2.2.1, .slice i.2.2.2.2.1 (List.length i.2.2.2.2.2.2) i.2.2.2.2.2.1] 47, row A47 (List.length l49) c48 (List.flatMap PartD.cells d50) 47 3, sepL (List.flatMap PartD.own d50), row i.2.1 (List.length i.2.2.2.1) i.2.2.1 (List.flatMap OpD.cells i.2.2.2.1) 74 6, row i.2.2.2.2.1 (List.length i.2.2.2.2.2.2) i.2.2.2.2.2.1 (List.flatMap (eI .i64) i.2.2.2.2.2.2) 3 1] ∧ (i.1 ≤ List.length l1 ∧ List.length i.2.2.2.1 ≤ 6 * i.1 ∧ List.length i.2.2.2.2.2.2 ≤ 6 * i.1 ∧ owner_Cut_L1 l0 l49 k51 l1 0 ([]) ([]) = owner_Cut_L1 l0 l49 k51 (List.drop i.1 l1) i.1 i.2.2.2.1 i.2.2.2.2.2.2)) (fun i => List.length l1 - i.1) (0, none, 0, [], none, 0, []) ⟨rfl, rfl, rfl, rfl, rfl, rfl, rfl, rfl, rfl, rfl, rfl, rfl, rfl, rfl, rfl, trivial⟩ ⟨H78, (show 0 ≤ List.length l1 ∧ 0 ≤ 6 * 0 ∧ 0 ≤ 6 * 0 ∧ owner_Cut_L1 l0 l49 k51 l1 0 ([]) ([]) = owner_Cut_L1 l0 l49 k51 (List.drop 0 l1) 0 ([]) ([]) from ⟨by omega, by omega, by omega, rfl⟩)⟩ ?_
  rintro ⟨k70, A71, c72, l73, A74, c75, l76⟩ w79 ⟨H80, hf81⟩
  show Wp _ _ _ [(30, .int .i64 ((k70 : Nat) : Int)), (29, .int .i64 ((List.length l1 : Nat) : Int)), (28, .slice A1 (List.length l1) c1), (10, .pointer (some ⟨g63, 0, none⟩)), (27, .agg #[.int .i64 ((k51 : Nat) : Int), .slice none 0 0, .slice none 0 0]), (26, .int .i64 ((k51 : Nat) : Int)), (9, .int .i64 ((k51 : Nat) : Int)), (25, .int .i64 ((k51 : Nat) : Int)), (24, .bool (decide (((k51 : Nat) : Int) < 5))), (8, .slice A47 (List.length l49) c48), (23, .int .i64 ((k51 : Nat) : Int)), (5, .int .i64 0), (4, .slice none 0 0), (0, .slice A0 (List.length l0) c0), (1, .slice A1 (List.length l1) c1)] _ _
  replace H80 : Own w D w79 [blk g63 [.int .i64 ((k51 : Nat) : Int), .slice A71 (List.length l73) c72, .slice A74 (List.length l76) c75] 47, row A47 (List.length l49) c48 (List.flatMap PartD.cells d50) 47 3, sepL (List.flatMap PartD.own d50), row A71 (List.length l73) c72 (List.flatMap OpD.cells l73) 74 6, row A74 (List.length l76) c75 (List.flatMap (eI .i64) l76) 3 1] := H80
  replace hf81 : k70 ≤ List.length l1 ∧ List.length l73 ≤ 6 * k70 ∧ List.length l76 ≤ 6 * k70 ∧ owner_Cut_L1 l0 l49 k51 l1 0 ([]) ([]) = owner_Cut_L1 l0 l49 k51 (List.drop k70 l1) k70 l73 l76 := hf81
  obtain ⟨hi83, hi84, hi85, hq82⟩ := hf81
  refine Wp.seq (Wp.region (Kn (v := .bool (decide (((k70 : Nat) : Int) < ((List.length l1 : Nat) : Int)))) rfl rfl rfl (fun _ => by kernel_rfl) (WL.nil (Fin.then (Wp.seq ?_)))))
  by_cases h86 : ((k70 : Nat) : Int) < ((List.length l1 : Nat) : Int)
  obtain ⟨x87, hx88⟩ := rds_at (ls := l1) (i := k70) OpD.len (by decide) (H80.ro hx1) (by first | omega | (simp; done) | (simp; omega))
  have hd89 := drop_at hx88
  refine Wp.cond1 rfl (decide_eq_true h86) (Wp.skip (Fin.then (Wp.seq (Wp.block (Wp.seq (Wp.region (Mv rfl rfl (As rfl rfl (WL.nil (Fin.then (Wp.seq (Wp.region (Mv rfl rfl (Mv rfl rfl (Mv rfl rfl (Mv rfl rfl (WL.val (v := .pointer (some ⟨ab A1, ao A1 + k70 * 6, none⟩)) rfl (Yl.indexAddr (El41) rfl rfl ((H80.ro hx1).addr (i := k70) (by omega)) (by omega)) (WL.val (v := .agg (OpD.cells x87).toArray) rfl (Yl.load rfl (Lds.agg (cs := (OpD.cells x87)) Try.isAgg74 Try.sizeOf74 ((H80.ro hx1).elem OpD.len hx88 (by decide)))) ?_))))))))))))))))))
  obtain ⟨r95, hr96⟩ : ∃ q, owner_cutOp l0 ((k51 : Nat) : Int) x87 = q := ⟨_, rfl⟩
  obtain ⟨D90, HP91, ro92, bk93, rr94⟩ := Own.enter0 H80
  refine WL.do rfl (Do.call Try.call49 rfl (owner_cutOp_ok _ _ A0 (List.length l0) c0 l0 ((k51 : Nat) : Int) x87 r95 HP91 (ro92 _ hx0) rfl (by omega) (by omega) hr96) ?_)
  rintro _ w97 ⟨A100, c101, rfl, HQ98, hk102⟩
  have H99 : Own w D w97 [row A100 (List.length r95) c101 (List.flatMap OpD.cells r95) 74 6, blk g63 [.int .i64 ((k51 : Nat) : Int), .slice A71 (List.length l73) c72, .slice A74 (List.length l76) c75] 47, row A47 (List.length l49) c48 (List.flatMap PartD.cells d50) 47 3, sepL (List.flatMap PartD.own d50), row A71 (List.length l73) c72 (List.flatMap OpD.cells l73) 74 6, row A74 (List.length l76) c75 (List.flatMap (eI .i64) l76) 3 1] := bk93 _ _ HQ98
  have hb103 := H99.rowC (i := 0) rfl
  replace hk102 : List.length r95 ≤ 6 := hk102
  refine As rfl rfl (WL.nil (Fin.then (Wp.seq (Wp.region (Kn (v := .pointer (some ⟨g63, 1, none⟩)) rfl rfl rfl (fun _ => by kernel_rfl) (WL.val (v := .slice A71 (List.length l73) c72) rfl (Yl.load rfl (Lds.one Try.isAgg41 (Cls.of (H99.cls (i := 1) rfl) rfl))) (Mv rfl rfl ?_)))))))
  have H104 : Own w D w97 [row A71 (List.length l73) c72 (List.flatMap OpD.cells l73) 74 6, row A100 (List.length r95) c101 (List.flatMap OpD.cells r95) 74 6, blk g63 [.int .i64 ((k51 : Nat) : Int), .slice A71 (List.length l73) c72, .slice A74 (List.length l76) c75] 47, row A47 (List.length l49) c48 (List.flatMap PartD.cells d50) 47 3, sepL (List.flatMap PartD.own d50), row A74 (List.length l76) c75 (List.flatMap (eI .i64) l76) 3 1] := H99.pick [4, 0, 1, 2, 3, 5] (by decide) rfl
  refine WL.do rfl (Do.appendW (k := List.length l73) (m := List.length r95) (El41) H104 rfl rfl (src_of Try.underlying41 (H104.rds (i := 1) rfl) (flat_one OpD.one r95)) rfl (by omega) (s := List.length (l73 ++ r95)) (by first | omega | (simp only [List.length_append, List.length_cons, List.length_nil] <;> omega)) (List.flatMap_append).symm ?_)
  intro A105 c106 w107 H108
  replace H108 : Own w D w107 [row A105 (List.length (l73 ++ r95)) c106 (List.flatMap OpD.cells (l73 ++ r95)) 74 6, row A100 (List.length r95) c101 (List.flatMap OpD.cells r95) 74 6, blk g63 [.int .i64 ((k51 : Nat) : Int), .slice A71 (List.length l73) c72, .slice A74 (List.length l76) c75] 47, row A47 (List.length l49) c48 (List.flatMap PartD.cells d50) 47 3, sepL (List.flatMap PartD.own d50), row A74 (List.length l76) c75 (List.flatMap (eI .i64) l76) 3 1] := H108
  have hl109 : List.length (l73 ++ r95) = List.length l73 + (List.length r95) := by simp only [List.length_append, List.length_cons, List.length_nil]
  refine Kn (v := .pointer (some ⟨g63, 1, none⟩)) rfl rfl rfl (fun _ => by kernel_rfl) ?_
  have H110 : Own w D w107 [blk g63 [.int .i64 ((k51 : Nat) : Int), .slice A71 (List.length l73) c72, .slice A74 (List.length l76) c75] 47, row A105 (List.length (l73 ++ r95)) c106 (List.flatMap OpD.cells (l73 ++ r95)) 74 6, row A100 (List.length r95) c101 (List.flatMap OpD.cells r95) 74 6, row A47 (List.length l49) c48 (List.flatMap PartD.cells d50) 47 3, sepL (List.flatMap PartD.own d50), row A74 (List.length l76) c75 (List.flatMap (eI .i64) l76) 3 1] := H108.pick [2, 0, 1, 3, 4, 5] (by decide) rfl
  refine WL.do0 (Do.store (vs := [.slice A105 (List.length (l73 ++ r95)) c106]) (o := 1) H110 rfl rfl Try.sizeOf41 rfl rfl rfl rfl ?_)
  intro w111 H112
  replace H112 : Own w D w111 [blk g63 [.int .i64 ((k51 : Nat) : Int), .slice A105 (List.length (l73 ++ r95)) c106, .slice A74 (List.length l76) c75] 47, row A105 (List.length (l73 ++ r95)) c106 (List.flatMap OpD.cells (l73 ++ r95)) 74 6, row A100 (List.length r95) c101 (List.flatMap OpD.cells r95) 74 6, row A47 (List.length l49) c48 (List.flatMap PartD.cells d50) 47 3, sepL (List.flatMap PartD.own d50), row A74 (List.length l76) c75 (List.flatMap (eI .i64) l76) 3 1] := H112
  refine WL.nil (Fin.then ?_)
  have H114 := H112.drew
  refine Wp.drawnX [7, 9] (fun W => ∃ L', Own w D W ([blk g63 [.int .i64 ((k51 : Nat) : Int), .slice A105 (List.length (l73 ++ r95)) c106, .slice A74 (List.length l76) c75] 47, row A105 (List.length (l73 ++ r95)) c106 (List.flatMap OpD.cells (l73 ++ r95)) 74 6, row A100 (List.length r95) c101 (List.flatMap OpD.cells r95) 74 6, row A47 (List.length l49) c48 (List.flatMap PartD.cells d50) 47 3, sepL (List.flatMap PartD.own d50), row A74 (List.length l76) c75 (List.flatMap (eI .i64) l76) 3 1] ++ L')) (by kernel_rfl) (by kernel_rfl) (NoP.block (NoP.then (NoP.then (NoP.block (NoP.then (NoP.block (NoP.then (NoP.then (NoP.block (NoP.then NoP.base)))))))))) ⟨_, H114⟩ ?_
  revert H114
  generalize World.drew w111 = w113
  intro H114
  replace H114 : Own w D w113 [blk g63 [.int .i64 ((k51 : Nat) : Int), .slice A105 (List.length (l73 ++ r95)) c106, .slice A74 (List.length l76) c75] 47, row A105 (List.length (l73 ++ r95)) c106 (List.flatMap OpD.cells (l73 ++ r95)) 74 6, row A100 (List.length r95) c101 (List.flatMap OpD.cells r95) 74 6, row A47 (List.length l49) c48 (List.flatMap PartD.cells d50) 47 3, sepL (List.flatMap PartD.own d50), row A74 (List.length l76) c75 (List.flatMap (eI .i64) l76) 3 1] := H114
  refine GX.take (v := .pointer (some ⟨g63, 2, none⟩)) (rs := [[1], []]) 0 rfl (by kernel_rfl) (fun _ _ => Yl.kern rfl rfl (fun _ => by kernel_rfl)) (GX.take (v := .slice A74 (List.length l76) c75) (rs := [[], []]) 1 rfl (by kernel_rfl) (fun _ ⟨_, H9⟩ => Yl.load rfl (Lds.one Try.isAgg45 (Cls.of (H9.cls (i := 0) rfl) rfl))) (GX.take (v := .int .i64 ((k70 : Nat) : Int)) (rs := [[6, 3], []]) 2 rfl (by kernel_rfl) (fun _ _ => Yl.move rfl) (GX.take (v := .slice A100 (List.length r95) c101) (rs := [[6, 5], []]) 4 rfl (by kernel_rfl) (fun _ _ => Yl.move rfl) (GX.take (v := .int .i64 ((List.length r95 : Nat) : Int)) (rs := [[6], []]) 5 rfl (by kernel_rfl) (fun _ _ => Yl.kern rfl rfl (fun _ => by kernel_rfl)) ?_))))
  refine GX.do 3 rfl (by kernel_rfl) (Do.newRow (cs := [.int .i64 ((k70 : Nat) : Int)]) (t := 3) (sz := 1) (m := 1) H114 rfl rfl (fun _ => by kernel_rfl) rfl (by decide) ?_)
  intro A115 w116 H117
  replace H117 : Own w D w116 [row A115 1 1 (List.flatMap (eI .i64) ([((k70 : Nat) : Int)])) 3 1, blk g63 [.int .i64 ((k51 : Nat) : Int), .slice A105 (List.length (l73 ++ r95)) c106, .slice A74 (List.length l76) c75] 47, row A105 (List.length (l73 ++ r95)) c106 (List.flatMap OpD.cells (l73 ++ r95)) 74 6, row A100 (List.length r95) c101 (List.flatMap OpD.cells r95) 74 6, row A47 (List.length l49) c48 (List.flatMap PartD.cells d50) 47 3, sepL (List.flatMap PartD.own d50), row A74 (List.length l76) c75 (List.flatMap (eI .i64) l76) 3 1] := H117
  have H118 : Own w D w116 [blk g63 [.int .i64 ((k51 : Nat) : Int), .slice A105 (List.length (l73 ++ r95)) c106, .slice A74 (List.length l76) c75] 47, row A105 (List.length (l73 ++ r95)) c106 (List.flatMap OpD.cells (l73 ++ r95)) 74 6, row A100 (List.length r95) c101 (List.flatMap OpD.cells r95) 74 6, row A47 (List.length l49) c48 (List.flatMap PartD.cells d50) 47 3, sepL (List.flatMap PartD.own d50), row A74 (List.length l76) c75 (List.flatMap (eI .i64) l76) 3 1, row A115 1 1 (List.flatMap (eI .i64) ([((k70 : Nat) : Int)])) 3 1] := H117.pick [1, 2, 3, 4, 5, 6, 0] (by decide) rfl
  refine ⟨.inr ⟨_, H118⟩, ?_⟩
  obtain ⟨r124, hr125⟩ : ∃ q, slices_Repeat_int_int ([((k70 : Nat) : Int)]) ((List.length r95 : Nat) : Int) = q := ⟨_, rfl⟩
  obtain ⟨D119, HP120, ro121, bk122, rr123⟩ := Own.enter0 H118
  refine GX.do 6 rfl (by kernel_rfl) (Do.call Try.call50 rfl (slices_Repeat_int_int_ok _ _ A115 1 1 ([((k70 : Nat) : Int)]) ((List.length r95 : Nat) : Int) r124 HP120 (rr123 _ 6 _ rfl row_rds) rfl (by simp) (by first | omega | exact ⟨rfl, by omega, by omega⟩) hr125) ?_)
  rintro _ w126 ⟨A129, c130, rfl, HQ127, hk131⟩
  have H128 : Own w D w126 [row A129 (List.length r124) c130 (List.flatMap (eI .i64) r124) 3 1, blk g63 [.int .i64 ((k51 : Nat) : Int), .slice A105 (List.length (l73 ++ r95)) c106, .slice A74 (List.length l76) c75] 47, row A105 (List.length (l73 ++ r95)) c106 (List.flatMap OpD.cells (l73 ++ r95)) 74 6, row A100 (List.length r95) c101 (List.flatMap OpD.cells r95) 74 6, row A47 (List.length l49) c48 (List.flatMap PartD.cells d50) 47 3, sepL (List.flatMap PartD.own d50), row A74 (List.length l76) c75 (List.flatMap (eI .i64) l76) 3 1, row A115 1 1 (List.flatMap (eI .i64) ([((k70 : Nat) : Int)])) 3 1] := bk122 _ _ HQ127
  have hb132 := H128.rowC (i := 0) rfl
  replace hk131 : ((List.length r124 : Nat) : Int) = ((List.length r95 : Nat) : Int) := hk131
  have H133 : Own w D w126 [blk g63 [.int .i64 ((k51 : Nat) : Int), .slice A105 (List.length (l73 ++ r95)) c106, .slice A74 (List.length l76) c75] 47, row A105 (List.length (l73 ++ r95)) c106 (List.flatMap OpD.cells (l73 ++ r95)) 74 6, row A100 (List.length r95) c101 (List.flatMap OpD.cells r95) 74 6, row A47 (List.length l49) c48 (List.flatMap PartD.cells d50) 47 3, sepL (List.flatMap PartD.own d50), row A74 (List.length l76) c75 (List.flatMap (eI .i64) l76) 3 1, row A129 (List.length r124) c130 (List.flatMap (eI .i64) r124) 3 1, row A115 1 1 (List.flatMap (eI .i64) ([((k70 : Nat) : Int)])) 3 1] := H128.pick [1, 2, 3, 4, 5, 6, 0, 7] (by decide) rfl
  refine ⟨.inr ⟨_, H133⟩, ?_⟩
  have H134 : Own w D w126 [row A74 (List.length l76) c75 (List.flatMap (eI .i64) l76) 3 1, blk g63 [.int .i64 ((k51 : Nat) : Int), .slice A105 (List.length (l73 ++ r95)) c106, .slice A74 (List.length l76) c75] 47, row A105 (List.length (l73 ++ r95)) c106 (List.flatMap OpD.cells (l73 ++ r95)) 74 6, row A100 (List.length r95) c101 (List.flatMap OpD.cells r95) 74 6, row A47 (List.length l49) c48 (List.flatMap PartD.cells d50) 47 3, sepL (List.flatMap PartD.own d50), row A129 (List.length r124) c130 (List.flatMap (eI .i64) r124) 3 1, row A115 1 1 (List.flatMap (eI .i64) ([((k70 : Nat) : Int)])) 3 1] := H133.pick [5, 0, 1, 2, 3, 4, 6, 7] (by decide) rfl
  refine GX.do 7 rfl (by kernel_rfl) (Do.appendW (k := List.length l76) (m := List.length r124) (El45) H134 rfl rfl (src_of Try.underlying45 (H134.rds (i := 6) rfl) (flat_one eI_one r124)) rfl (by omega) (s := List.length (l76 ++ r124)) (by first | omega | (simp only [List.length_append, List.length_cons, List.length_nil] <;> omega)) (List.flatMap_append).symm ?_)
  intro A135 c136 w137 H138
  replace H138 : Own w D w137 [row A135 (List.length (l76 ++ r124)) c136 (List.flatMap (eI .i64) (l76 ++ r124)) 3 1, blk g63 [.int .i64 ((k51 : Nat) : Int), .slice A105 (List.length (l73 ++ r95)) c106, .slice A74 (List.length l76) c75] 47, row A105 (List.length (l73 ++ r95)) c106 (List.flatMap OpD.cells (l73 ++ r95)) 74 6, row A100 (List.length r95) c101 (List.flatMap OpD.cells r95) 74 6, row A47 (List.length l49) c48 (List.flatMap PartD.cells d50) 47 3, sepL (List.flatMap PartD.own d50), row A129 (List.length r124) c130 (List.flatMap (eI .i64) r124) 3 1, row A115 1 1 (List.flatMap (eI .i64) ([((k70 : Nat) : Int)])) 3 1] := H138
  have hl139 : List.length (l76 ++ r124) = List.length l76 + (List.length r124) := by simp only [List.length_append, List.length_cons, List.length_nil]
  refine ⟨.inl (by kernel_rfl), ?_⟩
  refine GX.takeA (v := .pointer (some ⟨g63, 2, none⟩)) 8 rfl (by kernel_rfl) (fun _ => Yl.kern rfl rfl (fun _ => by kernel_rfl)) ?_
  have H140 : Own w D w137 [blk g63 [.int .i64 ((k51 : Nat) : Int), .slice A105 (List.length (l73 ++ r95)) c106, .slice A74 (List.length l76) c75] 47, row A135 (List.length (l76 ++ r124)) c136 (List.flatMap (eI .i64) (l76 ++ r124)) 3 1, row A105 (List.length (l73 ++ r95)) c106 (List.flatMap OpD.cells (l73 ++ r95)) 74 6, row A100 (List.length r95) c101 (List.flatMap OpD.cells r95) 74 6, row A47 (List.length l49) c48 (List.flatMap PartD.cells d50) 47 3, sepL (List.flatMap PartD.own d50), row A129 (List.length r124) c130 (List.flatMap (eI .i64) r124) 3 1, row A115 1 1 (List.flatMap (eI .i64) ([((k70 : Nat) : Int)])) 3 1] := H138.pick [1, 0, 2, 3, 4, 5, 6, 7] (by decide) rfl
  refine GX.do0 9 rfl (by kernel_rfl) (Do.store (vs := [.slice A135 (List.length (l76 ++ r124)) c136]) (o := 2) H140 rfl rfl Try.sizeOf45 rfl rfl rfl rfl ?_)
  intro w141 H142
  replace H142 : Own w D w141 [blk g63 [.int .i64 ((k51 : Nat) : Int), .slice A105 (List.length (l73 ++ r95)) c106, .slice A135 (List.length (l76 ++ r124)) c136] 47, row A135 (List.length (l76 ++ r124)) c136 (List.flatMap (eI .i64) (l76 ++ r124)) 3 1, row A105 (List.length (l73 ++ r95)) c106 (List.flatMap OpD.cells (l73 ++ r95)) 74 6, row A100 (List.length r95) c101 (List.flatMap OpD.cells r95) 74 6, row A47 (List.length l49) c48 (List.flatMap PartD.cells d50) 47 3, sepL (List.flatMap PartD.own d50), row A129 (List.length r124) c130 (List.flatMap (eI .i64) r124) 3 1, row A115 1 1 (List.flatMap (eI .i64) ([((k70 : Nat) : Int)])) 3 1] := H142
  refine ⟨.inl (by kernel_rfl), ?_⟩
  refine GX.done (by kernel_rfl) (Fin.blockN (Fin.then (Wp.region (WL.val (v := .int .i64 ((k70 + 1 : Nat) : Int)) rfl (Yl.int (e := IntKind.i64.wrap (((k70 : Nat) : Int) + 1)) (Yl.kern rfl rfl (fun _ => by kernel_rfl)) (by rw [IntWalk.i64_in _ (by omega)]; omega)) (Mv rfl rfl (WL.nil ?_))))))
  have H143 : Own w D w141 [blk g63 [.int .i64 ((k51 : Nat) : Int), .slice A105 (List.length (l73 ++ r95)) c106, .slice A135 (List.length (l76 ++ r124)) c136] 47, row A47 (List.length l49) c48 (List.flatMap PartD.cells d50) 47 3, sepL (List.flatMap PartD.own d50), row A105 (List.length (l73 ++ r95)) c106 (List.flatMap OpD.cells (l73 ++ r95)) 74 6, row A135 (List.length (l76 ++ r124)) c136 (List.flatMap (eI .i64) (l76 ++ r124)) 3 1] := H142.pick [0, 4, 5, 2, 1] (by decide) rfl
  exact Fin.round (k70 + 1, A105, c106, (l73 ++ r95), A135, c136, (l76 ++ r124)) ⟨rfl, rfl, rfl, rfl, rfl, rfl, rfl, rfl, rfl, rfl, rfl, rfl, rfl, rfl, rfl, trivial⟩ ⟨H143, (show (k70 + 1) ≤ List.length l1 ∧ List.length (l73 ++ r95) ≤ 6 * (k70 + 1) ∧ List.length (l76 ++ r124) ≤ 6 * (k70 + 1) ∧ owner_Cut_L1 l0 l49 k51 l1 0 ([]) ([]) = owner_Cut_L1 l0 l49 k51 (List.drop (k70 + 1) l1) (k70 + 1) (l73 ++ r95) (l76 ++ r124) from ⟨by omega, by omega, by omega, Eq.trans (hq82) (Eq.trans (congrArg (fun q => owner_Cut_L1 l0 l49 k51 q k70 l73 l76) hd89) (Eq.trans (bnd_of hr96) (bnd_of hr125)))⟩)⟩ (by show List.length l1 - (k70 + 1) < List.length l1 - k70; omega)
  refine Wp.cond0 rfl (decide_eq_false h86) (Wp.exit (Fin.thenX ?_))
  have hL144 : owner_Cut_L1 l0 l49 k51 l1 0 ([]) ([]) = (l73, l76) := Eq.trans (hq82) (Eq.trans (congrArg (fun q => owner_Cut_L1 l0 l49 k51 q k70 l73 l76) (drop_end (ls := l1) (i := k70) (by omega))) rfl)
  refine Fin.thenX (Fin.blockX (Fin.then (Wp.seq (Wp.region (Kn (v := .pointer (some ⟨g63, 1, none⟩)) rfl rfl rfl (fun _ => by kernel_rfl) (WL.val (v := .slice A71 (List.length l73) c72) rfl (Yl.load rfl (Lds.one Try.isAgg41 (Cls.of (H80.cls (i := 0) rfl) rfl))) (Kn (v := .int .i64 ((List.length l73 : Nat) : Int)) rfl rfl rfl (fun _ => by kernel_rfl) (Kn (v := .bool (decide (((List.length l73 : Nat) : Int) > 0))) rfl rfl rfl (fun _ => by kernel_rfl) (WL.nil (Fin.then ?_))))))))))
  by_cases h145 : ((List.length l73 : Nat) : Int) > 0
  refine Wp.cond1 rfl (decide_eq_true h145) (Wp.region (Mv rfl rfl (WL.val (v := .agg #[.int .i64 ((k51 : Nat) : Int), .slice A71 (List.length l73) c72, .slice A74 (List.length l76) c75]) rfl (Yl.load rfl (Lds.agg (cs := [.int .i64 ((k51 : Nat) : Int), .slice A71 (List.length l73) c72, .slice A74 (List.length l76) c75]) Try.isAgg47 Try.sizeOf47 ((H80.cls (i := 0) rfl).lit (k := 0) (m := 3) rfl))) ?_)))
  refine WL.do rfl (Do.newRow (cs := [.int .i64 ((k51 : Nat) : Int), .slice A71 (List.length l73) c72, .slice A74 (List.length l76) c75]) (t := 47) (sz := 3) (m := 1) H80 rfl rfl (fun _ => by kernel_rfl) rfl (by decide) ?_)
  intro A146 w147 H148
  replace H148 : Own w D w147 [row A146 1 1 (List.flatMap PartD.cells ([(PartD.mk ((k51 : Nat) : Int) (Sv.mk A71 c72 l73) (Sv.mk A74 c75 l76))])) 47 3, blk g63 [.int .i64 ((k51 : Nat) : Int), .slice A71 (List.length l73) c72, .slice A74 (List.length l76) c75] 47, row A47 (List.length l49) c48 (List.flatMap PartD.cells d50) 47 3, sepL (List.flatMap PartD.own d50), row A71 (List.length l73) c72 (List.flatMap OpD.cells l73) 74 6, row A74 (List.length l76) c75 (List.flatMap (eI .i64) l76) 3 1] := H148
  have H149 : Own w D w147 [row A47 (List.length l49) c48 (List.flatMap PartD.cells d50) 47 3, sepL (List.flatMap PartD.own d50), row A71 (List.length l73) c72 (List.flatMap OpD.cells l73) 74 6, row A74 (List.length l76) c75 (List.flatMap (eI .i64) l76) 3 1, row A146 1 1 (List.flatMap PartD.cells ([(PartD.mk ((k51 : Nat) : Int) (Sv.mk A71 c72 l73) (Sv.mk A74 c75 l76))])) 47 3, blk g63 [.int .i64 ((k51 : Nat) : Int), .slice A71 (List.length l73) c72, .slice A74 (List.length l76) c75] 47] := H148.pick [2, 3, 4, 5, 0, 1] (by decide) rfl
  refine WL.do rfl (Do.appendW (k := List.length l49) (m := 1) (El42) H149 rfl rfl (src_of Try.underlying42 (H149.rds (i := 4) rfl) (flat_one PartD.one ([(PartD.mk ((k51 : Nat) : Int) (Sv.mk A71 c72 l73) (Sv.mk A74 c75 l76))]))) rfl (by omega) (s := List.length (l49 ++ [(PartT.mk ((k51 : Nat) : Int) (Ll.mk l73) (Ll.mk l76))])) (by first | omega | (simp only [List.length_append, List.length_cons, List.length_nil] <;> omega)) (List.flatMap_append).symm ?_)
  intro A150 c151 w152 H153
  replace H153 : Own w D w152 [row A150 (List.length (l49 ++ [(PartT.mk ((k51 : Nat) : Int) (Ll.mk l73) (Ll.mk l76))])) c151 (List.flatMap PartD.cells (d50 ++ [(PartD.mk ((k51 : Nat) : Int) (Sv.mk A71 c72 l73) (Sv.mk A74 c75 l76))])) 47 3, sepL (List.flatMap PartD.own d50), row A71 (List.length l73) c72 (List.flatMap OpD.cells l73) 74 6, row A74 (List.length l76) c75 (List.flatMap (eI .i64) l76) 3 1, row A146 1 1 (List.flatMap PartD.cells ([(PartD.mk ((k51 : Nat) : Int) (Sv.mk A71 c72 l73) (Sv.mk A74 c75 l76))])) 47 3, blk g63 [.int .i64 ((k51 : Nat) : Int), .slice A71 (List.length l73) c72, .slice A74 (List.length l76) c75] 47] := H153
  have H154 : Own w D w152 [sepL (List.flatMap PartD.own d50), row A71 (List.length l73) c72 (List.flatMap OpD.cells l73) 74 6, row A74 (List.length l76) c75 (List.flatMap (eI .i64) l76) 3 1, row A150 (List.length (l49 ++ [(PartT.mk ((k51 : Nat) : Int) (Ll.mk l73) (Ll.mk l76))])) c151 (List.flatMap PartD.cells (d50 ++ [(PartD.mk ((k51 : Nat) : Int) (Sv.mk A71 c72 l73) (Sv.mk A74 c75 l76))])) 47 3, row A146 1 1 (List.flatMap PartD.cells ([(PartD.mk ((k51 : Nat) : Int) (Sv.mk A71 c72 l73) (Sv.mk A74 c75 l76))])) 47 3, blk g63 [.int .i64 ((k51 : Nat) : Int), .slice A71 (List.length l73) c72, .slice A74 (List.length l76) c75] 47] := H153.pick [1, 2, 3, 0, 4, 5] (by decide) rfl
  have H155 : Own w D w152 [sepL (List.flatMap PartD.own (d50 ++ [(PartD.mk ((k51 : Nat) : Int) (Sv.mk A71 c72 l73) (Sv.mk A74 c75 l76))])), row A150 (List.length (l49 ++ [(PartT.mk ((k51 : Nat) : Int) (Ll.mk l73) (Ll.mk l76))])) c151 (List.flatMap PartD.cells (d50 ++ [(PartD.mk ((k51 : Nat) : Int) (Sv.mk A71 c72 l73) (Sv.mk A74 c75 l76))])) 47 3, row A146 1 1 (List.flatMap PartD.cells ([(PartD.mk ((k51 : Nat) : Int) (Sv.mk A71 c72 l73) (Sv.mk A74 c75 l76))])) 47 3, blk g63 [.int .i64 ((k51 : Nat) : Int), .slice A71 (List.length l73) c72, .slice A74 (List.length l76) c75] 47] := H154.sepAdd (L2 := [row A71 (List.length l73) c72 (List.flatMap OpD.cells l73) 74 6, row A74 (List.length l76) c75 (List.flatMap (eI .i64) l76) 3 1]) (List.flatMap_append (f := PartD.own) (xs := d50) (ys := [(PartD.mk ((k51 : Nat) : Int) (Sv.mk A71 c72 l73) (Sv.mk A74 c75 l76))])).symm
  have hl156 : List.length (l49 ++ [(PartT.mk ((k51 : Nat) : Int) (Ll.mk l73) (Ll.mk l76))]) = List.length l49 + 1 := by simp only [List.length_append, List.length_cons, List.length_nil]
  have hl157 := abs_len (abs_app (es := [(PartD.mk ((k51 : Nat) : Int) (Sv.mk A71 c72 l73) (Sv.mk A74 c75 l76))]) (ms := [(PartT.mk ((k51 : Nat) : Int) (Ll.mk l73) (Ll.mk l76))]) hi58 rfl)
  refine As rfl rfl (WL.nil (Fin.blockN (Fin.then (Wp.region (WL.val (v := .int .i64 ((k51 + 1 : Nat) : Int)) rfl (Yl.int (e := IntKind.i64.wrap (((k51 : Nat) : Int) + 1)) (Yl.kern rfl rfl (fun _ => by kernel_rfl)) (by rw [IntWalk.i64_in _ (by omega)]; omega)) (Mv rfl rfl (WL.nil ?_)))))))
  have H158 : Own w D w152 [row A150 (List.length (l49 ++ [(PartT.mk ((k51 : Nat) : Int) (Ll.mk l73) (Ll.mk l76))])) c151 (List.flatMap PartD.cells (d50 ++ [(PartD.mk ((k51 : Nat) : Int) (Sv.mk A71 c72 l73) (Sv.mk A74 c75 l76))])) 47 3, sepL (List.flatMap PartD.own (d50 ++ [(PartD.mk ((k51 : Nat) : Int) (Sv.mk A71 c72 l73) (Sv.mk A74 c75 l76))]))] := H155.pick [1, 0] (by decide) rfl
  exact Fin.round (A150, c151, (d50 ++ [(PartD.mk ((k51 : Nat) : Int) (Sv.mk A71 c72 l73) (Sv.mk A74 c75 l76))]), (l49 ++ [(PartT.mk ((k51 : Nat) : Int) (Ll.mk l73) (Ll.mk l76))]), k51 + 1) ⟨rfl, rfl, rfl, rfl, rfl, rfl, trivial⟩ ⟨H158, (show List.map PartD.abs (d50 ++ [(PartD.mk ((k51 : Nat) : Int) (Sv.mk A71 c72 l73) (Sv.mk A74 c75 l76))]) = (l49 ++ [(PartT.mk ((k51 : Nat) : Int) (Ll.mk l73) (Ll.mk l76))]) ∧ (k51 + 1) ≤ 5 ∧ List.length (l49 ++ [(PartT.mk ((k51 : Nat) : Int) (Ll.mk l73) (Ll.mk l76))]) ≤ (k51 + 1) ∧ owner_Cut_L0 l0 l1 5 ([]) 0 = owner_Cut_L0 l0 l1 (5 - (k51 + 1)) (l49 ++ [(PartT.mk ((k51 : Nat) : Int) (Ll.mk l73) (Ll.mk l76))]) (k51 + 1) from ⟨by exact (abs_app (es := [(PartD.mk ((k51 : Nat) : Int) (Sv.mk A71 c72 l73) (Sv.mk A74 c75 l76))]) (ms := [(PartT.mk ((k51 : Nat) : Int) (Ll.mk l73) (Ll.mk l76))]) hi58 rfl), by omega, by omega, Eq.trans (hq57) (Eq.trans (congrArg (fun q => owner_Cut_L0 l0 l1 q l49 k51) (sub_at (n := 5) (i := k51) (by omega))) (Eq.trans (bnd_of hL144) (if_pos h145)))⟩)⟩ (by show 5 - (k51 + 1) < 5 - k51; omega)
  refine Wp.cond0 rfl (decide_eq_false h145) (Wp.skip (Fin.blockN (Fin.then (Wp.region (WL.val (v := .int .i64 ((k51 + 1 : Nat) : Int)) rfl (Yl.int (e := IntKind.i64.wrap (((k51 : Nat) : Int) + 1)) (Yl.kern rfl rfl (fun _ => by kernel_rfl)) (by rw [IntWalk.i64_in _ (by omega)]; omega)) (Mv rfl rfl (WL.nil ?_)))))))
  have H159 : Own w D w79 [row A47 (List.length l49) c48 (List.flatMap PartD.cells d50) 47 3, sepL (List.flatMap PartD.own d50)] := H80.pick [1, 2] (by decide) rfl
  exact Fin.round (A47, c48, d50, l49, k51 + 1) ⟨rfl, rfl, rfl, rfl, rfl, rfl, trivial⟩ ⟨H159, (show List.map PartD.abs d50 = l49 ∧ (k51 + 1) ≤ 5 ∧ List.length l49 ≤ (k51 + 1) ∧ owner_Cut_L0 l0 l1 5 ([]) 0 = owner_Cut_L0 l0 l1 (5 - (k51 + 1)) l49 (k51 + 1) from ⟨by exact hi58, by omega, by omega, Eq.trans (hq57) (Eq.trans (congrArg (fun q => owner_Cut_L0 l0 l1 q l49 k51) (sub_at (n := 5) (i := k51) (by omega))) (Eq.trans (bnd_of hL144) (if_neg h145)))⟩)⟩ (by show 5 - (k51 + 1) < 5 - k51; omega)
  refine Wp.cond0 rfl (decide_eq_false h62) (Wp.exit (Fin.thenX ?_))
  have hL160 : owner_Cut_L0 l0 l1 5 ([]) 0 = l49 := Eq.trans (hq57) (Eq.trans (congrArg (fun q => owner_Cut_L0 l0 l1 q l49 k51) (sub_end (n := 5) (i := k51) (by omega))) rfl)
  refine Fin.thenX (Fin.blockX (Fin.then (Wp.seq (Wp.region (Mv rfl rfl (As rfl rfl (As rfl rfl (WL.nil (Fin.then (Wp.ret (Fin.res (res2 rfl rfl rfl) ?_)))))))))))
  have H161 : Own w D w54 [row A47 (List.length l49) c48 (List.flatMap PartD.cells d50) 47 3, sepL (List.flatMap PartD.own d50)] := H55.pick [0, 1] (by decide) rfl
  have e : owner_Cut l0 l1 = (l49, 0) := Eq.trans (bnd_of hr27) (Eq.trans (if_pos h32) (Eq.trans (bnd_of hr39) (Eq.trans (if_pos h44) (bnd_of hL160))))
  obtain ⟨rfl, rfl⟩ := pj2 (e.symm.trans hr)
  exact ⟨A47, c48, d50, rfl, H161, hi58⟩
  refine Wp.cond1 rfl (decide_eq_true h44) (Wp.seq (Wp.region (Mv rfl rfl (As rfl rfl (As rfl rfl (WL.nil (Fin.then (Wp.ret (Fin.thenR (Fin.res (res2 rfl rfl rfl) ?_))))))))))
  have H162 : Own w D w40 [sepL (List.flatMap PartD.own ([]))] := H42.sepNil
  have H163 : Own w D w40 [row none 0 0 (List.flatMap PartD.cells ([])) 47 3, sepL (List.flatMap PartD.own ([]))] := H162.free (row_nil 47 3)
  have H164 : Own w D w40 [row none 0 0 (List.flatMap PartD.cells ([])) 47 3, sepL (List.flatMap PartD.own ([]))] := H163.pick [0, 1] (by decide) rfl
  have e : owner_Cut l0 l1 = ([], r38) := Eq.trans (bnd_of hr27) (Eq.trans (if_pos h32) (Eq.trans (bnd_of hr39) (if_neg h44)))
  obtain ⟨rfl, rfl⟩ := pj2 (e.symm.trans hr)
  exact ⟨none, 0, [], rfl, H164, rfl⟩
  refine Wp.cond1 rfl (decide_eq_true h32) (Wp.seq (Wp.region (Mv rfl rfl (As rfl rfl (As rfl rfl (WL.nil (Fin.then (Wp.ret (Fin.thenR (Fin.res (res2 rfl rfl rfl) ?_))))))))))
  have H165 : Own w D w28 [sepL (List.flatMap PartD.own ([]))] := H30.sepNil
  have H166 : Own w D w28 [row none 0 0 (List.flatMap PartD.cells ([])) 47 3, sepL (List.flatMap PartD.own ([]))] := H165.free (row_nil 47 3)
  have H167 : Own w D w28 [row none 0 0 (List.flatMap PartD.cells ([])) 47 3, sepL (List.flatMap PartD.own ([]))] := H166.pick [0, 1] (by decide) rfl
  have e : owner_Cut l0 l1 = ([], r26) := Eq.trans (bnd_of hr27) (if_neg h32)
  obtain ⟨rfl, rfl⟩ := pj2 (e.symm.trans hr)
  exact ⟨none, 0, [], rfl, H167, rfl⟩
end Go.Proofs.Ytcjjblkgbfaapaa
