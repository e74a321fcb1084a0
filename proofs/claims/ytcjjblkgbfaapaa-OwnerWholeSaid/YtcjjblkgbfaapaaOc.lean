/-
  op: operations done to a map, one after another.
-/
import Derived.Test.YtcjjblkgbfaapaaWoN
namespace Go.Proofs.Ytcjjblkgbfaapaa
open Go.RowKit
set_option linter.unusedVariables false
set_option linter.unusedSectionVars false
set_option linter.unusedSimpArgs false
theorem El49 : Elem Try.prog 49 56 3 48 := elem_of (z := .agg #[.bool false, .string ⟨List.toArray ([])⟩, .slice none 0 0]) Try.underlying49 (by kernel_rfl) rfl (by decide)
def op_Apply_L0 : List OpD → List PairD → List ResultT → (List PairD) × (List ResultT)
  | [], l58, l61 => (l58, l61)
  | x78 :: q64, l58, l61 => if x78.xKind = 1 then bnd (op_get l58 x78) fun yr112 => op_Apply_L0 q64 yr112.1 (l61 ++ [yr112.2]) else if x78.xKind = 2 then bnd (op_put l58 x78) fun yr165 => op_Apply_L0 q64 yr165.1 (l61 ++ [yr165.2]) else if x78.xKind = 3 then bnd (op_del l58 x78) fun yr218 => op_Apply_L0 q64 yr218.1 (l61 ++ [yr218.2]) else if x78.xKind = 4 then bnd (op_scan l58 x78) fun yr271 => op_Apply_L0 q64 yr271.1 (l61 ++ [yr271.2]) else bnd (op_wipe l58 x78) fun yr324 => op_Apply_L0 q64 yr324.1 (l61 ++ [yr324.2])
def op_Apply (l0 : List PairD) (l1 : List OpD) : (List PairD) × (List ResultT) × Int :=
  bnd (op_CheckMap l0) fun yr26 => if yr26 = 0 then bnd (op_checkEach l1) fun yr37 => if yr37 = 0 then bnd (op_Apply_L0 l1 l0 ([])) fun sLrbtbtL => (sLrbtbtL.1, sLrbtbtL.2, 0) else ([], [], yr37) else ([], [], yr26)
set_option maxRecDepth 100000 in
theorem op_Apply_ok (w : World) (D : Nat → Prop) (A0 : Option Addr) (n0 c0 : Nat) (l0 : List PairD) (A1 : Option Addr) (n1 c1 : Nat) (l1 : List OpD) (r0 : List PairD) (r1 : List ResultT) (r2 : Int) (H : Own w D w []) (hx0 : Ro w D fun w' => Rds w' 2 A0 n0 (List.flatMap PairD.cells l0)) (hn0 : n0 = l0.length) (hl0 : l0.length * 32 ≤ 211106232532992) (hx1 : Ro w D fun w' => Rds w' 6 A1 n1 (List.flatMap OpD.cells l1)) (hn1 : n1 = l1.length) (hl1 : l1.length * 80 ≤ 211106232532992) (hh0 : (l0.length + l1.length) * 32 ≤ 211106232532992) (hr : op_Apply l0 l1 = (r0, r1, r2)) :
    Calls Try.prog 27 #[.slice A0 n0 c0, .slice A1 n1 c1] w (Ret fun v w' => ∃ (B0 : Option Addr) (b0 : Nat) (B1 : Option Addr) (b1 : Nat) (e1 : List ResultD), v = .tuple #[.slice B0 r0.length b0, .slice B1 r1.length b1, .int .i64 r2] ∧ Own w D w' [row B0 r0.length b0 (List.flatMap PairD.cells r0) 58 2, row B1 r1.length b1 (List.flatMap ResultD.cells e1) 56 3, sepL (List.flatMap ResultD.own e1)] ∧ (List.map ResultD.abs e1 = r1) ∧ (r0.length ≤ l0.length + l1.length) ∧ (r1.length ≤ l1.length)) := by
  subst hn0 hn1
  refine Calls.body (args := [.slice A0 l0.length c0, .slice A1 l1.length c1]) Try.func27 rfl rfl rfl ?_
  show Wp _ _ _ [(0, .slice A0 l0.length c0), (1, .slice A1 l1.length c1)] _ _
  refine Wp.seq (Wp.region (As rfl rfl (As rfl rfl (As rfl rfl (WL.nil (Fin.then (Wp.seq (Wp.seq (Wp.region (Mv rfl rfl ?_))))))))))
  obtain ⟨r26, hr27⟩ : ∃ q, op_CheckMap l0 = q := ⟨_, rfl⟩
  obtain ⟨D21, HP22, ro23, bk24, rr25⟩ := Own.enter0 H
  refine WL.do rfl (Do.call Try.call51 rfl (op_CheckMap_ok _ _ A0 l0.length c0 l0 r26 HP22 (ro23 _ hx0) rfl (by omega) hr27) ?_)
  rintro _ w28 ⟨rfl, HQ29⟩
  have H30 := bk24 _ _ HQ29
  refine As rfl rfl (WL.nil (Fin.then (Wp.seq (Wp.region (Mv rfl rfl (WL.val (v := .bool (decide (¬ (r26 = 0)))) rfl (Yl.bool (e := !(decide (r26 = 0))) (Yl.kern rfl rfl (fun _ => by kernel_rfl)) decide_not.symm) (WL.nil (Fin.then ?_))))))))
  by_cases h31 : r26 = 0
  refine Wp.cond0 rfl (decide_eq_false (not_not_intro h31)) (Wp.skip (Fin.then (Wp.seq (Wp.seq (Wp.region (Mv rfl rfl ?_))))))
  obtain ⟨r37, hr38⟩ : ∃ q, op_checkEach l1 = q := ⟨_, rfl⟩
  obtain ⟨D32, HP33, ro34, bk35, rr36⟩ := Own.enter0 H30
  refine WL.do rfl (Do.call Try.call52 rfl (op_checkEach_ok _ _ A1 l1.length c1 l1 r37 HP33 (ro34 _ hx1) rfl (by omega) hr38) ?_)
  rintro _ w39 ⟨rfl, HQ40⟩
  have H41 := bk35 _ _ HQ40
  refine As rfl rfl (WL.nil (Fin.then (Wp.seq (Wp.region (Mv rfl rfl (WL.val (v := .bool (decide (¬ (r37 = 0)))) rfl (Yl.bool (e := !(decide (r37 = 0))) (Yl.kern rfl rfl (fun _ => by kernel_rfl)) decide_not.symm) (WL.nil (Fin.then ?_))))))))
  by_cases h42 : r37 = 0
  refine Wp.cond0 rfl (decide_eq_false (not_not_intro h42)) (Wp.skip (Fin.then (Wp.seq (Wp.region (Mv rfl rfl ?_)))))
  obtain ⟨D43, HP44, ro45, bk46, rr47⟩ := Own.enter0 H41
  refine WL.do rfl (Do.call Try.call53 rfl (slices_Clone_api_Pair_api_Pair_ok _ _ A0 l0.length c0 l0 l0 HP44 (ro45 _ hx0) rfl (by omega) rfl) ?_)
  rintro _ w48 ⟨A51, c52, rfl, HQ49⟩
  have H50 := bk46 _ _ HQ49
  have hb53 := H50.rowC (i := 0) rfl
  refine As rfl rfl (WL.nil (Fin.then (Wp.seq (Wp.region (As rfl rfl (WL.nil (Fin.then (Wp.seq (Wp.seq (Wp.region (Mv rfl rfl (Kn (v := .int .i64 ((l1.length : Nat) : Int)) rfl rfl rfl (fun _ => by kernel_rfl) (Mv rfl rfl (WL.nil (Fin.then (Wp.block ?_))))))))))))))))
  have H54 : Own w D w48 [sepL (List.flatMap ResultD.own ([])), row A51 l0.length c52 (List.flatMap PairD.cells l0) 58 2] := H50.sepNil
  have H55 : Own w D w48 [row none 0 0 (List.flatMap ResultD.cells ([])) 56 3, sepL (List.flatMap ResultD.own ([])), row A51 l0.length c52 (List.flatMap PairD.cells l0) 58 2] := H54.free (row_nil 56 3)
  have H65 := H55.pick [2, 0, 1] (by decide) rfl
  refine Wp.loop (ι := (Option Addr) × Nat × (List PairD) × (Option Addr) × Nat × (List ResultD) × (List ResultT) × Nat) (fun i => [(0, .slice i.1 i.2.2.1.length i.2.1), (9, .slice i.2.2.2.1 i.2.2.2.2.2.2.1.length i.2.2.2.2.1), (29, .int .i64 ((i.2.2.2.2.2.2.2 : Nat) : Int)), (28, .int .i64 ((l1.length : Nat) : Int)), (27, .slice A1 l1.length c1), (6, .int .i64 0), (5, .slice none 0 0), (4, .slice none 0 0)]) (fun (i : (Option Addr) × Nat × (List PairD) × (Option Addr) × Nat × (List ResultD) × (List ResultT) × Nat) w' => Own w D w' [row i.1 i.2.2.1.length i.2.1 (List.flatMap PairD.cells i.2.2.1) 58 2, row i.2.2.2.1 i.2.2.2.2.2.2.1.length i.2.2.2.2.1 (List.flatMap ResultD.cells i.2.2.2.2.2.1) 56 3, sepL (List.flatMap ResultD.own i.2.2.2.2.2.1)] ∧ (List.map ResultD.abs i.2.2.2.2.2.1 = i.2.2.2.2.2.2.1 ∧ i.2.2.2.2.2.2.2 ≤ l1.length ∧ i.2.2.1.length ≤ l0.length + i.2.2.2.2.2.2.2 ∧ i.2.2.2.2.2.2.1.length = i.2.2.2.2.2.2.2 ∧ i.2.2.2.2.2.2.1.length ≤ i.2.2.2.2.2.2.2 ∧ op_CheckMap i.2.2.1 = 0 ∧ op_Apply_L0 l1 l0 ([]) = op_Apply_L0 (List.drop i.2.2.2.2.2.2.2 l1) i.2.2.1 i.2.2.2.2.2.2.1)) (fun i => l1.length - i.2.2.2.2.2.2.2) (A51, c52, l0, none, 0, [], [], 0) ⟨rfl, rfl, rfl, rfl, rfl, rfl, rfl, rfl, trivial⟩ ⟨H65, (show List.map ResultD.abs ([]) = ([]) ∧ 0 ≤ l1.length ∧ l0.length ≤ l0.length ∧ 0 = 0 ∧ 0 ≤ 0 ∧ op_CheckMap l0 = 0 ∧ op_Apply_L0 l1 l0 ([]) = op_Apply_L0 (List.drop 0 l1) l0 ([]) from ⟨by exact rfl, by omega, by omega, by omega, by omega, by rw [hr27]; omega, rfl⟩)⟩ ?_
  rintro ⟨A56, c57, l58, A59, c60, d62, l61, k63⟩ w66 ⟨H67, hf68⟩
  show Wp _ _ _ [(0, .slice A56 l58.length c57), (9, .slice A59 l61.length c60), (29, .int .i64 ((k63 : Nat) : Int)), (28, .int .i64 ((l1.length : Nat) : Int)), (27, .slice A1 l1.length c1), (6, .int .i64 0), (5, .slice none 0 0), (4, .slice none 0 0)] _ _
  replace H67 : Own w D w66 [row A56 l58.length c57 (List.flatMap PairD.cells l58) 58 2, row A59 l61.length c60 (List.flatMap ResultD.cells d62) 56 3, sepL (List.flatMap ResultD.own d62)] := H67
  replace hf68 : List.map ResultD.abs d62 = l61 ∧ k63 ≤ l1.length ∧ l58.length ≤ l0.length + k63 ∧ l61.length = k63 ∧ l61.length ≤ k63 ∧ op_CheckMap l58 = 0 ∧ op_Apply_L0 l1 l0 ([]) = op_Apply_L0 (List.drop k63 l1) l58 l61 := hf68
  obtain ⟨hi70, hi71, hi72, hi73, hi74, hi75, hq69⟩ := hf68
  have hl76 := abs_len hi70
  refine Wp.seq (Wp.region (Kn (v := .bool (decide (((k63 : Nat) : Int) < ((l1.length : Nat) : Int)))) rfl rfl rfl (fun _ => by kernel_rfl) (WL.nil (Fin.then (Wp.seq ?_)))))
  by_cases h77 : ((k63 : Nat) : Int) < ((l1.length : Nat) : Int)
  obtain ⟨x78, hx79⟩ := rds_at (ls := l1) (i := k63) OpD.len (by decide) (H67.ro hx1) (by first | omega | (simp; done) | (simp; omega))
  have hz80 := op_each (l := l1) (by rw [hr38]; omega) hx79
  have hz81 : op_CheckOp x78 = 0 := op_each_ok0 (l := l1) (by rw [hr38]; omega) _ (List.mem_of_getElem? hx79)
  have hd82 := drop_at hx79
  refine Wp.cond1 rfl (decide_eq_true h77) (Wp.skip (Fin.then (Wp.seq (Wp.block (Wp.seq (Wp.region (WL.val (v := .pointer (some ⟨ab A1, ao A1 + k63 * 6, none⟩)) rfl (Yl.indexAddr (El41) rfl rfl ((H67.ro hx1).addr (i := k63) (by omega)) (by omega)) (WL.val (v := .agg (OpD.cells x78).toArray) rfl (Yl.load rfl (Lds.agg (cs := (OpD.cells x78)) Try.isAgg74 Try.sizeOf74 ((H67.ro hx1).elem OpD.len hx79 (by decide)))) ?_))))))))
  refine WL.do rfl (Do.newP (cs := [.int .i64 0, .string ⟨List.toArray ([])⟩, .string ⟨List.toArray ([])⟩, .string ⟨List.toArray ([])⟩, .string ⟨List.toArray ([])⟩, .int .i64 0]) (t := 74) H67 rfl rfl (fun _ => by kernel_rfl) ?_)
  intro g83 w84 H85
  refine WL.do0 (Do.store (vs := (OpD.cells x78)) (o := 0) H85 rfl rfl Try.sizeOf74 rfl rfl rfl rfl ?_)
  intro w86 H87
  refine WL.nil (Fin.then (Wp.seq (Wp.region (Kn (v := .pointer (some ⟨g83, 0, none⟩)) rfl rfl rfl (fun _ => by kernel_rfl) (WL.val (v := .int .i64 x78.xKind) rfl (Yl.load rfl (Lds.one Try.isAgg3 (Cls.of (H87.cls (i := 0) rfl) rfl))) ?_)))))
  by_cases h88 : x78.xKind = 1
  obtain ⟨D89, HP90, ro91, bk92, rr93⟩ := Own.enter0 H87
  refine WL.do rfl (Do.call Try.call54 rfl (op_kindOf_1_ok _ _ x78.xKind HP90 (of_decide_eq_true (decide_eq_true h88))) ?_)
  rintro _ w95 ⟨rfl, HQ96⟩
  have H97 := bk92 _ _ HQ96
  refine Mv rfl rfl (Kn (v := .agg #[.bool false, .func (.func 67) #[] #[], .func (.func 68) #[] #[], .func (.func 69) #[] #[], .func (.func 70) #[] #[]]) rfl rfl rfl (fun _ => by kernel_rfl) (Kn (v := .bool true) rfl rfl rfl (fun _ => by kernel_rfl) ?_))
  refine WL.do rfl (Do.newP (cs := [.bool false, .nilFunc, .nilFunc, .nilFunc, .nilFunc]) (t := 95) H97 rfl rfl (fun _ => by kernel_rfl) ?_)
  intro g98 w99 H100
  refine WL.do0 (Do.store (vs := [.bool false, .func (.func 67) #[] #[], .func (.func 68) #[] #[], .func (.func 69) #[] #[], .func (.func 70) #[] #[]]) (o := 0) H100 rfl rfl Try.sizeOf95 rfl rfl rfl rfl ?_)
  intro w101 H102
  refine As rfl rfl (WL.nil (Fin.then (Wp.seq (Wp.region ?_))))
  refine WL.do rfl (Do.newP (cs := [.bool false, .string ⟨List.toArray ([])⟩, .slice none 0 0]) (t := 56) H102 rfl rfl (fun _ => by kernel_rfl) ?_)
  intro g103 w104 H105
  refine WL.nil (Fin.then (Wp.seq (Wp.region (Kn (v := .pointer (some ⟨g98, 4, none⟩)) rfl rfl rfl (fun _ => by kernel_rfl) (WL.val (v := .func (.func 70) #[] #[]) rfl (Yl.load rfl (Lds.one Try.isAgg93 (Cls.of (H105.cls (i := 1) rfl) rfl))) (Mv rfl rfl (WL.val (v := .agg (OpD.cells x78).toArray) rfl (Yl.load rfl (Lds.agg (cs := (OpD.cells x78)) Try.isAgg74 Try.sizeOf74 ((H105.cls (i := 2) rfl).lit (k := 0) (m := 6) rfl))) ?_)))))))
  have H106 := H105.pick [3, 0, 1, 2, 4, 5] (by decide) rfl
  obtain ⟨⟨r112, r113⟩, hr114⟩ : ∃ q : (List PairD) × ResultT, op_get l58 x78 = q := ⟨_, rfl⟩
  obtain ⟨D107, HP108, ro109, bk110, rr111⟩ := Own.enter1 H106
  refine WL.do rfl (Do.callV Try.call70 rfl rfl (op_get_ok _ _ A56 l58.length c57 l58 x78 r112 r113 HP108 rfl (by omega) (by omega) hr114) ?_)
  rintro _ w115 ⟨A118, c119, A120, c121, rfl, HQ116, hk122⟩
  have H117 := bk110 _ _ HQ116
  have hb123 := H117.rowC (i := 0) rfl
  have hb124 := H117.rowC (i := 1) rfl
  replace hk122 : r112.length ≤ l58.length + 1 := hk122
  refine Mv rfl rfl (Kn (v := .slice A118 r112.length c119) rfl rfl rfl (fun _ => by kernel_rfl) (Kn (v := .agg #[.bool r113.xFound, .string ⟨List.toArray r113.xValue⟩, .slice A120 r113.xPairs.ls.length c121]) rfl rfl rfl (fun _ => by kernel_rfl) (As rfl rfl ?_)))
  have H125 := H117.pick [2, 0, 1, 3, 4, 5, 6] (by decide) rfl
  refine WL.do0 (Do.store (vs := [.bool r113.xFound, .string ⟨List.toArray r113.xValue⟩, .slice A120 r113.xPairs.ls.length c121]) (o := 0) H125 rfl rfl Try.sizeOf56 rfl rfl rfl rfl ?_)
  intro w126 H127
  refine WL.nil (Fin.then (Wp.region (Mv rfl rfl (WL.val (v := .agg #[.bool r113.xFound, .string ⟨List.toArray r113.xValue⟩, .slice A120 r113.xPairs.ls.length c121]) rfl (Yl.load rfl (Lds.agg (cs := [.bool r113.xFound, .string ⟨List.toArray r113.xValue⟩, .slice A120 r113.xPairs.ls.length c121]) Try.isAgg56 Try.sizeOf56 ((H127.cls (i := 0) rfl).lit (k := 0) (m := 3) rfl))) ?_))))
  refine WL.do rfl (Do.newRow (cs := [.bool r113.xFound, .string ⟨List.toArray r113.xValue⟩, .slice A120 r113.xPairs.ls.length c121]) (t := 56) (sz := 3) (m := 1) H127 rfl rfl (fun _ => by kernel_rfl) rfl (by decide) ?_)
  intro A128 w129 H130
  replace H130 : Own w D w129 [row A128 1 1 (List.flatMap ResultD.cells ([(ResultD.mk r113.xFound r113.xValue (Sv.mk A120 c121 r113.xPairs.ls))])) 56 3, blk g103 [.bool r113.xFound, .string ⟨List.toArray r113.xValue⟩, .slice A120 r113.xPairs.ls.length c121] 56, row A118 r112.length c119 (List.flatMap PairD.cells r112) 58 2, row A120 r113.xPairs.ls.length c121 (List.flatMap PairD.cells r113.xPairs.ls) 58 2, blk g98 [.bool false, .func (.func 67) #[] #[], .func (.func 68) #[] #[], .func (.func 69) #[] #[], .func (.func 70) #[] #[]] 95, blk g83 (OpD.cells x78) 74, row A59 l61.length c60 (List.flatMap ResultD.cells d62) 56 3, sepL (List.flatMap ResultD.own d62)] := H130
  have H131 := H130.pick [6, 7, 3, 0, 1, 2, 4, 5] (by decide) rfl
  refine WL.do rfl (Do.appendW (k := l61.length) (m := 1) (El49) H131 rfl rfl (src_of Try.underlying49 (H131.rds (i := 3) rfl) (flat_one ResultD.one ([(ResultD.mk r113.xFound r113.xValue (Sv.mk A120 c121 r113.xPairs.ls))]))) rfl (by omega) (s := List.length (l61 ++ [r113])) (by first | omega | (simp only [List.length_append, List.length_cons, List.length_nil] <;> omega)) (List.flatMap_append).symm ?_)
  intro A132 c133 w134 H135
  have H136 := H135.pick [1, 2, 0, 3, 4, 5, 6, 7] (by decide) rfl
  have H137 : Own w D w134 [sepL (List.flatMap ResultD.own (d62 ++ [(ResultD.mk r113.xFound r113.xValue (Sv.mk A120 c121 r113.xPairs.ls))])), row A132 (List.length (l61 ++ [r113])) c133 (List.flatMap ResultD.cells (d62 ++ [(ResultD.mk r113.xFound r113.xValue (Sv.mk A120 c121 r113.xPairs.ls))])) 56 3, row A128 1 1 (List.flatMap ResultD.cells ([(ResultD.mk r113.xFound r113.xValue (Sv.mk A120 c121 r113.xPairs.ls))])) 56 3, blk g103 [.bool r113.xFound, .string ⟨List.toArray r113.xValue⟩, .slice A120 r113.xPairs.ls.length c121] 56, row A118 r112.length c119 (List.flatMap PairD.cells r112) 58 2, blk g98 [.bool false, .func (.func 67) #[] #[], .func (.func 68) #[] #[], .func (.func 69) #[] #[], .func (.func 70) #[] #[]] 95, blk g83 (OpD.cells x78) 74] := H136.sepAdd (L2 := [row A120 r113.xPairs.ls.length c121 (List.flatMap PairD.cells r113.xPairs.ls) 58 2]) (List.flatMap_append (f := ResultD.own) (xs := d62) (ys := [(ResultD.mk r113.xFound r113.xValue (Sv.mk A120 c121 r113.xPairs.ls))])).symm
  have hl138 : List.length (l61 ++ [r113]) = l61.length + 1 := by simp only [List.length_append, List.length_cons, List.length_nil]
  have hl139 := abs_len (abs_app (es := [(ResultD.mk r113.xFound r113.xValue (Sv.mk A120 c121 r113.xPairs.ls))]) (ms := [r113]) hi70 rfl)
  refine As rfl rfl (WL.nil (Fin.blockN (Fin.then (Wp.region (WL.val (v := .int .i64 ((k63 + 1 : Nat) : Int)) rfl (Yl.int (e := IntKind.i64.wrap (((k63 : Nat) : Int) + 1)) (Yl.kern rfl rfl (fun _ => by kernel_rfl)) (by rw [IntWalk.i64_in _ (by omega)]; omega)) (Mv rfl rfl (WL.nil ?_)))))))
  have H140 := H137.pick [4, 1, 0] (by decide) rfl
  exact Fin.round (A118, c119, r112, A132, c133, (d62 ++ [(ResultD.mk r113.xFound r113.xValue (Sv.mk A120 c121 r113.xPairs.ls))]), (l61 ++ [r113]), k63 + 1) ⟨rfl, rfl, rfl, rfl, rfl, rfl, rfl, rfl, trivial⟩ ⟨H140, (show List.map ResultD.abs (d62 ++ [(ResultD.mk r113.xFound r113.xValue (Sv.mk A120 c121 r113.xPairs.ls))]) = (l61 ++ [r113]) ∧ (k63 + 1) ≤ l1.length ∧ r112.length ≤ l0.length + (k63 + 1) ∧ List.length (l61 ++ [r113]) = (k63 + 1) ∧ List.length (l61 ++ [r113]) ≤ (k63 + 1) ∧ op_CheckMap r112 = 0 ∧ op_Apply_L0 l1 l0 ([]) = op_Apply_L0 (List.drop (k63 + 1) l1) r112 (l61 ++ [r113]) from ⟨by exact (abs_app (es := [(ResultD.mk r113.xFound r113.xValue (Sv.mk A120 c121 r113.xPairs.ls))]) (ms := [r113]) hi70 rfl), by omega, by omega, by omega, by omega, by exact cm_get hr114 (by assumption), Eq.trans (hq69) (Eq.trans (congrArg (fun q => op_Apply_L0 q l58 l61) hd82) (Eq.trans (if_pos h88) (bnd_of hr114)))⟩)⟩ (by show l1.length - (k63 + 1) < l1.length - k63; omega)
  by_cases h141 : x78.xKind = 2
  obtain ⟨D142, HP143, ro144, bk145, rr146⟩ := Own.enter0 H87
  refine WL.do rfl (Do.call Try.call54 rfl (op_kindOf_2_ok _ _ x78.xKind HP143 (of_decide_eq_true (decide_eq_true h141))) ?_)
  rintro _ w148 ⟨rfl, HQ149⟩
  have H150 := bk145 _ _ HQ149
  refine Mv rfl rfl (Kn (v := .agg #[.bool true, .func (.func 71) #[] #[], .func (.func 72) #[] #[], .func (.func 69) #[] #[], .func (.func 73) #[] #[]]) rfl rfl rfl (fun _ => by kernel_rfl) (Kn (v := .bool true) rfl rfl rfl (fun _ => by kernel_rfl) ?_))
  refine WL.do rfl (Do.newP (cs := [.bool false, .nilFunc, .nilFunc, .nilFunc, .nilFunc]) (t := 95) H150 rfl rfl (fun _ => by kernel_rfl) ?_)
  intro g151 w152 H153
  refine WL.do0 (Do.store (vs := [.bool true, .func (.func 71) #[] #[], .func (.func 72) #[] #[], .func (.func 69) #[] #[], .func (.func 73) #[] #[]]) (o := 0) H153 rfl rfl Try.sizeOf95 rfl rfl rfl rfl ?_)
  intro w154 H155
  refine As rfl rfl (WL.nil (Fin.then (Wp.seq (Wp.region ?_))))
  refine WL.do rfl (Do.newP (cs := [.bool false, .string ⟨List.toArray ([])⟩, .slice none 0 0]) (t := 56) H155 rfl rfl (fun _ => by kernel_rfl) ?_)
  intro g156 w157 H158
  refine WL.nil (Fin.then (Wp.seq (Wp.region (Kn (v := .pointer (some ⟨g151, 4, none⟩)) rfl rfl rfl (fun _ => by kernel_rfl) (WL.val (v := .func (.func 73) #[] #[]) rfl (Yl.load rfl (Lds.one Try.isAgg93 (Cls.of (H158.cls (i := 1) rfl) rfl))) (Mv rfl rfl (WL.val (v := .agg (OpD.cells x78).toArray) rfl (Yl.load rfl (Lds.agg (cs := (OpD.cells x78)) Try.isAgg74 Try.sizeOf74 ((H158.cls (i := 2) rfl).lit (k := 0) (m := 6) rfl))) ?_)))))))
  have H159 := H158.pick [3, 0, 1, 2, 4, 5] (by decide) rfl
  obtain ⟨⟨r165, r166⟩, hr167⟩ : ∃ q : (List PairD) × ResultT, op_put l58 x78 = q := ⟨_, rfl⟩
  obtain ⟨D160, HP161, ro162, bk163, rr164⟩ := Own.enter1 H159
  refine WL.do rfl (Do.callV Try.call73 rfl rfl (op_put_ok _ _ A56 l58.length c57 l58 x78 r165 r166 HP161 rfl (by omega) (by omega) hr167) ?_)
  rintro _ w168 ⟨A171, c172, A173, c174, rfl, HQ169, hk175⟩
  have H170 := bk163 _ _ HQ169
  have hb176 := H170.rowC (i := 0) rfl
  have hb177 := H170.rowC (i := 1) rfl
  replace hk175 : r165.length ≤ l58.length + 1 := hk175
  refine Mv rfl rfl (Kn (v := .slice A171 r165.length c172) rfl rfl rfl (fun _ => by kernel_rfl) (Kn (v := .agg #[.bool r166.xFound, .string ⟨List.toArray r166.xValue⟩, .slice A173 r166.xPairs.ls.length c174]) rfl rfl rfl (fun _ => by kernel_rfl) (As rfl rfl ?_)))
  have H178 := H170.pick [2, 0, 1, 3, 4, 5, 6] (by decide) rfl
  refine WL.do0 (Do.store (vs := [.bool r166.xFound, .string ⟨List.toArray r166.xValue⟩, .slice A173 r166.xPairs.ls.length c174]) (o := 0) H178 rfl rfl Try.sizeOf56 rfl rfl rfl rfl ?_)
  intro w179 H180
  refine WL.nil (Fin.then (Wp.region (Mv rfl rfl (WL.val (v := .agg #[.bool r166.xFound, .string ⟨List.toArray r166.xValue⟩, .slice A173 r166.xPairs.ls.length c174]) rfl (Yl.load rfl (Lds.agg (cs := [.bool r166.xFound, .string ⟨List.toArray r166.xValue⟩, .slice A173 r166.xPairs.ls.length c174]) Try.isAgg56 Try.sizeOf56 ((H180.cls (i := 0) rfl).lit (k := 0) (m := 3) rfl))) ?_))))
  refine WL.do rfl (Do.newRow (cs := [.bool r166.xFound, .string ⟨List.toArray r166.xValue⟩, .slice A173 r166.xPairs.ls.length c174]) (t := 56) (sz := 3) (m := 1) H180 rfl rfl (fun _ => by kernel_rfl) rfl (by decide) ?_)
  intro A181 w182 H183
  replace H183 : Own w D w182 [row A181 1 1 (List.flatMap ResultD.cells ([(ResultD.mk r166.xFound r166.xValue (Sv.mk A173 c174 r166.xPairs.ls))])) 56 3, blk g156 [.bool r166.xFound, .string ⟨List.toArray r166.xValue⟩, .slice A173 r166.xPairs.ls.length c174] 56, row A171 r165.length c172 (List.flatMap PairD.cells r165) 58 2, row A173 r166.xPairs.ls.length c174 (List.flatMap PairD.cells r166.xPairs.ls) 58 2, blk g151 [.bool true, .func (.func 71) #[] #[], .func (.func 72) #[] #[], .func (.func 69) #[] #[], .func (.func 73) #[] #[]] 95, blk g83 (OpD.cells x78) 74, row A59 l61.length c60 (List.flatMap ResultD.cells d62) 56 3, sepL (List.flatMap ResultD.own d62)] := H183
  have H184 := H183.pick [6, 7, 3, 0, 1, 2, 4, 5] (by decide) rfl
  refine WL.do rfl (Do.appendW (k := l61.length) (m := 1) (El49) H184 rfl rfl (src_of Try.underlying49 (H184.rds (i := 3) rfl) (flat_one ResultD.one ([(ResultD.mk r166.xFound r166.xValue (Sv.mk A173 c174 r166.xPairs.ls))]))) rfl (by omega) (s := List.length (l61 ++ [r166])) (by first | omega | (simp only [List.length_append, List.length_cons, List.length_nil] <;> omega)) (List.flatMap_append).symm ?_)
  intro A185 c186 w187 H188
  have H189 := H188.pick [1, 2, 0, 3, 4, 5, 6, 7] (by decide) rfl
  have H190 : Own w D w187 [sepL (List.flatMap ResultD.own (d62 ++ [(ResultD.mk r166.xFound r166.xValue (Sv.mk A173 c174 r166.xPairs.ls))])), row A185 (List.length (l61 ++ [r166])) c186 (List.flatMap ResultD.cells (d62 ++ [(ResultD.mk r166.xFound r166.xValue (Sv.mk A173 c174 r166.xPairs.ls))])) 56 3, row A181 1 1 (List.flatMap ResultD.cells ([(ResultD.mk r166.xFound r166.xValue (Sv.mk A173 c174 r166.xPairs.ls))])) 56 3, blk g156 [.bool r166.xFound, .string ⟨List.toArray r166.xValue⟩, .slice A173 r166.xPairs.ls.length c174] 56, row A171 r165.length c172 (List.flatMap PairD.cells r165) 58 2, blk g151 [.bool true, .func (.func 71) #[] #[], .func (.func 72) #[] #[], .func (.func 69) #[] #[], .func (.func 73) #[] #[]] 95, blk g83 (OpD.cells x78) 74] := H189.sepAdd (L2 := [row A173 r166.xPairs.ls.length c174 (List.flatMap PairD.cells r166.xPairs.ls) 58 2]) (List.flatMap_append (f := ResultD.own) (xs := d62) (ys := [(ResultD.mk r166.xFound r166.xValue (Sv.mk A173 c174 r166.xPairs.ls))])).symm
  have hl191 : List.length (l61 ++ [r166]) = l61.length + 1 := by simp only [List.length_append, List.length_cons, List.length_nil]
  have hl192 := abs_len (abs_app (es := [(ResultD.mk r166.xFound r166.xValue (Sv.mk A173 c174 r166.xPairs.ls))]) (ms := [r166]) hi70 rfl)
  refine As rfl rfl (WL.nil (Fin.blockN (Fin.then (Wp.region (WL.val (v := .int .i64 ((k63 + 1 : Nat) : Int)) rfl (Yl.int (e := IntKind.i64.wrap (((k63 : Nat) : Int) + 1)) (Yl.kern rfl rfl (fun _ => by kernel_rfl)) (by rw [IntWalk.i64_in _ (by omega)]; omega)) (Mv rfl rfl (WL.nil ?_)))))))
  have H193 := H190.pick [4, 1, 0] (by decide) rfl
  exact Fin.round (A171, c172, r165, A185, c186, (d62 ++ [(ResultD.mk r166.xFound r166.xValue (Sv.mk A173 c174 r166.xPairs.ls))]), (l61 ++ [r166]), k63 + 1) ⟨rfl, rfl, rfl, rfl, rfl, rfl, rfl, rfl, trivial⟩ ⟨H193, (show List.map ResultD.abs (d62 ++ [(ResultD.mk r166.xFound r166.xValue (Sv.mk A173 c174 r166.xPairs.ls))]) = (l61 ++ [r166]) ∧ (k63 + 1) ≤ l1.length ∧ r165.length ≤ l0.length + (k63 + 1) ∧ List.length (l61 ++ [r166]) = (k63 + 1) ∧ List.length (l61 ++ [r166]) ≤ (k63 + 1) ∧ op_CheckMap r165 = 0 ∧ op_Apply_L0 l1 l0 ([]) = op_Apply_L0 (List.drop (k63 + 1) l1) r165 (l61 ++ [r166]) from ⟨by exact (abs_app (es := [(ResultD.mk r166.xFound r166.xValue (Sv.mk A173 c174 r166.xPairs.ls))]) (ms := [r166]) hi70 rfl), by omega, by omega, by omega, by omega, by exact cm_put hr167 (by assumption) (by assumption) (by omega), Eq.trans (hq69) (Eq.trans (congrArg (fun q => op_Apply_L0 q l58 l61) hd82) (Eq.trans (if_neg h88) (Eq.trans (if_pos h141) (bnd_of hr167))))⟩)⟩ (by show l1.length - (k63 + 1) < l1.length - k63; omega)
  by_cases h194 : x78.xKind = 3
  obtain ⟨D195, HP196, ro197, bk198, rr199⟩ := Own.enter0 H87
  refine WL.do rfl (Do.call Try.call54 rfl (op_kindOf_3_ok _ _ x78.xKind HP196 (of_decide_eq_true (decide_eq_true h194))) ?_)
  rintro _ w201 ⟨rfl, HQ202⟩
  have H203 := bk198 _ _ HQ202
  refine Mv rfl rfl (Kn (v := .agg #[.bool true, .func (.func 67) #[] #[], .func (.func 68) #[] #[], .func (.func 69) #[] #[], .func (.func 74) #[] #[]]) rfl rfl rfl (fun _ => by kernel_rfl) (Kn (v := .bool true) rfl rfl rfl (fun _ => by kernel_rfl) ?_))
  refine WL.do rfl (Do.newP (cs := [.bool false, .nilFunc, .nilFunc, .nilFunc, .nilFunc]) (t := 95) H203 rfl rfl (fun _ => by kernel_rfl) ?_)
  intro g204 w205 H206
  refine WL.do0 (Do.store (vs := [.bool true, .func (.func 67) #[] #[], .func (.func 68) #[] #[], .func (.func 69) #[] #[], .func (.func 74) #[] #[]]) (o := 0) H206 rfl rfl Try.sizeOf95 rfl rfl rfl rfl ?_)
  intro w207 H208
  refine As rfl rfl (WL.nil (Fin.then (Wp.seq (Wp.region ?_))))
  refine WL.do rfl (Do.newP (cs := [.bool false, .string ⟨List.toArray ([])⟩, .slice none 0 0]) (t := 56) H208 rfl rfl (fun _ => by kernel_rfl) ?_)
  intro g209 w210 H211
  refine WL.nil (Fin.then (Wp.seq (Wp.region (Kn (v := .pointer (some ⟨g204, 4, none⟩)) rfl rfl rfl (fun _ => by kernel_rfl) (WL.val (v := .func (.func 74) #[] #[]) rfl (Yl.load rfl (Lds.one Try.isAgg93 (Cls.of (H211.cls (i := 1) rfl) rfl))) (Mv rfl rfl (WL.val (v := .agg (OpD.cells x78).toArray) rfl (Yl.load rfl (Lds.agg (cs := (OpD.cells x78)) Try.isAgg74 Try.sizeOf74 ((H211.cls (i := 2) rfl).lit (k := 0) (m := 6) rfl))) ?_)))))))
  have H212 := H211.pick [3, 0, 1, 2, 4, 5] (by decide) rfl
  obtain ⟨⟨r218, r219⟩, hr220⟩ : ∃ q : (List PairD) × ResultT, op_del l58 x78 = q := ⟨_, rfl⟩
  obtain ⟨D213, HP214, ro215, bk216, rr217⟩ := Own.enter1 H212
  refine WL.do rfl (Do.callV Try.call74 rfl rfl (op_del_ok _ _ A56 l58.length c57 l58 x78 r218 r219 HP214 rfl (by omega) (by omega) hr220) ?_)
  rintro _ w221 ⟨A224, c225, A226, c227, rfl, HQ222, hk228⟩
  have H223 := bk216 _ _ HQ222
  have hb229 := H223.rowC (i := 0) rfl
  have hb230 := H223.rowC (i := 1) rfl
  replace hk228 : r218.length ≤ l58.length + 1 := hk228
  refine Mv rfl rfl (Kn (v := .slice A224 r218.length c225) rfl rfl rfl (fun _ => by kernel_rfl) (Kn (v := .agg #[.bool r219.xFound, .string ⟨List.toArray r219.xValue⟩, .slice A226 r219.xPairs.ls.length c227]) rfl rfl rfl (fun _ => by kernel_rfl) (As rfl rfl ?_)))
  have H231 := H223.pick [2, 0, 1, 3, 4, 5, 6] (by decide) rfl
  refine WL.do0 (Do.store (vs := [.bool r219.xFound, .string ⟨List.toArray r219.xValue⟩, .slice A226 r219.xPairs.ls.length c227]) (o := 0) H231 rfl rfl Try.sizeOf56 rfl rfl rfl rfl ?_)
  intro w232 H233
  refine WL.nil (Fin.then (Wp.region (Mv rfl rfl (WL.val (v := .agg #[.bool r219.xFound, .string ⟨List.toArray r219.xValue⟩, .slice A226 r219.xPairs.ls.length c227]) rfl (Yl.load rfl (Lds.agg (cs := [.bool r219.xFound, .string ⟨List.toArray r219.xValue⟩, .slice A226 r219.xPairs.ls.length c227]) Try.isAgg56 Try.sizeOf56 ((H233.cls (i := 0) rfl).lit (k := 0) (m := 3) rfl))) ?_))))
  refine WL.do rfl (Do.newRow (cs := [.bool r219.xFound, .string ⟨List.toArray r219.xValue⟩, .slice A226 r219.xPairs.ls.length c227]) (t := 56) (sz := 3) (m := 1) H233 rfl rfl (fun _ => by kernel_rfl) rfl (by decide) ?_)
  intro A234 w235 H236
  replace H236 : Own w D w235 [row A234 1 1 (List.flatMap ResultD.cells ([(ResultD.mk r219.xFound r219.xValue (Sv.mk A226 c227 r219.xPairs.ls))])) 56 3, blk g209 [.bool r219.xFound, .string ⟨List.toArray r219.xValue⟩, .slice A226 r219.xPairs.ls.length c227] 56, row A224 r218.length c225 (List.flatMap PairD.cells r218) 58 2, row A226 r219.xPairs.ls.length c227 (List.flatMap PairD.cells r219.xPairs.ls) 58 2, blk g204 [.bool true, .func (.func 67) #[] #[], .func (.func 68) #[] #[], .func (.func 69) #[] #[], .func (.func 74) #[] #[]] 95, blk g83 (OpD.cells x78) 74, row A59 l61.length c60 (List.flatMap ResultD.cells d62) 56 3, sepL (List.flatMap ResultD.own d62)] := H236
  have H237 := H236.pick [6, 7, 3, 0, 1, 2, 4, 5] (by decide) rfl
  refine WL.do rfl (Do.appendW (k := l61.length) (m := 1) (El49) H237 rfl rfl (src_of Try.underlying49 (H237.rds (i := 3) rfl) (flat_one ResultD.one ([(ResultD.mk r219.xFound r219.xValue (Sv.mk A226 c227 r219.xPairs.ls))]))) rfl (by omega) (s := List.length (l61 ++ [r219])) (by first | omega | (simp only [List.length_append, List.length_cons, List.length_nil] <;> omega)) (List.flatMap_append).symm ?_)
  intro A238 c239 w240 H241
  have H242 := H241.pick [1, 2, 0, 3, 4, 5, 6, 7] (by decide) rfl
  have H243 : Own w D w240 [sepL (List.flatMap ResultD.own (d62 ++ [(ResultD.mk r219.xFound r219.xValue (Sv.mk A226 c227 r219.xPairs.ls))])), row A238 (List.length (l61 ++ [r219])) c239 (List.flatMap ResultD.cells (d62 ++ [(ResultD.mk r219.xFound r219.xValue (Sv.mk A226 c227 r219.xPairs.ls))])) 56 3, row A234 1 1 (List.flatMap ResultD.cells ([(ResultD.mk r219.xFound r219.xValue (Sv.mk A226 c227 r219.xPairs.ls))])) 56 3, blk g209 [.bool r219.xFound, .string ⟨List.toArray r219.xValue⟩, .slice A226 r219.xPairs.ls.length c227] 56, row A224 r218.length c225 (List.flatMap PairD.cells r218) 58 2, blk g204 [.bool true, .func (.func 67) #[] #[], .func (.func 68) #[] #[], .func (.func 69) #[] #[], .func (.func 74) #[] #[]] 95, blk g83 (OpD.cells x78) 74] := H242.sepAdd (L2 := [row A226 r219.xPairs.ls.length c227 (List.flatMap PairD.cells r219.xPairs.ls) 58 2]) (List.flatMap_append (f := ResultD.own) (xs := d62) (ys := [(ResultD.mk r219.xFound r219.xValue (Sv.mk A226 c227 r219.xPairs.ls))])).symm
  have hl244 : List.length (l61 ++ [r219]) = l61.length + 1 := by simp only [List.length_append, List.length_cons, List.length_nil]
  have hl245 := abs_len (abs_app (es := [(ResultD.mk r219.xFound r219.xValue (Sv.mk A226 c227 r219.xPairs.ls))]) (ms := [r219]) hi70 rfl)
  refine As rfl rfl (WL.nil (Fin.blockN (Fin.then (Wp.region (WL.val (v := .int .i64 ((k63 + 1 : Nat) : Int)) rfl (Yl.int (e := IntKind.i64.wrap (((k63 : Nat) : Int) + 1)) (Yl.kern rfl rfl (fun _ => by kernel_rfl)) (by rw [IntWalk.i64_in _ (by omega)]; omega)) (Mv rfl rfl (WL.nil ?_)))))))
  have H246 := H243.pick [4, 1, 0] (by decide) rfl
  exact Fin.round (A224, c225, r218, A238, c239, (d62 ++ [(ResultD.mk r219.xFound r219.xValue (Sv.mk A226 c227 r219.xPairs.ls))]), (l61 ++ [r219]), k63 + 1) ⟨rfl, rfl, rfl, rfl, rfl, rfl, rfl, rfl, trivial⟩ ⟨H246, (show List.map ResultD.abs (d62 ++ [(ResultD.mk r219.xFound r219.xValue (Sv.mk A226 c227 r219.xPairs.ls))]) = (l61 ++ [r219]) ∧ (k63 + 1) ≤ l1.length ∧ r218.length ≤ l0.length + (k63 + 1) ∧ List.length (l61 ++ [r219]) = (k63 + 1) ∧ List.length (l61 ++ [r219]) ≤ (k63 + 1) ∧ op_CheckMap r218 = 0 ∧ op_Apply_L0 l1 l0 ([]) = op_Apply_L0 (List.drop (k63 + 1) l1) r218 (l61 ++ [r219]) from ⟨by exact (abs_app (es := [(ResultD.mk r219.xFound r219.xValue (Sv.mk A226 c227 r219.xPairs.ls))]) (ms := [r219]) hi70 rfl), by omega, by omega, by omega, by omega, by exact cm_del hr220 (by assumption), Eq.trans (hq69) (Eq.trans (congrArg (fun q => op_Apply_L0 q l58 l61) hd82) (Eq.trans (if_neg h88) (Eq.trans (if_neg h141) (Eq.trans (if_pos h194) (bnd_of hr220)))))⟩)⟩ (by show l1.length - (k63 + 1) < l1.length - k63; omega)
  by_cases h247 : x78.xKind = 4
  obtain ⟨D248, HP249, ro250, bk251, rr252⟩ := Own.enter0 H87
  refine WL.do rfl (Do.call Try.call54 rfl (op_kindOf_4_ok _ _ x78.xKind HP249 (of_decide_eq_true (decide_eq_true h247))) ?_)
  rintro _ w254 ⟨rfl, HQ255⟩
  have H256 := bk251 _ _ HQ255
  refine Mv rfl rfl (Kn (v := .agg #[.bool false, .func (.func 75) #[] #[], .func (.func 76) #[] #[], .func (.func 77) #[] #[], .func (.func 78) #[] #[]]) rfl rfl rfl (fun _ => by kernel_rfl) (Kn (v := .bool true) rfl rfl rfl (fun _ => by kernel_rfl) ?_))
  refine WL.do rfl (Do.newP (cs := [.bool false, .nilFunc, .nilFunc, .nilFunc, .nilFunc]) (t := 95) H256 rfl rfl (fun _ => by kernel_rfl) ?_)
  intro g257 w258 H259
  refine WL.do0 (Do.store (vs := [.bool false, .func (.func 75) #[] #[], .func (.func 76) #[] #[], .func (.func 77) #[] #[], .func (.func 78) #[] #[]]) (o := 0) H259 rfl rfl Try.sizeOf95 rfl rfl rfl rfl ?_)
  intro w260 H261
  refine As rfl rfl (WL.nil (Fin.then (Wp.seq (Wp.region ?_))))
  refine WL.do rfl (Do.newP (cs := [.bool false, .string ⟨List.toArray ([])⟩, .slice none 0 0]) (t := 56) H261 rfl rfl (fun _ => by kernel_rfl) ?_)
  intro g262 w263 H264
  refine WL.nil (Fin.then (Wp.seq (Wp.region (Kn (v := .pointer (some ⟨g257, 4, none⟩)) rfl rfl rfl (fun _ => by kernel_rfl) (WL.val (v := .func (.func 78) #[] #[]) rfl (Yl.load rfl (Lds.one Try.isAgg93 (Cls.of (H264.cls (i := 1) rfl) rfl))) (Mv rfl rfl (WL.val (v := .agg (OpD.cells x78).toArray) rfl (Yl.load rfl (Lds.agg (cs := (OpD.cells x78)) Try.isAgg74 Try.sizeOf74 ((H264.cls (i := 2) rfl).lit (k := 0) (m := 6) rfl))) ?_)))))))
  have H265 := H264.pick [3, 0, 1, 2, 4, 5] (by decide) rfl
  obtain ⟨⟨r271, r272⟩, hr273⟩ : ∃ q : (List PairD) × ResultT, op_scan l58 x78 = q := ⟨_, rfl⟩
  obtain ⟨D266, HP267, ro268, bk269, rr270⟩ := Own.enter1 H265
  refine WL.do rfl (Do.callV Try.call78 rfl rfl (op_scan_ok _ _ A56 l58.length c57 l58 x78 r271 r272 HP267 rfl (by omega) (by omega) (by exact op_bounds_le (by assumption) (by assumption) (by omega)) (by exact op_most (by assumption) (by omega)) hr273) ?_)
  rintro _ w274 ⟨A277, c278, A279, c280, rfl, HQ275, hk281⟩
  have H276 := bk269 _ _ HQ275
  have hb282 := H276.rowC (i := 0) rfl
  have hb283 := H276.rowC (i := 1) rfl
  replace hk281 : r271.length ≤ l58.length + 1 := hk281
  refine Mv rfl rfl (Kn (v := .slice A277 r271.length c278) rfl rfl rfl (fun _ => by kernel_rfl) (Kn (v := .agg #[.bool r272.xFound, .string ⟨List.toArray r272.xValue⟩, .slice A279 r272.xPairs.ls.length c280]) rfl rfl rfl (fun _ => by kernel_rfl) (As rfl rfl ?_)))
  have H284 := H276.pick [2, 0, 1, 3, 4, 5, 6] (by decide) rfl
  refine WL.do0 (Do.store (vs := [.bool r272.xFound, .string ⟨List.toArray r272.xValue⟩, .slice A279 r272.xPairs.ls.length c280]) (o := 0) H284 rfl rfl Try.sizeOf56 rfl rfl rfl rfl ?_)
  intro w285 H286
  refine WL.nil (Fin.then (Wp.region (Mv rfl rfl (WL.val (v := .agg #[.bool r272.xFound, .string ⟨List.toArray r272.xValue⟩, .slice A279 r272.xPairs.ls.length c280]) rfl (Yl.load rfl (Lds.agg (cs := [.bool r272.xFound, .string ⟨List.toArray r272.xValue⟩, .slice A279 r272.xPairs.ls.length c280]) Try.isAgg56 Try.sizeOf56 ((H286.cls (i := 0) rfl).lit (k := 0) (m := 3) rfl))) ?_))))
  refine WL.do rfl (Do.newRow (cs := [.bool r272.xFound, .string ⟨List.toArray r272.xValue⟩, .slice A279 r272.xPairs.ls.length c280]) (t := 56) (sz := 3) (m := 1) H286 rfl rfl (fun _ => by kernel_rfl) rfl (by decide) ?_)
  intro A287 w288 H289
  replace H289 : Own w D w288 [row A287 1 1 (List.flatMap ResultD.cells ([(ResultD.mk r272.xFound r272.xValue (Sv.mk A279 c280 r272.xPairs.ls))])) 56 3, blk g262 [.bool r272.xFound, .string ⟨List.toArray r272.xValue⟩, .slice A279 r272.xPairs.ls.length c280] 56, row A277 r271.length c278 (List.flatMap PairD.cells r271) 58 2, row A279 r272.xPairs.ls.length c280 (List.flatMap PairD.cells r272.xPairs.ls) 58 2, blk g257 [.bool false, .func (.func 75) #[] #[], .func (.func 76) #[] #[], .func (.func 77) #[] #[], .func (.func 78) #[] #[]] 95, blk g83 (OpD.cells x78) 74, row A59 l61.length c60 (List.flatMap ResultD.cells d62) 56 3, sepL (List.flatMap ResultD.own d62)] := H289
  have H290 := H289.pick [6, 7, 3, 0, 1, 2, 4, 5] (by decide) rfl
  refine WL.do rfl (Do.appendW (k := l61.length) (m := 1) (El49) H290 rfl rfl (src_of Try.underlying49 (H290.rds (i := 3) rfl) (flat_one ResultD.one ([(ResultD.mk r272.xFound r272.xValue (Sv.mk A279 c280 r272.xPairs.ls))]))) rfl (by omega) (s := List.length (l61 ++ [r272])) (by first | omega | (simp only [List.length_append, List.length_cons, List.length_nil] <;> omega)) (List.flatMap_append).symm ?_)
  intro A291 c292 w293 H294
  have H295 := H294.pick [1, 2, 0, 3, 4, 5, 6, 7] (by decide) rfl
  have H296 : Own w D w293 [sepL (List.flatMap ResultD.own (d62 ++ [(ResultD.mk r272.xFound r272.xValue (Sv.mk A279 c280 r272.xPairs.ls))])), row A291 (List.length (l61 ++ [r272])) c292 (List.flatMap ResultD.cells (d62 ++ [(ResultD.mk r272.xFound r272.xValue (Sv.mk A279 c280 r272.xPairs.ls))])) 56 3, row A287 1 1 (List.flatMap ResultD.cells ([(ResultD.mk r272.xFound r272.xValue (Sv.mk A279 c280 r272.xPairs.ls))])) 56 3, blk g262 [.bool r272.xFound, .string ⟨List.toArray r272.xValue⟩, .slice A279 r272.xPairs.ls.length c280] 56, row A277 r271.length c278 (List.flatMap PairD.cells r271) 58 2, blk g257 [.bool false, .func (.func 75) #[] #[], .func (.func 76) #[] #[], .func (.func 77) #[] #[], .func (.func 78) #[] #[]] 95, blk g83 (OpD.cells x78) 74] := H295.sepAdd (L2 := [row A279 r272.xPairs.ls.length c280 (List.flatMap PairD.cells r272.xPairs.ls) 58 2]) (List.flatMap_append (f := ResultD.own) (xs := d62) (ys := [(ResultD.mk r272.xFound r272.xValue (Sv.mk A279 c280 r272.xPairs.ls))])).symm
  have hl297 : List.length (l61 ++ [r272]) = l61.length + 1 := by simp only [List.length_append, List.length_cons, List.length_nil]
  have hl298 := abs_len (abs_app (es := [(ResultD.mk r272.xFound r272.xValue (Sv.mk A279 c280 r272.xPairs.ls))]) (ms := [r272]) hi70 rfl)
  refine As rfl rfl (WL.nil (Fin.blockN (Fin.then (Wp.region (WL.val (v := .int .i64 ((k63 + 1 : Nat) : Int)) rfl (Yl.int (e := IntKind.i64.wrap (((k63 : Nat) : Int) + 1)) (Yl.kern rfl rfl (fun _ => by kernel_rfl)) (by rw [IntWalk.i64_in _ (by omega)]; omega)) (Mv rfl rfl (WL.nil ?_)))))))
  have H299 := H296.pick [4, 1, 0] (by decide) rfl
  exact Fin.round (A277, c278, r271, A291, c292, (d62 ++ [(ResultD.mk r272.xFound r272.xValue (Sv.mk A279 c280 r272.xPairs.ls))]), (l61 ++ [r272]), k63 + 1) ⟨rfl, rfl, rfl, rfl, rfl, rfl, rfl, rfl, trivial⟩ ⟨H299, (show List.map ResultD.abs (d62 ++ [(ResultD.mk r272.xFound r272.xValue (Sv.mk A279 c280 r272.xPairs.ls))]) = (l61 ++ [r272]) ∧ (k63 + 1) ≤ l1.length ∧ r271.length ≤ l0.length + (k63 + 1) ∧ List.length (l61 ++ [r272]) = (k63 + 1) ∧ List.length (l61 ++ [r272]) ≤ (k63 + 1) ∧ op_CheckMap r271 = 0 ∧ op_Apply_L0 l1 l0 ([]) = op_Apply_L0 (List.drop (k63 + 1) l1) r271 (l61 ++ [r272]) from ⟨by exact (abs_app (es := [(ResultD.mk r272.xFound r272.xValue (Sv.mk A279 c280 r272.xPairs.ls))]) (ms := [r272]) hi70 rfl), by omega, by omega, by omega, by omega, by exact cm_scan hr273 (by assumption) (by assumption) (by omega), Eq.trans (hq69) (Eq.trans (congrArg (fun q => op_Apply_L0 q l58 l61) hd82) (Eq.trans (if_neg h88) (Eq.trans (if_neg h141) (Eq.trans (if_neg h194) (Eq.trans (if_pos h247) (bnd_of hr273))))))⟩)⟩ (by show l1.length - (k63 + 1) < l1.length - k63; omega)
  have hb300 : (decide (x78.xKind = 5)) = true := (decide_eq_true (by omega))
  obtain ⟨D301, HP302, ro303, bk304, rr305⟩ := Own.enter0 H87
  refine WL.do rfl (Do.call Try.call54 rfl (op_kindOf_5_ok _ _ x78.xKind HP302 (of_decide_eq_true hb300)) ?_)
  rintro _ w307 ⟨rfl, HQ308⟩
  have H309 := bk304 _ _ HQ308
  refine Mv rfl rfl (Kn (v := .agg #[.bool true, .func (.func 79) #[] #[], .func (.func 80) #[] #[], .func (.func 77) #[] #[], .func (.func 81) #[] #[]]) rfl rfl rfl (fun _ => by kernel_rfl) (Kn (v := .bool true) rfl rfl rfl (fun _ => by kernel_rfl) ?_))
  refine WL.do rfl (Do.newP (cs := [.bool false, .nilFunc, .nilFunc, .nilFunc, .nilFunc]) (t := 95) H309 rfl rfl (fun _ => by kernel_rfl) ?_)
  intro g310 w311 H312
  refine WL.do0 (Do.store (vs := [.bool true, .func (.func 79) #[] #[], .func (.func 80) #[] #[], .func (.func 77) #[] #[], .func (.func 81) #[] #[]]) (o := 0) H312 rfl rfl Try.sizeOf95 rfl rfl rfl rfl ?_)
  intro w313 H314
  refine As rfl rfl (WL.nil (Fin.then (Wp.seq (Wp.region ?_))))
  refine WL.do rfl (Do.newP (cs := [.bool false, .string ⟨List.toArray ([])⟩, .slice none 0 0]) (t := 56) H314 rfl rfl (fun _ => by kernel_rfl) ?_)
  intro g315 w316 H317
  refine WL.nil (Fin.then (Wp.seq (Wp.region (Kn (v := .pointer (some ⟨g310, 4, none⟩)) rfl rfl rfl (fun _ => by kernel_rfl) (WL.val (v := .func (.func 81) #[] #[]) rfl (Yl.load rfl (Lds.one Try.isAgg93 (Cls.of (H317.cls (i := 1) rfl) rfl))) (Mv rfl rfl (WL.val (v := .agg (OpD.cells x78).toArray) rfl (Yl.load rfl (Lds.agg (cs := (OpD.cells x78)) Try.isAgg74 Try.sizeOf74 ((H317.cls (i := 2) rfl).lit (k := 0) (m := 6) rfl))) ?_)))))))
  have H318 := H317.pick [3, 0, 1, 2, 4, 5] (by decide) rfl
  obtain ⟨⟨r324, r325⟩, hr326⟩ : ∃ q : (List PairD) × ResultT, op_wipe l58 x78 = q := ⟨_, rfl⟩
  obtain ⟨D319, HP320, ro321, bk322, rr323⟩ := Own.enter1 H318
  refine WL.do rfl (Do.callV Try.call81 rfl rfl (op_wipe_ok _ _ A56 l58.length c57 l58 x78 r324 r325 HP320 rfl (by omega) (by omega) (by exact op_bounds_le (by assumption) (by assumption) (by omega)) hr326) ?_)
  rintro _ w327 ⟨A330, c331, A332, c333, rfl, HQ328, hk334⟩
  have H329 := bk322 _ _ HQ328
  have hb335 := H329.rowC (i := 0) rfl
  have hb336 := H329.rowC (i := 1) rfl
  replace hk334 : r324.length ≤ l58.length + 1 := hk334
  refine Mv rfl rfl (Kn (v := .slice A330 r324.length c331) rfl rfl rfl (fun _ => by kernel_rfl) (Kn (v := .agg #[.bool r325.xFound, .string ⟨List.toArray r325.xValue⟩, .slice A332 r325.xPairs.ls.length c333]) rfl rfl rfl (fun _ => by kernel_rfl) (As rfl rfl ?_)))
  have H337 := H329.pick [2, 0, 1, 3, 4, 5, 6] (by decide) rfl
  refine WL.do0 (Do.store (vs := [.bool r325.xFound, .string ⟨List.toArray r325.xValue⟩, .slice A332 r325.xPairs.ls.length c333]) (o := 0) H337 rfl rfl Try.sizeOf56 rfl rfl rfl rfl ?_)
  intro w338 H339
  refine WL.nil (Fin.then (Wp.region (Mv rfl rfl (WL.val (v := .agg #[.bool r325.xFound, .string ⟨List.toArray r325.xValue⟩, .slice A332 r325.xPairs.ls.length c333]) rfl (Yl.load rfl (Lds.agg (cs := [.bool r325.xFound, .string ⟨List.toArray r325.xValue⟩, .slice A332 r325.xPairs.ls.length c333]) Try.isAgg56 Try.sizeOf56 ((H339.cls (i := 0) rfl).lit (k := 0) (m := 3) rfl))) ?_))))
  refine WL.do rfl (Do.newRow (cs := [.bool r325.xFound, .string ⟨List.toArray r325.xValue⟩, .slice A332 r325.xPairs.ls.length c333]) (t := 56) (sz := 3) (m := 1) H339 rfl rfl (fun _ => by kernel_rfl) rfl (by decide) ?_)
  intro A340 w341 H342
  replace H342 : Own w D w341 [row A340 1 1 (List.flatMap ResultD.cells ([(ResultD.mk r325.xFound r325.xValue (Sv.mk A332 c333 r325.xPairs.ls))])) 56 3, blk g315 [.bool r325.xFound, .string ⟨List.toArray r325.xValue⟩, .slice A332 r325.xPairs.ls.length c333] 56, row A330 r324.length c331 (List.flatMap PairD.cells r324) 58 2, row A332 r325.xPairs.ls.length c333 (List.flatMap PairD.cells r325.xPairs.ls) 58 2, blk g310 [.bool true, .func (.func 79) #[] #[], .func (.func 80) #[] #[], .func (.func 77) #[] #[], .func (.func 81) #[] #[]] 95, blk g83 (OpD.cells x78) 74, row A59 l61.length c60 (List.flatMap ResultD.cells d62) 56 3, sepL (List.flatMap ResultD.own d62)] := H342
  have H343 := H342.pick [6, 7, 3, 0, 1, 2, 4, 5] (by decide) rfl
  refine WL.do rfl (Do.appendW (k := l61.length) (m := 1) (El49) H343 rfl rfl (src_of Try.underlying49 (H343.rds (i := 3) rfl) (flat_one ResultD.one ([(ResultD.mk r325.xFound r325.xValue (Sv.mk A332 c333 r325.xPairs.ls))]))) rfl (by omega) (s := List.length (l61 ++ [r325])) (by first | omega | (simp only [List.length_append, List.length_cons, List.length_nil] <;> omega)) (List.flatMap_append).symm ?_)
  intro A344 c345 w346 H347
  have H348 := H347.pick [1, 2, 0, 3, 4, 5, 6, 7] (by decide) rfl
  have H349 : Own w D w346 [sepL (List.flatMap ResultD.own (d62 ++ [(ResultD.mk r325.xFound r325.xValue (Sv.mk A332 c333 r325.xPairs.ls))])), row A344 (List.length (l61 ++ [r325])) c345 (List.flatMap ResultD.cells (d62 ++ [(ResultD.mk r325.xFound r325.xValue (Sv.mk A332 c333 r325.xPairs.ls))])) 56 3, row A340 1 1 (List.flatMap ResultD.cells ([(ResultD.mk r325.xFound r325.xValue (Sv.mk A332 c333 r325.xPairs.ls))])) 56 3, blk g315 [.bool r325.xFound, .string ⟨List.toArray r325.xValue⟩, .slice A332 r325.xPairs.ls.length c333] 56, row A330 r324.length c331 (List.flatMap PairD.cells r324) 58 2, blk g310 [.bool true, .func (.func 79) #[] #[], .func (.func 80) #[] #[], .func (.func 77) #[] #[], .func (.func 81) #[] #[]] 95, blk g83 (OpD.cells x78) 74] := H348.sepAdd (L2 := [row A332 r325.xPairs.ls.length c333 (List.flatMap PairD.cells r325.xPairs.ls) 58 2]) (List.flatMap_append (f := ResultD.own) (xs := d62) (ys := [(ResultD.mk r325.xFound r325.xValue (Sv.mk A332 c333 r325.xPairs.ls))])).symm
  have hl350 : List.length (l61 ++ [r325]) = l61.length + 1 := by simp only [List.length_append, List.length_cons, List.length_nil]
  have hl351 := abs_len (abs_app (es := [(ResultD.mk r325.xFound r325.xValue (Sv.mk A332 c333 r325.xPairs.ls))]) (ms := [r325]) hi70 rfl)
  refine As rfl rfl (WL.nil (Fin.blockN (Fin.then (Wp.region (WL.val (v := .int .i64 ((k63 + 1 : Nat) : Int)) rfl (Yl.int (e := IntKind.i64.wrap (((k63 : Nat) : Int) + 1)) (Yl.kern rfl rfl (fun _ => by kernel_rfl)) (by rw [IntWalk.i64_in _ (by omega)]; omega)) (Mv rfl rfl (WL.nil ?_)))))))
  have H352 := H349.pick [4, 1, 0] (by decide) rfl
  exact Fin.round (A330, c331, r324, A344, c345, (d62 ++ [(ResultD.mk r325.xFound r325.xValue (Sv.mk A332 c333 r325.xPairs.ls))]), (l61 ++ [r325]), k63 + 1) ⟨rfl, rfl, rfl, rfl, rfl, rfl, rfl, rfl, trivial⟩ ⟨H352, (show List.map ResultD.abs (d62 ++ [(ResultD.mk r325.xFound r325.xValue (Sv.mk A332 c333 r325.xPairs.ls))]) = (l61 ++ [r325]) ∧ (k63 + 1) ≤ l1.length ∧ r324.length ≤ l0.length + (k63 + 1) ∧ List.length (l61 ++ [r325]) = (k63 + 1) ∧ List.length (l61 ++ [r325]) ≤ (k63 + 1) ∧ op_CheckMap r324 = 0 ∧ op_Apply_L0 l1 l0 ([]) = op_Apply_L0 (List.drop (k63 + 1) l1) r324 (l61 ++ [r325]) from ⟨by exact (abs_app (es := [(ResultD.mk r325.xFound r325.xValue (Sv.mk A332 c333 r325.xPairs.ls))]) (ms := [r325]) hi70 rfl), by omega, by omega, by omega, by omega, by exact cm_wipe hr326 (by assumption) (by assumption) (by omega), Eq.trans (hq69) (Eq.trans (congrArg (fun q => op_Apply_L0 q l58 l61) hd82) (Eq.trans (if_neg h88) (Eq.trans (if_neg h141) (Eq.trans (if_neg h194) (Eq.trans (if_neg h247) (bnd_of hr326))))))⟩)⟩ (by show l1.length - (k63 + 1) < l1.length - k63; omega)
  refine Wp.cond0 rfl (decide_eq_false h77) (Wp.exit (Fin.thenX ?_))
  have hL353 : op_Apply_L0 l1 l0 ([]) = (l58, l61) := Eq.trans (hq69) (Eq.trans (congrArg (fun q => op_Apply_L0 q l58 l61) (drop_end (ls := l1) (i := k63) (by omega))) rfl)
  refine Fin.thenX (Fin.blockX (Fin.then (Wp.seq (Wp.region (Mv rfl rfl (Mv rfl rfl (As rfl rfl (As rfl rfl (As rfl rfl (WL.nil (Fin.then (Wp.ret (Fin.res (res3 rfl rfl rfl rfl) ?_)))))))))))))
  have H354 := H67.pick [0, 1, 2] (by decide) rfl
  have e : op_Apply l0 l1 = (l58, l61, 0) := Eq.trans (bnd_of hr27) (Eq.trans (if_pos h31) (Eq.trans (bnd_of hr38) (Eq.trans (if_pos h42) (bnd_of hL353))))
  obtain ⟨rfl, rfl, rfl⟩ := pj3 (e.symm.trans hr)
  exact ⟨A56, c57, A59, c60, d62, rfl, H354, hi70, (by first | omega | exact Nat.zero_le _), (by first | omega | exact Nat.zero_le _)⟩
  refine Wp.cond1 rfl (decide_eq_true h42) (Wp.seq (Wp.region (Mv rfl rfl (As rfl rfl (As rfl rfl (As rfl rfl (WL.nil (Fin.then (Wp.ret (Fin.thenR (Fin.res (res3 rfl rfl rfl rfl) ?_)))))))))))
  have H355 : Own w D w39 [row none 0 0 (List.flatMap PairD.cells ([])) 58 2] := H41.free (row_nil 58 2)
  have H356 : Own w D w39 [sepL (List.flatMap ResultD.own ([])), row none 0 0 (List.flatMap PairD.cells ([])) 58 2] := H355.sepNil
  have H357 : Own w D w39 [row none 0 0 (List.flatMap ResultD.cells ([])) 56 3, sepL (List.flatMap ResultD.own ([])), row none 0 0 (List.flatMap PairD.cells ([])) 58 2] := H356.free (row_nil 56 3)
  have H358 := H357.pick [2, 0, 1] (by decide) rfl
  have e : op_Apply l0 l1 = ([], [], r37) := Eq.trans (bnd_of hr27) (Eq.trans (if_pos h31) (Eq.trans (bnd_of hr38) (if_neg h42)))
  obtain ⟨rfl, rfl, rfl⟩ := pj3 (e.symm.trans hr)
  exact ⟨none, 0, none, 0, [], rfl, H358, rfl, (by first | omega | exact Nat.zero_le _), (by first | omega | exact Nat.zero_le _)⟩
  refine Wp.cond1 rfl (decide_eq_true h31) (Wp.seq (Wp.region (Mv rfl rfl (As rfl rfl (As rfl rfl (As rfl rfl (WL.nil (Fin.then (Wp.ret (Fin.thenR (Fin.res (res3 rfl rfl rfl rfl) ?_)))))))))))
  have H359 : Own w D w28 [row none 0 0 (List.flatMap PairD.cells ([])) 58 2] := H30.free (row_nil 58 2)
  have H360 : Own w D w28 [sepL (List.flatMap ResultD.own ([])), row none 0 0 (List.flatMap PairD.cells ([])) 58 2] := H359.sepNil
  have H361 : Own w D w28 [row none 0 0 (List.flatMap ResultD.cells ([])) 56 3, sepL (List.flatMap ResultD.own ([])), row none 0 0 (List.flatMap PairD.cells ([])) 58 2] := H360.free (row_nil 56 3)
  have H362 := H361.pick [2, 0, 1] (by decide) rfl
  have e : op_Apply l0 l1 = ([], [], r26) := Eq.trans (bnd_of hr27) (if_neg h31)
  obtain ⟨rfl, rfl, rfl⟩ := pj3 (e.symm.trans hr)
  exact ⟨none, 0, none, 0, [], rfl, H362, rfl, (by first | omega | exact Nat.zero_le _), (by first | omega | exact Nat.zero_le _)⟩
end Go.Proofs.Ytcjjblkgbfaapaa
