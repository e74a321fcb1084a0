/-
  node: the law NodeSizes
-/
import Derived.Test.YtfkkipmdnjfocaaDw
namespace Go.Proofs.Ytfkkipmdnjfocaa
open Go.RowKit
set_option linter.unusedVariables false
set_option linter.unusedSectionVars false
set_option linter.unusedSimpArgs false

def w13_NodeSizes (p0 : NodeT) : Bool :=
  bnd (w13_live) fun yr29 => bnd (node_Size p0) fun yr39 => bnd (node_Encode p0) fun yr50 => bnd (node_Check p0) fun yr65 => if yr65 = 0 then if yr39.1 > 480 then if yr29 = true then if yr39.2 = 0 then if yr50.2 = 2 then decide (((List.length yr50.1 : Nat) : Int) = 0) else false else false else false else if yr29 = true then if yr39.2 = 0 then if yr50.2 = 0 then decide (((List.length yr50.1 : Nat) : Int) = yr39.1) else false else false else false else if yr29 = true then bnd (node_Check p0) fun yr92 => if yr39.2 = yr92 then if yr50.2 = yr39.2 then if yr39.1 = 0 then decide (((List.length yr50.1 : Nat) : Int) = 0) else false else false else false else false

set_option maxRecDepth 100000 in
set_option maxHeartbeats 1000000 in
theorem w13_NodeSizes_ok (w : World) (D : Nat → Prop) (p0 : NodeT) (A0x0 : Option Addr) (n0x0 c0x0 : Nat) (A0x1 : Option Addr) (n0x1 c0x1 : Nat) (A0x2 : Option Addr) (n0x2 c0x2 : Nat) (A0x3 : Option Addr) (n0x3 c0x3 : Nat) (d0x3 : List Row44D) (r0 : Bool) (H : Own w D w []) (hn0x0 : n0x0 = List.length p0.xPairs.ls) (hx0x0 : Ro w D fun w' => Rds w' 2 A0x0 (List.length p0.xPairs.ls) (List.flatMap PairD.cells p0.xPairs.ls)) (hb0x0 : List.length p0.xPairs.ls ≤ c0x0 ∧ List.length p0.xPairs.ls ≤ 9223372036854775807) (hn0x1 : n0x1 = List.length p0.xKids.ls) (hx0x1 : Ro w D fun w' => Rds w' 1 A0x1 (List.length p0.xKids.ls) (List.flatMap (eI .i64) p0.xKids.ls)) (hb0x1 : List.length p0.xKids.ls ≤ c0x1 ∧ List.length p0.xKids.ls ≤ 9223372036854775807) (hn0x2 : n0x2 = List.length p0.xPivots.ls) (hx0x2 : Ro w D fun w' => Rds w' 1 A0x2 (List.length p0.xPivots.ls) (List.flatMap eS p0.xPivots.ls)) (hb0x2 : List.length p0.xPivots.ls ≤ c0x2 ∧ List.length p0.xPivots.ls ≤ 9223372036854775807) (hd0x3 : List.map Row44D.abs d0x3 = p0.xBuffers.ls) (hn0x3 : n0x3 = List.length p0.xBuffers.ls) (hx0x3 : Ro w D fun w' => Rds w' 1 A0x3 (List.length p0.xBuffers.ls) (List.flatMap (Sv.enc (β := EntryD)) d0x3)) (hb0x3 : List.length p0.xBuffers.ls ≤ c0x3 ∧ List.length p0.xBuffers.ls ≤ 9223372036854775807) (hm0x3 : ∀ x ∈ d0x3, Ro w D (fun w' => Rds w' 7 x.A (List.length x.ls) (List.flatMap EntryD.cells x.ls)) ∧ List.length x.ls ≤ 9223372036854775807) (hh0 : List.length p0.xPairs.ls * 32 ≤ 140737488351232) (hh1 : List.length p0.xKids.ls * 8 ≤ 140737488351232) (hh2 : List.length p0.xPivots.ls * 16 ≤ 140737488351232) (hh3 : List.length p0.xBuffers.ls * 24 ≤ 140737488351232) (hh4 : ((List.length p0.xPairs.ls ≤ 1048576 ∧ ∀ x ∈ p0.xPairs.ls, List.length x.xKey ≤ 1048576 ∧ List.length x.xValue ≤ 1048576) ∧ (∀ x ∈ p0.xPivots.ls, List.length x ≤ 1048576) ∧ ∀ b ∈ p0.xBuffers.ls, List.length b.ls ≤ 1048576 ∧ ∀ x ∈ b.ls, x.xSeq ≤ 18446744073709551615 ∧ List.length x.xOp.xKey ≤ 1048576 ∧ List.length x.xOp.xValue ≤ 1048576 ∧ List.length x.xOp.xLo ≤ 1048576 ∧ List.length x.xOp.xHi ≤ 1048576)) (hr : w13_NodeSizes p0 = r0) :
    Calls Try.prog 4 #[.agg #[.bool p0.xLeaf, .slice A0x0 n0x0 c0x0, .slice A0x1 n0x1 c0x1, .slice A0x2 n0x2 c0x2, .slice A0x3 n0x3 c0x3]] w (Ret fun v w' => v = .bool r0 ∧ Own w D w' []) := by
  subst hn0x0 hn0x1 hn0x2 hn0x3
  have hdl0x3 := abs_len hd0x3
  refine Calls.body (args := [.agg #[.bool p0.xLeaf, .slice A0x0 (List.length p0.xPairs.ls) c0x0, .slice A0x1 (List.length p0.xKids.ls) c0x1, .slice A0x2 (List.length p0.xPivots.ls) c0x2, .slice A0x3 (List.length p0.xBuffers.ls) c0x3]]) Try.func4 rfl rfl rfl ?_
  show Wp _ _ _ [(0, .agg #[.bool p0.xLeaf, .slice A0x0 (List.length p0.xPairs.ls) c0x0, .slice A0x1 (List.length p0.xKids.ls) c0x1, .slice A0x2 (List.length p0.xPivots.ls) c0x2, .slice A0x3 (List.length p0.xBuffers.ls) c0x3])] _ _
  refine Wp.seq (Wp.region ?_)
  refine WL.do rfl (Do.newP (cs := [.bool p0.xLeaf, .slice A0x0 (List.length p0.xPairs.ls) c0x0, .slice A0x1 (List.length p0.xKids.ls) c0x1, .slice A0x2 (List.length p0.xPivots.ls) c0x2, .slice A0x3 (List.length p0.xBuffers.ls) c0x3]) (t := 27) H rfl rfl (fun _ => by kernel_rfl) ?_)
  intro g21 w22 H23
  replace H23 : Own w D w22 [blk g21 [.bool p0.xLeaf, .slice A0x0 (List.length p0.xPairs.ls) c0x0, .slice A0x1 (List.length p0.xKids.ls) c0x1, .slice A0x2 (List.length p0.xPivots.ls) c0x2, .slice A0x3 (List.length p0.xBuffers.ls) c0x3] 27] := H23
  refine As rfl rfl (WL.nil (Fin.then (Wp.seq (Wp.region ?_))))
  obtain ⟨r29, hr30⟩ : ∃ q, w13_live = q := ⟨_, rfl⟩
  obtain ⟨D24, HP25, ro26, bk27, rr28⟩ := Own.enter0 H23
  refine WL.do rfl (Do.call Try.call5 rfl (w13_live_ok _ _ r29 HP25 hr30) ?_)
  rintro _ w31 ⟨rfl, HQ32⟩
  have H33 : Own w D w31 [blk g21 [.bool p0.xLeaf, .slice A0x0 (List.length p0.xPairs.ls) c0x0, .slice A0x1 (List.length p0.xKids.ls) c0x1, .slice A0x2 (List.length p0.xPivots.ls) c0x2, .slice A0x3 (List.length p0.xBuffers.ls) c0x3] 27] := bk27 _ _ HQ32
  refine As rfl rfl (WL.nil (Fin.then (Wp.seq (Wp.region (WL.val (v := .agg #[.bool p0.xLeaf, .slice A0x0 (List.length p0.xPairs.ls) c0x0, .slice A0x1 (List.length p0.xKids.ls) c0x1, .slice A0x2 (List.length p0.xPivots.ls) c0x2, .slice A0x3 (List.length p0.xBuffers.ls) c0x3]) rfl (Yl.load rfl (Lds.agg (cs := [.bool p0.xLeaf, .slice A0x0 (List.length p0.xPairs.ls) c0x0, .slice A0x1 (List.length p0.xKids.ls) c0x1, .slice A0x2 (List.length p0.xPivots.ls) c0x2, .slice A0x3 (List.length p0.xBuffers.ls) c0x3]) Try.isAgg27 Try.sizeOf27 ((H33.cls (i := 0) rfl).lit (k := 0) (m := 5) rfl))) ?_)))))
  obtain ⟨⟨r39, r40⟩, hr41⟩ : ∃ q : Int × Int, node_Size p0 = q := ⟨_, rfl⟩
  obtain ⟨D34, HP35, ro36, bk37, rr38⟩ := Own.enter0 H33
  refine WL.do rfl (Do.call Try.call8 rfl (node_Size_ok _ _ p0 A0x0 (List.length p0.xPairs.ls) c0x0 A0x1 (List.length p0.xKids.ls) c0x1 A0x2 (List.length p0.xPivots.ls) c0x2 A0x3 (List.length p0.xBuffers.ls) c0x3 d0x3 r39 r40 HP35 rfl (ro36 _ hx0x0) (by first | exact ⟨Nat.le_of_ble_eq_true rfl, Nat.le_of_ble_eq_true rfl⟩ | omega | exact ⟨Nat.le_refl _, by omega⟩) rfl (ro36 _ hx0x1) (by first | exact ⟨Nat.le_of_ble_eq_true rfl, Nat.le_of_ble_eq_true rfl⟩ | omega | exact ⟨Nat.le_refl _, by omega⟩) rfl (ro36 _ hx0x2) (by first | exact ⟨Nat.le_of_ble_eq_true rfl, Nat.le_of_ble_eq_true rfl⟩ | omega | exact ⟨Nat.le_refl _, by omega⟩) hd0x3 rfl (ro36 _ hx0x3) (by first | exact ⟨Nat.le_of_ble_eq_true rfl, Nat.le_of_ble_eq_true rfl⟩ | omega | exact ⟨Nat.le_refl _, by omega⟩) (fun x9 h9 => ⟨ro36 _ (hm0x3 x9 h9).1, (hm0x3 x9 h9).2⟩) (by first | assumption | decide) hr41) ?_)
  rintro _ w42 ⟨rfl, HQ43⟩
  have H44 : Own w D w42 [blk g21 [.bool p0.xLeaf, .slice A0x0 (List.length p0.xPairs.ls) c0x0, .slice A0x1 (List.length p0.xKids.ls) c0x1, .slice A0x2 (List.length p0.xPivots.ls) c0x2, .slice A0x3 (List.length p0.xBuffers.ls) c0x3] 27] := bk37 _ _ HQ43
  refine Mv rfl rfl (Kn (v := .int .i64 r39) rfl rfl rfl (fun _ => by kernel_rfl) (Kn (v := .int .i64 r40) rfl rfl rfl (fun _ => by kernel_rfl) (As rfl rfl (As rfl rfl (WL.nil (Fin.then (Wp.seq (Wp.region (WL.val (v := .agg #[.bool p0.xLeaf, .slice A0x0 (List.length p0.xPairs.ls) c0x0, .slice A0x1 (List.length p0.xKids.ls) c0x1, .slice A0x2 (List.length p0.xPivots.ls) c0x2, .slice A0x3 (List.length p0.xBuffers.ls) c0x3]) rfl (Yl.load rfl (Lds.agg (cs := [.bool p0.xLeaf, .slice A0x0 (List.length p0.xPairs.ls) c0x0, .slice A0x1 (List.length p0.xKids.ls) c0x1, .slice A0x2 (List.length p0.xPivots.ls) c0x2, .slice A0x3 (List.length p0.xBuffers.ls) c0x3]) Try.isAgg27 Try.sizeOf27 ((H44.cls (i := 0) rfl).lit (k := 0) (m := 5) rfl))) ?_)))))))))
  obtain ⟨⟨r50, r51⟩, hr52⟩ : ∃ q : (List UInt8) × Int, node_Encode p0 = q := ⟨_, rfl⟩
  obtain ⟨D45, HP46, ro47, bk48, rr49⟩ := Own.enter0 H44
  refine WL.do rfl (Do.call Try.call9 rfl (node_Encode_ok _ _ p0 A0x0 (List.length p0.xPairs.ls) c0x0 A0x1 (List.length p0.xKids.ls) c0x1 A0x2 (List.length p0.xPivots.ls) c0x2 A0x3 (List.length p0.xBuffers.ls) c0x3 d0x3 r50 r51 HP46 rfl (ro47 _ hx0x0) (by first | exact ⟨Nat.le_of_ble_eq_true rfl, Nat.le_of_ble_eq_true rfl⟩ | omega | exact ⟨Nat.le_refl _, by omega⟩) rfl (ro47 _ hx0x1) (by first | exact ⟨Nat.le_of_ble_eq_true rfl, Nat.le_of_ble_eq_true rfl⟩ | omega | exact ⟨Nat.le_refl _, by omega⟩) rfl (ro47 _ hx0x2) (by first | exact ⟨Nat.le_of_ble_eq_true rfl, Nat.le_of_ble_eq_true rfl⟩ | omega | exact ⟨Nat.le_refl _, by omega⟩) hd0x3 rfl (ro47 _ hx0x3) (by first | exact ⟨Nat.le_of_ble_eq_true rfl, Nat.le_of_ble_eq_true rfl⟩ | omega | exact ⟨Nat.le_refl _, by omega⟩) (fun x9 h9 => ⟨ro47 _ (hm0x3 x9 h9).1, (hm0x3 x9 h9).2⟩) (by first | assumption | decide) hr52) ?_)
  rintro _ w53 ⟨A56, c57, rfl, HQ54, hk58⟩
  have H55 : Own w D w53 [row A56 (List.length r50) c57 (List.flatMap eB r50) 5 1, blk g21 [.bool p0.xLeaf, .slice A0x0 (List.length p0.xPairs.ls) c0x0, .slice A0x1 (List.length p0.xKids.ls) c0x1, .slice A0x2 (List.length p0.xPivots.ls) c0x2, .slice A0x3 (List.length p0.xBuffers.ls) c0x3] 27] := bk48 _ _ HQ54
  have hb59 := H55.rowC (i := 0) rfl
  replace hk58 : List.length r50 ≤ 480 := hk58
  refine Mv rfl rfl (Kn (v := .slice A56 (List.length r50) c57) rfl rfl rfl (fun _ => by kernel_rfl) (Kn (v := .int .i64 r51) rfl rfl rfl (fun _ => by kernel_rfl) (As rfl rfl (As rfl rfl (WL.nil (Fin.then (Wp.seq (Wp.block (Wp.seq (Wp.region (WL.val (v := .agg #[.bool p0.xLeaf, .slice A0x0 (List.length p0.xPairs.ls) c0x0, .slice A0x1 (List.length p0.xKids.ls) c0x1, .slice A0x2 (List.length p0.xPivots.ls) c0x2, .slice A0x3 (List.length p0.xBuffers.ls) c0x3]) rfl (Yl.load rfl (Lds.agg (cs := [.bool p0.xLeaf, .slice A0x0 (List.length p0.xPairs.ls) c0x0, .slice A0x1 (List.length p0.xKids.ls) c0x1, .slice A0x2 (List.length p0.xPivots.ls) c0x2, .slice A0x3 (List.length p0.xBuffers.ls) c0x3]) Try.isAgg27 Try.sizeOf27 ((H55.cls (i := 1) rfl).lit (k := 0) (m := 5) rfl))) ?_)))))))))))
  obtain ⟨r65, hr66⟩ : ∃ q, node_Check p0 = q := ⟨_, rfl⟩
  obtain ⟨D60, HP61, ro62, bk63, rr64⟩ := Own.enter0 H55
  refine WL.do rfl (Do.call Try.call6 rfl (node_Check_ok _ _ p0 A0x0 (List.length p0.xPairs.ls) c0x0 A0x1 (List.length p0.xKids.ls) c0x1 A0x2 (List.length p0.xPivots.ls) c0x2 A0x3 (List.length p0.xBuffers.ls) c0x3 d0x3 r65 HP61 rfl (ro62 _ hx0x0) (by first | exact ⟨Nat.le_of_ble_eq_true rfl, Nat.le_of_ble_eq_true rfl⟩ | omega | exact ⟨Nat.le_refl _, by omega⟩) rfl (ro62 _ hx0x1) (by first | exact ⟨Nat.le_of_ble_eq_true rfl, Nat.le_of_ble_eq_true rfl⟩ | omega | exact ⟨Nat.le_refl _, by omega⟩) rfl (ro62 _ hx0x2) (by first | exact ⟨Nat.le_of_ble_eq_true rfl, Nat.le_of_ble_eq_true rfl⟩ | omega | exact ⟨Nat.le_refl _, by omega⟩) hd0x3 rfl (ro62 _ hx0x3) (by first | exact ⟨Nat.le_of_ble_eq_true rfl, Nat.le_of_ble_eq_true rfl⟩ | omega | exact ⟨Nat.le_refl _, by omega⟩) (fun x9 h9 => ⟨ro62 _ (hm0x3 x9 h9).1, (hm0x3 x9 h9).2⟩) hr66) ?_)
  rintro _ w67 ⟨rfl, HQ68⟩
  have H69 : Own w D w67 [row A56 (List.length r50) c57 (List.flatMap eB r50) 5 1, blk g21 [.bool p0.xLeaf, .slice A0x0 (List.length p0.xPairs.ls) c0x0, .slice A0x1 (List.length p0.xKids.ls) c0x1, .slice A0x2 (List.length p0.xPivots.ls) c0x2, .slice A0x3 (List.length p0.xBuffers.ls) c0x3] 27] := bk63 _ _ HQ68
  refine WL.val (v := .bool (decide (¬ (r65 = 0)))) rfl (Yl.bool (e := !(decide (r65 = 0))) (Yl.kern rfl rfl (fun _ => by kernel_rfl)) decide_not.symm) (As rfl rfl (WL.nil (Fin.then ?_)))
  by_cases h70 : r65 = 0
  refine Wp.cond0 rfl (decide_eq_false (not_not_intro h70)) (Wp.seq (Wp.region (Mv rfl rfl (Kn (v := .bool (decide (r39 > 480))) rfl rfl rfl (fun _ => by kernel_rfl) (As rfl rfl (WL.nil (Fin.then ?_)))))))
  by_cases h71 : r39 > 480
  refine Wp.cond1 rfl (decide_eq_true h71) (Wp.seq (Wp.region (Mv rfl rfl (Mv rfl rfl ?_))))
  rcases Bool.eq_false_or_eq_true (r29) with h72 | h72
  refine WL.valG (v := .int .i64 r40) rfl rfl h72 rfl (Yl.move rfl) (WL.valG (v := .bool (decide (r40 = 0))) rfl rfl h72 rfl (Yl.kern rfl rfl (fun _ => by kernel_rfl)) (WL.val (v := .bool (decide (r40 = 0))) rfl (Yl.pickT rfl h72 rfl) (Mv rfl rfl ?_)))
  by_cases h73 : r40 = 0
  refine WL.valG (v := .int .i64 r51) rfl rfl (decide_eq_true h73) rfl (Yl.move rfl) (WL.valG (v := .bool (decide (r51 = 2))) rfl rfl (decide_eq_true h73) rfl (Yl.kern rfl rfl (fun _ => by kernel_rfl)) (WL.val (v := .bool (decide (r51 = 2))) rfl (Yl.pickT rfl (decide_eq_true h73) rfl) (Mv rfl rfl ?_)))
  by_cases h74 : r51 = 2
  refine WL.valG (v := .slice A56 (List.length r50) c57) rfl rfl (decide_eq_true h74) rfl (Yl.move rfl) (WL.valG (v := .int .i64 ((List.length r50 : Nat) : Int)) rfl rfl (decide_eq_true h74) rfl (Yl.kern rfl rfl (fun _ => by kernel_rfl)) (WL.valG (v := .bool (decide (((List.length r50 : Nat) : Int) = 0))) rfl rfl (decide_eq_true h74) rfl (Yl.kern rfl rfl (fun _ => by kernel_rfl)) (WL.val (v := .bool (decide (((List.length r50 : Nat) : Int) = 0))) rfl (Yl.pickT rfl (decide_eq_true h74) rfl) (As rfl rfl (WL.nil (Fin.then (Wp.ret (Fin.blockR (Fin.thenR (Fin.res (res1 rfl rfl) ?_))))))))))
  have H75 : Own w D w67 [] := H69.pick [] (by decide) rfl
  have e : w13_NodeSizes p0 = decide (((List.length r50 : Nat) : Int) = 0) := Eq.trans (bnd_of hr30) (Eq.trans (bnd_of hr41) (Eq.trans (bnd_of hr52) (Eq.trans (bnd_of hr66) (Eq.trans (if_pos h70) (Eq.trans (if_pos h71) (Eq.trans (if_pos h72) (Eq.trans (if_pos h73) (if_pos h74))))))))
  obtain rfl := e.symm.trans hr
  exact ⟨rfl, H75⟩
  refine Sk rfl rfl (decide_eq_false h74) rfl (Sk rfl rfl (decide_eq_false h74) rfl (Sk rfl rfl (decide_eq_false h74) rfl (WL.val (v := .bool false) rfl (Yl.pickF rfl (decide_eq_false h74) rfl) (As rfl rfl (WL.nil (Fin.then (Wp.ret (Fin.blockR (Fin.thenR (Fin.res (res1 rfl rfl) ?_))))))))))
  have H76 : Own w D w67 [] := H69.pick [] (by decide) rfl
  have e : w13_NodeSizes p0 = false := Eq.trans (bnd_of hr30) (Eq.trans (bnd_of hr41) (Eq.trans (bnd_of hr52) (Eq.trans (bnd_of hr66) (Eq.trans (if_pos h70) (Eq.trans (if_pos h71) (Eq.trans (if_pos h72) (Eq.trans (if_pos h73) (if_neg h74))))))))
  obtain rfl := e.symm.trans hr
  exact ⟨rfl, H76⟩
  refine Sk rfl rfl (decide_eq_false h73) rfl (Sk rfl rfl (decide_eq_false h73) rfl (WL.val (v := .bool false) rfl (Yl.pickF rfl (decide_eq_false h73) rfl) (Mv rfl rfl (Sk rfl rfl rfl rfl (Sk rfl rfl rfl rfl (Sk rfl rfl rfl rfl (WL.val (v := .bool false) rfl (Yl.pickF rfl rfl rfl) (As rfl rfl (WL.nil (Fin.then (Wp.ret (Fin.blockR (Fin.thenR (Fin.res (res1 rfl rfl) ?_))))))))))))))
  have H77 : Own w D w67 [] := H69.pick [] (by decide) rfl
  have e : w13_NodeSizes p0 = false := Eq.trans (bnd_of hr30) (Eq.trans (bnd_of hr41) (Eq.trans (bnd_of hr52) (Eq.trans (bnd_of hr66) (Eq.trans (if_pos h70) (Eq.trans (if_pos h71) (Eq.trans (if_pos h72) (if_neg h73)))))))
  obtain rfl := e.symm.trans hr
  exact ⟨rfl, H77⟩
  refine Sk rfl rfl h72 rfl (Sk rfl rfl h72 rfl (WL.val (v := .bool false) rfl (Yl.pickF rfl h72 rfl) (Mv rfl rfl (Sk rfl rfl rfl rfl (Sk rfl rfl rfl rfl (WL.val (v := .bool false) rfl (Yl.pickF rfl rfl rfl) (Mv rfl rfl (Sk rfl rfl rfl rfl (Sk rfl rfl rfl rfl (Sk rfl rfl rfl rfl (WL.val (v := .bool false) rfl (Yl.pickF rfl rfl rfl) (As rfl rfl (WL.nil (Fin.then (Wp.ret (Fin.blockR (Fin.thenR (Fin.res (res1 rfl rfl) ?_))))))))))))))))))
  have H78 : Own w D w67 [] := H69.pick [] (by decide) rfl
  have e : w13_NodeSizes p0 = false := Eq.trans (bnd_of hr30) (Eq.trans (bnd_of hr41) (Eq.trans (bnd_of hr52) (Eq.trans (bnd_of hr66) (Eq.trans (if_pos h70) (Eq.trans (if_pos h71) (ifF h72))))))
  obtain rfl := e.symm.trans hr
  exact ⟨rfl, H78⟩
  refine Wp.cond0 rfl (decide_eq_false h71) (Wp.skip (Fin.blockN (Fin.then (Wp.seq (Wp.region (Mv rfl rfl (Mv rfl rfl ?_)))))))
  rcases Bool.eq_false_or_eq_true (r29) with h79 | h79
  refine WL.valG (v := .int .i64 r40) rfl rfl h79 rfl (Yl.move rfl) (WL.valG (v := .bool (decide (r40 = 0))) rfl rfl h79 rfl (Yl.kern rfl rfl (fun _ => by kernel_rfl)) (WL.val (v := .bool (decide (r40 = 0))) rfl (Yl.pickT rfl h79 rfl) (Mv rfl rfl ?_)))
  by_cases h80 : r40 = 0
  refine WL.valG (v := .int .i64 r51) rfl rfl (decide_eq_true h80) rfl (Yl.move rfl) (WL.valG (v := .bool (decide (r51 = 0))) rfl rfl (decide_eq_true h80) rfl (Yl.kern rfl rfl (fun _ => by kernel_rfl)) (WL.val (v := .bool (decide (r51 = 0))) rfl (Yl.pickT rfl (decide_eq_true h80) rfl) (Mv rfl rfl ?_)))
  by_cases h81 : r51 = 0
  refine WL.valG (v := .slice A56 (List.length r50) c57) rfl rfl (decide_eq_true h81) rfl (Yl.move rfl) (WL.valG (v := .int .i64 ((List.length r50 : Nat) : Int)) rfl rfl (decide_eq_true h81) rfl (Yl.kern rfl rfl (fun _ => by kernel_rfl)) (WL.valG (v := .int .i64 r39) rfl rfl (decide_eq_true h81) rfl (Yl.move rfl) (WL.valG (v := .bool (decide (((List.length r50 : Nat) : Int) = r39))) rfl rfl (decide_eq_true h81) rfl (Yl.kern rfl rfl (fun _ => by kernel_rfl)) (WL.val (v := .bool (decide (((List.length r50 : Nat) : Int) = r39))) rfl (Yl.pickT rfl (decide_eq_true h81) rfl) (As rfl rfl (WL.nil (Fin.then (Wp.ret (Fin.res (res1 rfl rfl) ?_)))))))))
  have H82 : Own w D w67 [] := H69.pick [] (by decide) rfl
  have e : w13_NodeSizes p0 = decide (((List.length r50 : Nat) : Int) = r39) := Eq.trans (bnd_of hr30) (Eq.trans (bnd_of hr41) (Eq.trans (bnd_of hr52) (Eq.trans (bnd_of hr66) (Eq.trans (if_pos h70) (Eq.trans (if_neg h71) (Eq.trans (if_pos h79) (Eq.trans (if_pos h80) (if_pos h81))))))))
  obtain rfl := e.symm.trans hr
  exact ⟨rfl, H82⟩
  refine Sk rfl rfl (decide_eq_false h81) rfl (Sk rfl rfl (decide_eq_false h81) rfl (Sk rfl rfl (decide_eq_false h81) rfl (Sk rfl rfl (decide_eq_false h81) rfl (WL.val (v := .bool false) rfl (Yl.pickF rfl (decide_eq_false h81) rfl) (As rfl rfl (WL.nil (Fin.then (Wp.ret (Fin.res (res1 rfl rfl) ?_)))))))))
  have H83 : Own w D w67 [] := H69.pick [] (by decide) rfl
  have e : w13_NodeSizes p0 = false := Eq.trans (bnd_of hr30) (Eq.trans (bnd_of hr41) (Eq.trans (bnd_of hr52) (Eq.trans (bnd_of hr66) (Eq.trans (if_pos h70) (Eq.trans (if_neg h71) (Eq.trans (if_pos h79) (Eq.trans (if_pos h80) (if_neg h81))))))))
  obtain rfl := e.symm.trans hr
  exact ⟨rfl, H83⟩
  refine Sk rfl rfl (decide_eq_false h80) rfl (Sk rfl rfl (decide_eq_false h80) rfl (WL.val (v := .bool false) rfl (Yl.pickF rfl (decide_eq_false h80) rfl) (Mv rfl rfl (Sk rfl rfl rfl rfl (Sk rfl rfl rfl rfl (Sk rfl rfl rfl rfl (Sk rfl rfl rfl rfl (WL.val (v := .bool false) rfl (Yl.pickF rfl rfl rfl) (As rfl rfl (WL.nil (Fin.then (Wp.ret (Fin.res (res1 rfl rfl) ?_)))))))))))))
  have H84 : Own w D w67 [] := H69.pick [] (by decide) rfl
  have e : w13_NodeSizes p0 = false := Eq.trans (bnd_of hr30) (Eq.trans (bnd_of hr41) (Eq.trans (bnd_of hr52) (Eq.trans (bnd_of hr66) (Eq.trans (if_pos h70) (Eq.trans (if_neg h71) (Eq.trans (if_pos h79) (if_neg h80)))))))
  obtain rfl := e.symm.trans hr
  exact ⟨rfl, H84⟩
  refine Sk rfl rfl h79 rfl (Sk rfl rfl h79 rfl (WL.val (v := .bool false) rfl (Yl.pickF rfl h79 rfl) (Mv rfl rfl (Sk rfl rfl rfl rfl (Sk rfl rfl rfl rfl (WL.val (v := .bool false) rfl (Yl.pickF rfl rfl rfl) (Mv rfl rfl (Sk rfl rfl rfl rfl (Sk rfl rfl rfl rfl (Sk rfl rfl rfl rfl (Sk rfl rfl rfl rfl (WL.val (v := .bool false) rfl (Yl.pickF rfl rfl rfl) (As rfl rfl (WL.nil (Fin.then (Wp.ret (Fin.res (res1 rfl rfl) ?_)))))))))))))))))
  have H85 : Own w D w67 [] := H69.pick [] (by decide) rfl
  have e : w13_NodeSizes p0 = false := Eq.trans (bnd_of hr30) (Eq.trans (bnd_of hr41) (Eq.trans (bnd_of hr52) (Eq.trans (bnd_of hr66) (Eq.trans (if_pos h70) (Eq.trans (if_neg h71) (ifF h79))))))
  obtain rfl := e.symm.trans hr
  exact ⟨rfl, H85⟩
  refine Wp.cond1 rfl (decide_eq_true h70) (Wp.seq (Wp.region (Mv rfl rfl (Mv rfl rfl ?_))))
  rcases Bool.eq_false_or_eq_true (r29) with h86 | h86
  refine WL.valG (v := .int .i64 r40) rfl rfl h86 rfl (Yl.move rfl) (WL.valG (v := .agg #[.bool p0.xLeaf, .slice A0x0 (List.length p0.xPairs.ls) c0x0, .slice A0x1 (List.length p0.xKids.ls) c0x1, .slice A0x2 (List.length p0.xPivots.ls) c0x2, .slice A0x3 (List.length p0.xBuffers.ls) c0x3]) rfl rfl h86 rfl (Yl.load rfl (Lds.agg (cs := [.bool p0.xLeaf, .slice A0x0 (List.length p0.xPairs.ls) c0x0, .slice A0x1 (List.length p0.xKids.ls) c0x1, .slice A0x2 (List.length p0.xPivots.ls) c0x2, .slice A0x3 (List.length p0.xBuffers.ls) c0x3]) Try.isAgg27 Try.sizeOf27 ((H69.cls (i := 1) rfl).lit (k := 0) (m := 5) rfl))) ?_)
  obtain ⟨r92, hr93⟩ : ∃ q, node_Check p0 = q := ⟨_, rfl⟩
  obtain ⟨D87, HP88, ro89, bk90, rr91⟩ := Own.enter0 H69
  refine WL.doG rfl rfl h86 rfl (Do.call Try.call6 rfl (node_Check_ok _ _ p0 A0x0 (List.length p0.xPairs.ls) c0x0 A0x1 (List.length p0.xKids.ls) c0x1 A0x2 (List.length p0.xPivots.ls) c0x2 A0x3 (List.length p0.xBuffers.ls) c0x3 d0x3 r92 HP88 rfl (ro89 _ hx0x0) (by first | exact ⟨Nat.le_of_ble_eq_true rfl, Nat.le_of_ble_eq_true rfl⟩ | omega | exact ⟨Nat.le_refl _, by omega⟩) rfl (ro89 _ hx0x1) (by first | exact ⟨Nat.le_of_ble_eq_true rfl, Nat.le_of_ble_eq_true rfl⟩ | omega | exact ⟨Nat.le_refl _, by omega⟩) rfl (ro89 _ hx0x2) (by first | exact ⟨Nat.le_of_ble_eq_true rfl, Nat.le_of_ble_eq_true rfl⟩ | omega | exact ⟨Nat.le_refl _, by omega⟩) hd0x3 rfl (ro89 _ hx0x3) (by first | exact ⟨Nat.le_of_ble_eq_true rfl, Nat.le_of_ble_eq_true rfl⟩ | omega | exact ⟨Nat.le_refl _, by omega⟩) (fun x9 h9 => ⟨ro89 _ (hm0x3 x9 h9).1, (hm0x3 x9 h9).2⟩) hr93) ?_)
  rintro _ w94 ⟨rfl, HQ95⟩
  have H96 : Own w D w94 [row A56 (List.length r50) c57 (List.flatMap eB r50) 5 1, blk g21 [.bool p0.xLeaf, .slice A0x0 (List.length p0.xPairs.ls) c0x0, .slice A0x1 (List.length p0.xKids.ls) c0x1, .slice A0x2 (List.length p0.xPivots.ls) c0x2, .slice A0x3 (List.length p0.xBuffers.ls) c0x3] 27] := bk90 _ _ HQ95
  refine WL.valG (v := .bool (decide (r40 = r92))) rfl rfl h86 rfl (Yl.kern rfl rfl (fun _ => by kernel_rfl)) (WL.val (v := .bool (decide (r40 = r92))) rfl (Yl.pickT rfl h86 rfl) (Mv rfl rfl ?_))
  by_cases h97 : r40 = r92
  refine WL.valG (v := .int .i64 r51) rfl rfl (decide_eq_true h97) rfl (Yl.move rfl) (WL.valG (v := .int .i64 r40) rfl rfl (decide_eq_true h97) rfl (Yl.move rfl) (WL.valG (v := .bool (decide (r51 = r40))) rfl rfl (decide_eq_true h97) rfl (Yl.kern rfl rfl (fun _ => by kernel_rfl)) (WL.val (v := .bool (decide (r51 = r40))) rfl (Yl.pickT rfl (decide_eq_true h97) rfl) (Mv rfl rfl ?_))))
  by_cases h98 : r51 = r40
  refine WL.valG (v := .int .i64 r39) rfl rfl (decide_eq_true h98) rfl (Yl.move rfl) (WL.valG (v := .bool (decide (r39 = 0))) rfl rfl (decide_eq_true h98) rfl (Yl.kern rfl rfl (fun _ => by kernel_rfl)) (WL.val (v := .bool (decide (r39 = 0))) rfl (Yl.pickT rfl (decide_eq_true h98) rfl) (Mv rfl rfl ?_)))
  by_cases h99 : r39 = 0
  refine WL.valG (v := .slice A56 (List.length r50) c57) rfl rfl (decide_eq_true h99) rfl (Yl.move rfl) (WL.valG (v := .int .i64 ((List.length r50 : Nat) : Int)) rfl rfl (decide_eq_true h99) rfl (Yl.kern rfl rfl (fun _ => by kernel_rfl)) (WL.valG (v := .bool (decide (((List.length r50 : Nat) : Int) = 0))) rfl rfl (decide_eq_true h99) rfl (Yl.kern rfl rfl (fun _ => by kernel_rfl)) (WL.val (v := .bool (decide (((List.length r50 : Nat) : Int) = 0))) rfl (Yl.pickT rfl (decide_eq_true h99) rfl) (As rfl rfl (WL.nil (Fin.then (Wp.ret (Fin.blockR (Fin.thenR (Fin.res (res1 rfl rfl) ?_))))))))))
  have H100 : Own w D w94 [] := H96.pick [] (by decide) rfl
  have e : w13_NodeSizes p0 = decide (((List.length r50 : Nat) : Int) = 0) := Eq.trans (bnd_of hr30) (Eq.trans (bnd_of hr41) (Eq.trans (bnd_of hr52) (Eq.trans (bnd_of hr66) (Eq.trans (if_neg h70) (Eq.trans (if_pos h86) (Eq.trans (bnd_of hr93) (Eq.trans (if_pos h97) (Eq.trans (if_pos h98) (if_pos h99)))))))))
  obtain rfl := e.symm.trans hr
  exact ⟨rfl, H100⟩
  refine Sk rfl rfl (decide_eq_false h99) rfl (Sk rfl rfl (decide_eq_false h99) rfl (Sk rfl rfl (decide_eq_false h99) rfl (WL.val (v := .bool false) rfl (Yl.pickF rfl (decide_eq_false h99) rfl) (As rfl rfl (WL.nil (Fin.then (Wp.ret (Fin.blockR (Fin.thenR (Fin.res (res1 rfl rfl) ?_))))))))))
  have H101 : Own w D w94 [] := H96.pick [] (by decide) rfl
  have e : w13_NodeSizes p0 = false := Eq.trans (bnd_of hr30) (Eq.trans (bnd_of hr41) (Eq.trans (bnd_of hr52) (Eq.trans (bnd_of hr66) (Eq.trans (if_neg h70) (Eq.trans (if_pos h86) (Eq.trans (bnd_of hr93) (Eq.trans (if_pos h97) (Eq.trans (if_pos h98) (if_neg h99)))))))))
  obtain rfl := e.symm.trans hr
  exact ⟨rfl, H101⟩
  refine Sk rfl rfl (decide_eq_false h98) rfl (Sk rfl rfl (decide_eq_false h98) rfl (WL.val (v := .bool false) rfl (Yl.pickF rfl (decide_eq_false h98) rfl) (Mv rfl rfl (Sk rfl rfl rfl rfl (Sk rfl rfl rfl rfl (Sk rfl rfl rfl rfl (WL.val (v := .bool false) rfl (Yl.pickF rfl rfl rfl) (As rfl rfl (WL.nil (Fin.then (Wp.ret (Fin.blockR (Fin.thenR (Fin.res (res1 rfl rfl) ?_))))))))))))))
  have H102 : Own w D w94 [] := H96.pick [] (by decide) rfl
  have e : w13_NodeSizes p0 = false := Eq.trans (bnd_of hr30) (Eq.trans (bnd_of hr41) (Eq.trans (bnd_of hr52) (Eq.trans (bnd_of hr66) (Eq.trans (if_neg h70) (Eq.trans (if_pos h86) (Eq.trans (bnd_of hr93) (Eq.trans (if_pos h97) (if_neg h98))))))))
  obtain rfl := e.symm.trans hr
  exact ⟨rfl, H102⟩
  refine Sk rfl rfl (decide_eq_false h97) rfl (Sk rfl rfl (decide_eq_false h97) rfl (Sk rfl rfl (decide_eq_false h97) rfl (WL.val (v := .bool false) rfl (Yl.pickF rfl (decide_eq_false h97) rfl) (Mv rfl rfl (Sk rfl rfl rfl rfl (Sk rfl rfl rfl rfl (WL.val (v := .bool false) rfl (Yl.pickF rfl rfl rfl) (Mv rfl rfl (Sk rfl rfl rfl rfl (Sk rfl rfl rfl rfl (Sk rfl rfl rfl rfl (WL.val (v := .bool false) rfl (Yl.pickF rfl rfl rfl) (As rfl rfl (WL.nil (Fin.then (Wp.ret (Fin.blockR (Fin.thenR (Fin.res (res1 rfl rfl) ?_)))))))))))))))))))
  have H103 : Own w D w94 [] := H96.pick [] (by decide) rfl
  have e : w13_NodeSizes p0 = false := Eq.trans (bnd_of hr30) (Eq.trans (bnd_of hr41) (Eq.trans (bnd_of hr52) (Eq.trans (bnd_of hr66) (Eq.trans (if_neg h70) (Eq.trans (if_pos h86) (Eq.trans (bnd_of hr93) (if_neg h97)))))))
  obtain rfl := e.symm.trans hr
  exact ⟨rfl, H103⟩
  refine Sk rfl rfl h86 rfl (Sk rfl rfl h86 rfl (Sk rfl rfl h86 rfl (Sk rfl rfl h86 rfl (WL.val (v := .bool false) rfl (Yl.pickF rfl h86 rfl) (Mv rfl rfl (Sk rfl rfl rfl rfl (Sk rfl rfl rfl rfl (Sk rfl rfl rfl rfl (WL.val (v := .bool false) rfl (Yl.pickF rfl rfl rfl) (Mv rfl rfl (Sk rfl rfl rfl rfl (Sk rfl rfl rfl rfl (WL.val (v := .bool false) rfl (Yl.pickF rfl rfl rfl) (Mv rfl rfl (Sk rfl rfl rfl rfl (Sk rfl rfl rfl rfl (Sk rfl rfl rfl rfl (WL.val (v := .bool false) rfl (Yl.pickF rfl rfl rfl) (As rfl rfl (WL.nil (Fin.then (Wp.ret (Fin.blockR (Fin.thenR (Fin.res (res1 rfl rfl) ?_)))))))))))))))))))))))))
  have H104 : Own w D w67 [] := H69.pick [] (by decide) rfl
  have e : w13_NodeSizes p0 = false := Eq.trans (bnd_of hr30) (Eq.trans (bnd_of hr41) (Eq.trans (bnd_of hr52) (Eq.trans (bnd_of hr66) (Eq.trans (if_neg h70) (ifF h86)))))
  obtain rfl := e.symm.trans hr
  exact ⟨rfl, H104⟩
end Go.Proofs.Ytfkkipmdnjfocaa
