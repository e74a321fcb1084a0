/-
 judge: the law JudgeBegins
-/
import Derived.Test.YtjcdgofegkngpaaJl
import Derived.Test.YtjcdgofegkngpaaWiX
namespace Go.Proofs.Ytjcdgofegkngpaa
open Go.RowKit
set_option linter.unusedVariables false
set_option linter.unusedSectionVars false
set_option linter.unusedSimpArgs false

def w23_JudgeBegins (l0 : List SeenT) (p1 : Int) : Bool :=
 bnd (w23_live) fun yr26 => if ((l0.length : Nat) : Int) > 100 then yr26 else bnd (judge_Judge l0) fun yr41 => if yr41.2 = 0 then if yr41.1 = (-1) then bnd (judge_Judge (List.take (Int.toNat (remI (((remI p1 (l0.length + 1)) + ((l0.length : Nat) : Int)) + 1) (l0.length + 1))) l0)) fun yr55 => if yr26 = true then if yr55.1 = (-1) then decide (yr55.2 = 0) else false else false else false else if yr41.1 < 0 then false else if yr41.1 ≥ ((l0.length : Nat) : Int) then false else bnd (judge_Judge (List.take (Int.toNat (remI (((remI p1 (l0.length + 1)) + ((l0.length : Nat) : Int)) + 1) (l0.length + 1))) l0)) fun yr77 => if remI (((remI p1 (l0.length + 1)) + ((l0.length : Nat) : Int)) + 1) (l0.length + 1) ≤ yr41.1 then if yr26 = true then if yr77.1 = (-1) then decide (yr77.2 = 0) else false else false else if yr26 = true then if yr77.1 = yr41.1 then decide (yr77.2 = yr41.2) else false else false

set_option maxRecDepth 100000 in
theorem w23_JudgeBegins_ok (w : World) (D : Nat → Prop) (A0 : Option Addr) (n0 c0 : Nat) (d0 : List SeenD) (l0 : List SeenT) (p1 : Int) (r0 : Bool) (H : Own w D w []) (hd0 : List.map SeenD.abs d0 = l0) (hx0 : Ro w D fun w' => Rds w' 6 A0 n0 (List.flatMap SeenD.cells d0)) (hm0 : ∀ x ∈ d0, Ro w D (fun w' => Rds w' 6 x.xOps.A x.xOps.ls.length (List.flatMap OpD.cells x.xOps.ls)) ∧ (x.xOps.ls.length ≤ x.xOps.c ∧ x.xOps.ls.length ≤ 9223372036854775807) ∧ Ro w D (fun w' => Rds w' 3 x.xResults.A x.xResults.ls.length (List.flatMap ResultD.cells x.xResults.ls)) ∧ (x.xResults.ls.length ≤ x.xResults.c ∧ x.xResults.ls.length ≤ 9223372036854775807) ∧ (∀ y1 ∈ x.xResults.ls, Ro w D (fun w' => Rds w' 2 y1.xPairs.A y1.xPairs.ls.length (List.flatMap PairD.cells y1.xPairs.ls)) ∧ (y1.xPairs.ls.length ≤ y1.xPairs.c ∧ y1.xPairs.ls.length ≤ 9223372036854775807))) (hn0 : n0 = l0.length) (hl0 : l0.length * 80 ≤ 211106232532992) (hq0 : l0.length ≤ c0) (hh0 : l0.length * 80 ≤ 140737488351232) (hh1 : (-9223372036854775808) ≤ p1 ∧ p1 ≤ 9223372036854775807) (hr : w23_JudgeBegins l0 p1 = r0) :
    Calls Try.prog 4 #[.slice A0 n0 c0, .int .i64 p1] w (Ret fun v w' => v = .bool r0 ∧ Own w D w' []) := by
 subst hn0
 have hdl0 := abs_len hd0
 refine Calls.body (args := [.slice A0 l0.length c0, .int .i64 p1]) Try.func4 rfl rfl rfl ?_
 show Wp _ _ _ [(0, .slice A0 l0.length c0), (1, .int .i64 p1)] _ _
 refine sr (Ar rfl ?_)
 obtain ⟨r26, hr27⟩ : ∃ q, w23_live = q := ⟨_, rfl⟩
 obtain ⟨D21, HP22, ro23, bk24, rr25⟩ := Own.enter0 H
 refine cl Try.call8 (w23_live_ok _ _ r26 HP22 hr27) ?_
 rintro _ w28 ⟨rfl, HQ29⟩
 have H30 := bk24 _ _ HQ29
 refine An rfl (Wp.seq (sr (Mz rfl (Kz (.int .i64 ((l0.length : Nat) : Int)) (Kz (.bool (decide (((l0.length : Nat) : Int) > 100))) (nt ?_))))))
 by_cases h31 : ((l0.length : Nat) : Int) > 100
 refine jT (dT h31) (sr (Mz rfl (An rfl (rt (tR (rs ?_))))))
 have H32 := H30.pk []
 obtain rfl : _ = r26 := hr.symm.trans (et (bnd_of hr27) (ip h31))
 exact ⟨rfl, H32⟩
 refine jF (dF h31) (sk (sr (Mz rfl (Mz rfl (Kz (.int .i64 ((l0.length : Nat) : Int)) (fw (.int .i64 ((l0.length + 1 : Nat) : Int)) (Yl.int (e := IntKind.i64.wrap (((l0.length : Nat) : Int) + 1)) yk (by rw [IntWalk.i64_in _ (by omega)]; omega)) ?_))))))
 have hz33 := remI_bd p1 (n := l0.length + 1) (by omega)
 refine fw (.int .i64 (remI p1 (l0.length + 1))) (Yl.remI rfl rfl (by omega)) (Mz rfl (Kz (.int .i64 ((l0.length : Nat) : Int)) (fw (.int .i64 ((remI p1 (l0.length + 1)) + ((l0.length : Nat) : Int))) (Yl.int (e := IntKind.i64.wrap ((remI p1 (l0.length + 1)) + ((l0.length : Nat) : Int))) yk (by rw [IntWalk.i64_in _ (by omega)])) (fw (.int .i64 (((remI p1 (l0.length + 1)) + ((l0.length : Nat) : Int)) + 1)) (Yl.int (e := IntKind.i64.wrap (((remI p1 (l0.length + 1)) + ((l0.length : Nat) : Int)) + 1)) yk (by rw [IntWalk.i64_in _ (by omega)])) (Mz rfl (Kz (.int .i64 ((l0.length : Nat) : Int)) (fw (.int .i64 ((l0.length + 1 : Nat) : Int)) (Yl.int (e := IntKind.i64.wrap (((l0.length : Nat) : Int) + 1)) yk (by rw [IntWalk.i64_in _ (by omega)]; omega)) ?_)))))))
 have hz34 := remI_bd (((remI p1 (l0.length + 1)) + ((l0.length : Nat) : Int)) + 1) (n := l0.length + 1) (by omega)
 have hz35 := remI_nn (a := ((remI p1 (l0.length + 1)) + ((l0.length : Nat) : Int)) + 1) (n := l0.length + 1) (by omega)
 refine fw (.int .i64 (remI (((remI p1 (l0.length + 1)) + ((l0.length : Nat) : Int)) + 1) (l0.length + 1))) (Yl.remI rfl rfl (by omega)) (Ar rfl (Mz rfl ?_))
 obtain ⟨⟨r41, r42⟩, hr43⟩ : ∃ q : Int × Int, judge_Judge l0 = q := ⟨_, rfl⟩
 obtain ⟨D36, HP37, ro38, bk39, rr40⟩ := Own.enter0 H30
 refine cl Try.call9 (judge_Judge_ok _ _ A0 l0.length c0 d0 l0 r41 r42 HP37 hd0 (ro38 _ hx0) (fun x9 h9 => ⟨ro38 _ (hm0 x9 h9).1, (hm0 x9 h9).2.1, ro38 _ (hm0 x9 h9).2.2.1, (hm0 x9 h9).2.2.2.1, (fun y1 k1 => ⟨ro38 _ ((hm0 x9 h9).2.2.2.2 y1 k1).1, ((hm0 x9 h9).2.2.2.2 y1 k1).2⟩)⟩) rfl (by omega) (by first | omega | exact Nat.le_of_ble_eq_true rfl | (simp only [List.length_take]; omega)) hr43) ?_
 rintro _ w44 ⟨rfl, HQ45⟩
 have H46 := bk39 _ _ HQ45
 refine Mz rfl (Kz (.int .i64 r41) (Kz (.int .i64 r42) (Az rfl (An rfl (Wp.seq (sr (Mz rfl (fw (.bool (decide (¬ (r42 = 0)))) (Yl.bool (e := !(decide (r42 = 0))) yk decide_not.symm) (Mz rfl ?_)))))))))
 by_cases h47 : r42 = 0
 refine Sk rfl rfl (dF (not_not_intro h47)) rfl (Sk rfl rfl (dF (not_not_intro h47)) rfl (Sk rfl rfl (dF (not_not_intro h47)) rfl (WL.skipU rfl rfl rfl (WL.skipU rfl rfl rfl (WL.skipU rfl rfl rfl (WL.skipU rfl rfl rfl (Sk rfl rfl (dF (not_not_intro h47)) rfl (fw (.bool false) (Yl.pickF rfl (dF (not_not_intro h47)) rfl) (Mz rfl (gw (.int .i64 r42) rfl (Yl.move rfl) (Gz (.bool (decide (r42 = 0))) rfl (gw (.bool (decide (r42 = 0))) rfl (Yl.move rfl) (gw (.int .i64 r41) (dT h47) (Yl.move rfl) (gw (.bool (decide (¬ (r41 = (-1))))) (dT h47) (Yl.bool (e := !(decide (r41 = (-1)))) yk decide_not.symm) (gw (.bool (decide (¬ (r41 = (-1))))) rfl (Yl.pickT rfl (dT h47) rfl) (fw (.bool (decide (¬ (r41 = (-1))))) (Yl.pickF rfl rfl rfl) (nt ?_)))))))))))))))))
 by_cases h48 : r41 = (-1)
 refine jF (dF (not_not_intro h48)) (sk (sr (Mz rfl (fw (.int .i64 ((Int.toNat (remI (((remI p1 (l0.length + 1)) + ((l0.length : Nat) : Int)) + 1) (l0.length + 1)) : Nat) : Int)) (Yl.int (e := remI (((remI p1 (l0.length + 1)) + ((l0.length : Nat) : Int)) + 1) (l0.length + 1)) (Yl.move rfl) (by omega)) (fw (.slice A0 (Int.toNat (remI (((remI p1 (l0.length + 1)) + ((l0.length : Nat) : Int)) + 1) (l0.length + 1))) c0) (Yl.cutTo (El22) rfl rfl (by omega)) ?_)))))
 have hz54 : Int.toNat (remI (((remI p1 (l0.length + 1)) + ((l0.length : Nat) : Int)) + 1) (l0.length + 1)) = List.length (List.take (Int.toNat (remI (((remI p1 (l0.length + 1)) + ((l0.length : Nat) : Int)) + 1) (l0.length + 1))) l0) := (by first | rfl | omega | (simp only [List.length_append, List.length_cons, List.length_nil, List.length_take, List.length_drop, List.length_set, List.length_replicate, List.length_map] <;> omega))
 obtain ⟨⟨r55, r56⟩, hr57⟩ : ∃ q : Int × Int, judge_Judge (List.take (Int.toNat (remI (((remI p1 (l0.length + 1)) + ((l0.length : Nat) : Int)) + 1) (l0.length + 1))) l0) = q := ⟨_, rfl⟩
 obtain ⟨D49, HP50, ro51, bk52, rr53⟩ := Own.enter0 H46
 refine cl Try.call9 (judge_Judge_ok _ _ A0 (Int.toNat (remI (((remI p1 (l0.length + 1)) + ((l0.length : Nat) : Int)) + 1) (l0.length + 1))) c0 (List.take (Int.toNat (remI (((remI p1 (l0.length + 1)) + ((l0.length : Nat) : Int)) + 1) (l0.length + 1))) d0) (List.take (Int.toNat (remI (((remI p1 (l0.length + 1)) + ((l0.length : Nat) : Int)) + 1) (l0.length + 1))) l0) r55 r56 HP50 (by rw [List.map_take, hd0]) (fun w9 h9 => Rds.toE (hi := Int.toNat (remI (((remI p1 (l0.length + 1)) + ((l0.length : Nat) : Int)) + 1) (l0.length + 1))) SeenD.len ((ro51 _ hx0) w9 h9) (by omega)) (fun x9 h9 => ⟨ro51 _ (hm0 x9 (List.mem_of_mem_take h9)).1, (hm0 x9 (List.mem_of_mem_take h9)).2.1, ro51 _ (hm0 x9 (List.mem_of_mem_take h9)).2.2.1, (hm0 x9 (List.mem_of_mem_take h9)).2.2.2.1, (fun y1 k1 => ⟨ro51 _ ((hm0 x9 (List.mem_of_mem_take h9)).2.2.2.2 y1 k1).1, ((hm0 x9 (List.mem_of_mem_take h9)).2.2.2.2 y1 k1).2⟩)⟩) (by first | rfl | omega | (simp only [List.length_append, List.length_cons, List.length_nil, List.length_take, List.length_drop, List.length_set, List.length_replicate, List.length_map] <;> omega)) (by first | omega | (simp only [List.length_append, List.length_cons, List.length_nil, List.length_take, List.length_drop, List.length_set]; omega)) (by first | omega | exact Nat.le_of_ble_eq_true rfl | (simp only [List.length_take]; omega)) hr57) ?_
 rintro _ w58 ⟨rfl, HQ59⟩
 have H60 := bk52 _ _ HQ59
 refine Mz rfl (Kz (.int .i64 r55) (Kz (.int .i64 r56) (Az rfl (An rfl (Wp.seq (sr (Mz rfl (Kz (.bool (decide (r42 = 0))) (Mz rfl (Sz (dT h47) (Sz (dT h47) (Sz (dT h47) (fw (.bool true) (Yl.pickT rfl (dT h47) rfl) (nt (jt (sr (Mz rfl (Mz rfl ?_))))))))))))))))))
 rcases Bool.eq_false_or_eq_true (r26) with h61 | h61
 refine WL.valG (v := .int .i64 r55) rfl rfl h61 rfl (Yl.move rfl) (Gz (.bool (decide (r55 = (-1)))) h61 (fw (.bool (decide (r55 = (-1)))) (Yl.pickT rfl h61 rfl) (Mz rfl ?_)))
 by_cases h62 : r55 = (-1)
 refine gw (.int .i64 r56) (dT h62) (Yl.move rfl) (Gz (.bool (decide (r56 = 0))) (dT h62) (fw (.bool (decide (r56 = 0))) (Yl.pickT rfl (dT h62) rfl) (An rfl (rt (tR (rs ?_))))))
 have H63 := H60.pk []
 obtain rfl : _ = decide (r56 = 0) := hr.symm.trans (et (bnd_of hr27) (et (iN h31) (et (bnd_of hr43) (et (ip h47) (et (ip h48) (et (bnd_of hr57) (et (ip h61) (ip h62))))))))
 exact ⟨rfl, H63⟩
 refine Sz (dF h62) (Sz (dF h62) (fw (.bool false) (Yl.pickF rfl (dF h62) rfl) (An rfl (rt (tR (rs ?_))))))
 have H64 := H60.pk []
 obtain rfl : _ = false := hr.symm.trans (et (bnd_of hr27) (et (iN h31) (et (bnd_of hr43) (et (ip h47) (et (ip h48) (et (bnd_of hr57) (et (ip h61) (iN h62))))))))
 exact ⟨rfl, H64⟩
 refine Sz h61 (Sz h61 (fw (.bool false) (Yl.pickF rfl h61 rfl) (Mz rfl (Sz rfl (Sz rfl (fw (.bool false) (Yl.pickF rfl rfl rfl) (An rfl (rt (tR (rs ?_))))))))))
 have H65 := H60.pk []
 obtain rfl : _ = false := hr.symm.trans (et (bnd_of hr27) (et (iN h31) (et (bnd_of hr43) (et (ip h47) (et (ip h48) (et (bnd_of hr57) (ifF h61)))))))
 exact ⟨rfl, H65⟩
 refine jT (dT h48) (sr (An rfl (rt (tR (rs ?_)))))
 have H66 := H46.pk []
 obtain rfl : _ = false := hr.symm.trans (et (bnd_of hr27) (et (iN h31) (et (bnd_of hr43) (et (ip h47) (iN h48)))))
 exact ⟨rfl, H66⟩
 refine gw (.int .i64 r41) (dT h47) (Yl.move rfl) (Gz (.bool (decide (r41 < 0))) (dT h47) (gw (.bool (decide (r41 < 0))) (dT h47) (Yl.move rfl) ?_))
 by_cases h67 : r41 < 0
 refine Sz (dT h67) (Sz (dT h67) (Sz (dT h67) (Sz (dT h67) (gw (.bool true) (dT h47) (Yl.pickT rfl (dT h67) rfl) (fw (.bool true) (Yl.pickT rfl (dT h47) rfl) (Mz rfl (Sz rfl (Sz rfl (Sz rfl (WL.skipU rfl rfl rfl (WL.skipU rfl rfl rfl (Sz rfl (fw (.bool true) (Yl.pickT rfl rfl rfl) (nt (jt (sr (An rfl (rt (tR (rs ?_))))))))))))))))))))
 have H68 := H46.pk []
 obtain rfl : _ = false := hr.symm.trans (et (bnd_of hr27) (et (iN h31) (et (bnd_of hr43) (et (iN h47) (ip h67)))))
 exact ⟨rfl, H68⟩
 refine gw (.int .i64 r41) (dF h67) (Yl.move rfl) (gw (.slice A0 l0.length c0) (dF h67) (Yl.move rfl) (Gz (.int .i64 ((l0.length : Nat) : Int)) (dF h67) (Gz (.bool (decide (r41 ≥ ((l0.length : Nat) : Int)))) (dF h67) (gw (.bool (decide (r41 ≥ ((l0.length : Nat) : Int)))) (dT h47) (Yl.pickF rfl (dF h67) rfl) (fw (.bool (decide (r41 ≥ ((l0.length : Nat) : Int)))) (Yl.pickT rfl (dT h47) rfl) (Mz rfl ?_))))))
 by_cases h69 : r41 ≥ ((l0.length : Nat) : Int)
 refine Sz (dT h69) (Sz (dT h69) (Sz (dT h69) (WL.skipU rfl rfl rfl (WL.skipU rfl rfl rfl (Sz (dT h69) (fw (.bool true) (Yl.pickT rfl (dT h69) rfl) (nt (jt (sr (An rfl (rt (tR (rs ?_)))))))))))))
 have H70 := H46.pk []
 obtain rfl : _ = false := hr.symm.trans (et (bnd_of hr27) (et (iN h31) (et (bnd_of hr43) (et (iN h47) (et (iN h67) (ip h69))))))
 exact ⟨rfl, H70⟩
 refine gw (.int .i64 r42) (dF h69) (Yl.move rfl) (Gz (.bool (decide (r42 = 0))) (dF h69) (gw (.bool (decide (r42 = 0))) (dF h69) (Yl.move rfl) (Sz (dF h47) (Sz (dF h47) (gw (.bool false) (dF h69) (Yl.pickF rfl (dF h47) rfl) (fw (.bool false) (Yl.pickF rfl (dF h69) rfl) (nt (jf (sk (sr (Mz rfl (fw (.int .i64 ((Int.toNat (remI (((remI p1 (l0.length + 1)) + ((l0.length : Nat) : Int)) + 1) (l0.length + 1)) : Nat) : Int)) (Yl.int (e := remI (((remI p1 (l0.length + 1)) + ((l0.length : Nat) : Int)) + 1) (l0.length + 1)) (Yl.move rfl) (by omega)) (fw (.slice A0 (Int.toNat (remI (((remI p1 (l0.length + 1)) + ((l0.length : Nat) : Int)) + 1) (l0.length + 1))) c0) (Yl.cutTo (El22) rfl rfl (by omega)) ?_)))))))))))))
 have hz76 : Int.toNat (remI (((remI p1 (l0.length + 1)) + ((l0.length : Nat) : Int)) + 1) (l0.length + 1)) = List.length (List.take (Int.toNat (remI (((remI p1 (l0.length + 1)) + ((l0.length : Nat) : Int)) + 1) (l0.length + 1))) l0) := (by first | rfl | omega | (simp only [List.length_append, List.length_cons, List.length_nil, List.length_take, List.length_drop, List.length_set, List.length_replicate, List.length_map] <;> omega))
 obtain ⟨⟨r77, r78⟩, hr79⟩ : ∃ q : Int × Int, judge_Judge (List.take (Int.toNat (remI (((remI p1 (l0.length + 1)) + ((l0.length : Nat) : Int)) + 1) (l0.length + 1))) l0) = q := ⟨_, rfl⟩
 obtain ⟨D71, HP72, ro73, bk74, rr75⟩ := Own.enter0 H46
 refine cl Try.call9 (judge_Judge_ok _ _ A0 (Int.toNat (remI (((remI p1 (l0.length + 1)) + ((l0.length : Nat) : Int)) + 1) (l0.length + 1))) c0 (List.take (Int.toNat (remI (((remI p1 (l0.length + 1)) + ((l0.length : Nat) : Int)) + 1) (l0.length + 1))) d0) (List.take (Int.toNat (remI (((remI p1 (l0.length + 1)) + ((l0.length : Nat) : Int)) + 1) (l0.length + 1))) l0) r77 r78 HP72 (by rw [List.map_take, hd0]) (fun w9 h9 => Rds.toE (hi := Int.toNat (remI (((remI p1 (l0.length + 1)) + ((l0.length : Nat) : Int)) + 1) (l0.length + 1))) SeenD.len ((ro73 _ hx0) w9 h9) (by omega)) (fun x9 h9 => ⟨ro73 _ (hm0 x9 (List.mem_of_mem_take h9)).1, (hm0 x9 (List.mem_of_mem_take h9)).2.1, ro73 _ (hm0 x9 (List.mem_of_mem_take h9)).2.2.1, (hm0 x9 (List.mem_of_mem_take h9)).2.2.2.1, (fun y1 k1 => ⟨ro73 _ ((hm0 x9 (List.mem_of_mem_take h9)).2.2.2.2 y1 k1).1, ((hm0 x9 (List.mem_of_mem_take h9)).2.2.2.2 y1 k1).2⟩)⟩) (by first | rfl | omega | (simp only [List.length_append, List.length_cons, List.length_nil, List.length_take, List.length_drop, List.length_set, List.length_replicate, List.length_map] <;> omega)) (by first | omega | (simp only [List.length_append, List.length_cons, List.length_nil, List.length_take, List.length_drop, List.length_set]; omega)) (by first | omega | exact Nat.le_of_ble_eq_true rfl | (simp only [List.length_take]; omega)) hr79) ?_
 rintro _ w80 ⟨rfl, HQ81⟩
 have H82 := bk74 _ _ HQ81
 refine Mz rfl (Kz (.int .i64 r77) (Kz (.int .i64 r78) (Az rfl (An rfl (Wp.seq (sr (Mz rfl (Kz (.bool (decide (r42 = 0))) (Mz rfl (gw (.int .i64 (remI (((remI p1 (l0.length + 1)) + ((l0.length : Nat) : Int)) + 1) (l0.length + 1))) (dF h47) (Yl.move rfl) (gw (.int .i64 r41) (dF h47) (Yl.move rfl) (Gz (.bool (decide (remI (((remI p1 (l0.length + 1)) + ((l0.length : Nat) : Int)) + 1) (l0.length + 1) ≤ r41))) (dF h47) (fw (.bool (decide (remI (((remI p1 (l0.length + 1)) + ((l0.length : Nat) : Int)) + 1) (l0.length + 1) ≤ r41))) (Yl.pickF rfl (dF h47) rfl) (nt ?_))))))))))))))
 by_cases h83 : remI (((remI p1 (l0.length + 1)) + ((l0.length : Nat) : Int)) + 1) (l0.length + 1) ≤ r41
 refine jT (dT h83) (sr (Mz rfl (Mz rfl ?_)))
 rcases Bool.eq_false_or_eq_true (r26) with h84 | h84
 refine WL.valG (v := .int .i64 r77) rfl rfl h84 rfl (Yl.move rfl) (Gz (.bool (decide (r77 = (-1)))) h84 (fw (.bool (decide (r77 = (-1)))) (Yl.pickT rfl h84 rfl) (Mz rfl ?_)))
 by_cases h85 : r77 = (-1)
 refine gw (.int .i64 r78) (dT h85) (Yl.move rfl) (Gz (.bool (decide (r78 = 0))) (dT h85) (fw (.bool (decide (r78 = 0))) (Yl.pickT rfl (dT h85) rfl) (An rfl (rt (tR (rs ?_))))))
 have H86 := H82.pk []
 obtain rfl : _ = decide (r78 = 0) := hr.symm.trans (et (bnd_of hr27) (et (iN h31) (et (bnd_of hr43) (et (iN h47) (et (iN h67) (et (iN h69) (et (bnd_of hr79) (et (ip h83) (et (ip h84) (ip h85))))))))))
 exact ⟨rfl, H86⟩
 refine Sz (dF h85) (Sz (dF h85) (fw (.bool false) (Yl.pickF rfl (dF h85) rfl) (An rfl (rt (tR (rs ?_))))))
 have H87 := H82.pk []
 obtain rfl : _ = false := hr.symm.trans (et (bnd_of hr27) (et (iN h31) (et (bnd_of hr43) (et (iN h47) (et (iN h67) (et (iN h69) (et (bnd_of hr79) (et (ip h83) (et (ip h84) (iN h85))))))))))
 exact ⟨rfl, H87⟩
 refine Sz h84 (Sz h84 (fw (.bool false) (Yl.pickF rfl h84 rfl) (Mz rfl (Sz rfl (Sz rfl (fw (.bool false) (Yl.pickF rfl rfl rfl) (An rfl (rt (tR (rs ?_))))))))))
 have H88 := H82.pk []
 obtain rfl : _ = false := hr.symm.trans (et (bnd_of hr27) (et (iN h31) (et (bnd_of hr43) (et (iN h47) (et (iN h67) (et (iN h69) (et (bnd_of hr79) (et (ip h83) (ifF h84)))))))))
 exact ⟨rfl, H88⟩
 refine jF (dF h83) (sk (sr (Mz rfl (Mz rfl ?_))))
 rcases Bool.eq_false_or_eq_true (r26) with h89 | h89
 refine WL.valG (v := .int .i64 r77) rfl rfl h89 rfl (Yl.move rfl) (WL.valG (v := .int .i64 r41) rfl rfl h89 rfl (Yl.move rfl) (Gz (.bool (decide (r77 = r41))) h89 (fw (.bool (decide (r77 = r41))) (Yl.pickT rfl h89 rfl) (Mz rfl ?_))))
 by_cases h90 : r77 = r41
 refine gw (.int .i64 r78) (dT h90) (Yl.move rfl) (gw (.int .i64 r42) (dT h90) (Yl.move rfl) (Gz (.bool (decide (r78 = r42))) (dT h90) (fw (.bool (decide (r78 = r42))) (Yl.pickT rfl (dT h90) rfl) (An rfl (rt (rs ?_))))))
 have H91 := H82.pk []
 obtain rfl : _ = decide (r78 = r42) := hr.symm.trans (et (bnd_of hr27) (et (iN h31) (et (bnd_of hr43) (et (iN h47) (et (iN h67) (et (iN h69) (et (bnd_of hr79) (et (iN h83) (et (ip h89) (ip h90))))))))))
 exact ⟨rfl, H91⟩
 refine Sz (dF h90) (Sz (dF h90) (Sz (dF h90) (fw (.bool false) (Yl.pickF rfl (dF h90) rfl) (An rfl (rt (rs ?_))))))
 have H92 := H82.pk []
 obtain rfl : _ = false := hr.symm.trans (et (bnd_of hr27) (et (iN h31) (et (bnd_of hr43) (et (iN h47) (et (iN h67) (et (iN h69) (et (bnd_of hr79) (et (iN h83) (et (ip h89) (iN h90))))))))))
 exact ⟨rfl, H92⟩
 refine Sz h89 (Sz h89 (Sz h89 (fw (.bool false) (Yl.pickF rfl h89 rfl) (Mz rfl (Sz rfl (Sz rfl (Sz rfl (fw (.bool false) (Yl.pickF rfl rfl rfl) (An rfl (rt (rs ?_)))))))))))
 have H93 := H82.pk []
 obtain rfl : _ = false := hr.symm.trans (et (bnd_of hr27) (et (iN h31) (et (bnd_of hr43) (et (iN h47) (et (iN h67) (et (iN h69) (et (bnd_of hr79) (et (iN h83) (ifF h89)))))))))
 exact ⟨rfl, H93⟩
end Go.Proofs.Ytjcdgofegkngpaa
