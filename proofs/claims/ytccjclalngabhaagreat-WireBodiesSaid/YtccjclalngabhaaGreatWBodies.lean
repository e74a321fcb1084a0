/-
  wire: the law WireBodies
-/
import Derived.Test.YtccjclalngabhaaGreatWl
namespace Go.Proofs.YtccjclalngabhaaGreat
open Go.RowKit
set_option linter.unusedVariables false
set_option linter.unusedSectionVars false
set_option linter.unusedSimpArgs false
def w18_WireBodies (l0 : List UInt8) : Bool :=
  bnd (w18_live) fun yr26 => if ((l0.length : Nat) : Int) > 100000 then yr26 else bnd (frame_Seal l0) fun yr38 => if yr38.2 = 0 then bnd (wire_Decode yr38.1) fun yr55 => bnd (r18_Decode yr38.1) fun yr85 => if yr26 = true then if yr55.2 = yr85.2 then bnd (r18_Same yr55.1 yr85.1) fun yr117 => yr117 else false else false else yr26
set_option maxRecDepth 100000 in
set_option maxHeartbeats 2000000 in
theorem w18_WireBodies_ok (w : World) (D : Nat → Prop) (A0 : Option Addr) (n0 c0 : Nat) (l0 : List UInt8) (r0 : Bool) (H : Own w D w []) (hx0 : Ro w D fun w' => Rds w' 1 A0 n0 (List.flatMap eB l0)) (hn0 : n0 = l0.length) (hl0 : l0.length * 1 ≤ 211106232532992) (hq0 : l0.length ≤ c0) (hh0 : l0.length * 1 ≤ 140737488351232) (hr : w18_WireBodies l0 = r0) :
    Calls Tryz.prog 5 #[.slice A0 n0 c0] w (Ret fun v w' => v = .bool r0 ∧ Own w D w' []) := by
  subst hn0
  refine Calls.body (args := [.slice A0 l0.length c0]) Tryz.func5 rfl rfl rfl ?_
  show Wp _ _ _ [(0, .slice A0 l0.length c0)] _ _
  refine sr (Ar rfl ?_)
  obtain ⟨r26, hr27⟩ : ∃ q, w18_live = q := ⟨_, rfl⟩
  obtain ⟨D21, HP22, ro23, bk24, rr25⟩ := Own.enter0 H
  refine cl Tryz.call8 (w18_live_ok _ _ r26 HP22 hr27) ?_
  rintro _ w28 ⟨rfl, HQ29⟩
  have H30 := bk24 _ _ HQ29
  refine An rfl (Wp.seq (sr (Mz rfl (Kz (.int .i64 ((l0.length : Nat) : Int)) (Kz (.bool (decide (((l0.length : Nat) : Int) > 100000))) (nt ?_))))))
  by_cases h31 : ((l0.length : Nat) : Int) > 100000
  refine jT (dT h31) (sr (Mz rfl (An rfl (Wp.ret (Fin.thenR (rs ?_))))))
  have H32 := H30.pick [] (by decide) rfl
  have e : w18_WireBodies l0 = r26 := et (bnd_of hr27) (ip h31)
  obtain rfl := e.symm.trans hr
  exact ⟨rfl, H32⟩
  refine jF (dF h31) (Wp.skip (Fin.then (sr (Mz rfl ?_))))
  obtain ⟨⟨r38, r39⟩, hr40⟩ : ∃ q : (List UInt8) × Int, frame_Seal l0 = q := ⟨_, rfl⟩
  obtain ⟨D33, HP34, ro35, bk36, rr37⟩ := Own.enter0 H30
  refine cl Tryz.call17 (frame_Seal_ok _ _ A0 l0.length c0 l0 r38 r39 HP34 (ro35 _ hx0) rfl (by omega) hr40) ?_
  rintro _ w41 ⟨A44, c45, rfl, HQ42, hk46⟩
  have H43 := bk36 _ _ HQ42
  have hb47 := H43.rowC (i := 0) rfl
  replace hk46 : r38.length ≤ l0.length + 15 := hk46
  refine Mz rfl (Kz (.slice A44 r38.length c45) (Kz (.int .i64 r39) (Az rfl (An rfl (Wp.seq (sr (Mz rfl (fw (.bool (decide (¬ (r39 = 0)))) (Yl.bool (e := !(decide (r39 = 0))) yk decide_not.symm) (nt ?_)))))))))
  by_cases h48 : r39 = 0
  refine jF (dF (not_not_intro h48)) (Wp.skip (Fin.then (sr (Mz rfl ?_))))
  have hb54 := H43.rowC (i := 0) rfl
  obtain ⟨⟨r55, r56⟩, hr57⟩ : ∃ q : MsgT × Int, wire_Decode r38 = q := ⟨_, rfl⟩
  obtain ⟨D49, HP50, ro51, bk52, rr53⟩ := Own.enter0 H43
  refine cl Tryz.call13 (wire_Decode_ok _ _ A44 r38.length c45 r38 r55 r56 HP50 (rr53 _ 0 _ rfl row_rds) rfl (by omega) (by first | omega | (simp only [List.length_take, List.length_drop]; omega) | exact Nat.le_refl _) hr57) ?_
  rintro _ w58 ⟨A61, c62, A63, c64, A65, c66, d67, rfl, HQ59, hd68, hk69⟩
  have H60 := bk52 _ _ HQ59
  have hl70 := abs_len hd68
  have hb71 := H60.rowC (i := 0) rfl
  have hb72 := H60.rowC (i := 1) rfl
  have hb73 := H60.rowC (i := 3) rfl
  replace hk69 : r55.xOps.ls.length ≤ 1000 ∧ r55.xResults.ls.length ≤ 1000 ∧ r55.xOwners.ls.length ≤ 1000 ∧ r55.xReq ≤ 18446744073709551615 ∧ r55.xBoot ≤ 18446744073709551615 ∧ r55.xTxn ≤ 18446744073709551615 ∧ r55.xLow ≤ 18446744073709551615 ∧ r55.xVer ≤ 18446744073709551615 ∧ r55.xEpoch ≤ 18446744073709551615 ∧ r55.xMove ≤ 18446744073709551615 ∧ r55.xAttempt ≤ 18446744073709551615 ∧ r55.xN ≤ 18446744073709551615 := hk69
  refine Mz rfl (Kz (.agg (MsgP r55 A61 c62 A63 c64 A65 c66).toArray) (Kz (.int .i64 r56) ?_))
  refine npw (MsgC 0 0 0 0 0 0 0 0 0 0 0 0 0 0 0 false ([]) ([]) none 0 0 none 0 0 none 0 0) 29 H60 ?_
  intro g74 w75 H76
  refine sto (MsgP r55 A61 c62 A63 c64 A65 c66) 0 H76 Tryz.sizeOf29 ?_
  intro w77 H78
  refine Ar rfl (Mz rfl ?_)
  have hb84 := H78.rowC (i := 5) rfl
  obtain ⟨⟨r85, r86⟩, hr87⟩ : ∃ q : MsgT × Int, r18_Decode r38 = q := ⟨_, rfl⟩
  obtain ⟨D79, HP80, ro81, bk82, rr83⟩ := Own.enter0 H78
  refine cl Tryz.call14 (r18_Decode_ok _ _ A44 r38.length c45 r38 r85 r86 HP80 (rr83 _ 5 _ rfl row_rds) rfl (by omega) (by first | omega | (simp only [List.length_take, List.length_drop]; omega) | exact Nat.le_refl _) hr87) ?_
  rintro _ w88 ⟨A91, c92, A93, c94, A95, c96, d97, rfl, HQ89, hd98, hk99⟩
  have H90 := bk82 _ _ HQ89
  have hl100 := abs_len hd98
  have hb101 := H90.rowC (i := 0) rfl
  have hb102 := H90.rowC (i := 1) rfl
  have hb103 := H90.rowC (i := 3) rfl
  replace hk99 : r85.xOps.ls.length ≤ 1000 ∧ r85.xResults.ls.length ≤ 1000 ∧ r85.xOwners.ls.length ≤ 1000 ∧ r85.xReq ≤ 18446744073709551615 ∧ r85.xBoot ≤ 18446744073709551615 ∧ r85.xTxn ≤ 18446744073709551615 ∧ r85.xLow ≤ 18446744073709551615 ∧ r85.xVer ≤ 18446744073709551615 ∧ r85.xEpoch ≤ 18446744073709551615 ∧ r85.xMove ≤ 18446744073709551615 ∧ r85.xAttempt ≤ 18446744073709551615 ∧ r85.xN ≤ 18446744073709551615 := hk99
  refine Mz rfl (Kz (.agg (MsgP r85 A91 c92 A93 c94 A95 c96).toArray) (Kz (.int .i64 r86) ?_))
  refine npw (MsgC 0 0 0 0 0 0 0 0 0 0 0 0 0 0 0 false ([]) ([]) none 0 0 none 0 0 none 0 0) 29 H90 ?_
  intro g104 w105 H106
  refine sto (MsgP r85 A91 c92 A93 c94 A95 c96) 0 H106 Tryz.sizeOf29 ?_
  intro w107 H108
  refine An rfl (Wp.seq ?_)
  have H109 := H108.pick [0, 1, 2, 3, 4, 5, 6, 7, 8, 9] (by decide) rfl
  refine Wp.region (Mz rfl (Mz rfl ?_))
  rcases Bool.eq_false_or_eq_true (r26) with h110 | h110
  refine WL.valG (v := .int .i64 r56) rfl rfl h110 rfl (Yl.move rfl) (WL.valG (v := .int .i64 r86) rfl rfl h110 rfl (Yl.move rfl) (Gz (.bool (decide (r56 = r86))) h110 (fw (.bool (decide (r56 = r86))) (Yl.pickT rfl h110 rfl) (Mz rfl ?_))))
  by_cases h111 : r56 = r86
  refine Ga (MsgP r55 A61 c62 A63 c64 A65 c66) (dT h111) H109 5 Tryz.isAgg29 Tryz.sizeOf29 (Ga (MsgP r85 A91 c92 A93 c94 A95 c96) (dT h111) H109 0 Tryz.isAgg29 Tryz.sizeOf29 ?_)
  obtain ⟨r117, hr118⟩ : ∃ q, r18_Same r55 r85 = q := ⟨_, rfl⟩
  obtain ⟨D112, HP113, ro114, bk115, rr116⟩ := Own.enter0 H109
  refine WL.doG rfl rfl (dT h111) rfl (Do.call Tryz.call15 rfl (r18_Same_ok _ _ r55 A61 r55.xOps.ls.length c62 A63 r55.xResults.ls.length c64 d67 A65 r55.xOwners.ls.length c66 r85 A91 r85.xOps.ls.length c92 A93 r85.xResults.ls.length c94 d97 A95 r85.xOwners.ls.length c96 r117 HP113 rfl (rr116 _ 6 _ rfl row_rds) (show r55.xOps.ls.length ≤ c62 ∧ r55.xOps.ls.length ≤ 9223372036854775807 from by omega) hd68 rfl (rr116 _ 7 _ rfl row_rds) (show r55.xResults.ls.length ≤ c64 ∧ r55.xResults.ls.length ≤ 9223372036854775807 from by omega) (fun x9 h9 => ⟨rr116 _ 8 _ rfl (sepL_mem (List.mem_flatMap.2 ⟨x9, h9, .head _⟩) row_rds), own_rd (φ := fun _ => _) H109 (i := 8) rfl (sepL_mem (List.mem_flatMap.2 ⟨x9, h9, .head _⟩) row_le2)⟩) rfl (rr116 _ 9 _ rfl row_rds) (show r55.xOwners.ls.length ≤ c66 ∧ r55.xOwners.ls.length ≤ 9223372036854775807 from by omega) rfl (rr116 _ 1 _ rfl row_rds) (show r85.xOps.ls.length ≤ c92 ∧ r85.xOps.ls.length ≤ 9223372036854775807 from by omega) hd98 rfl (rr116 _ 2 _ rfl row_rds) (show r85.xResults.ls.length ≤ c94 ∧ r85.xResults.ls.length ≤ 9223372036854775807 from by omega) (fun x9 h9 => ⟨rr116 _ 3 _ rfl (sepL_mem (List.mem_flatMap.2 ⟨x9, h9, .head _⟩) row_rds), own_rd (φ := fun _ => _) H109 (i := 3) rfl (sepL_mem (List.mem_flatMap.2 ⟨x9, h9, .head _⟩) row_le2)⟩) rfl (rr116 _ 4 _ rfl row_rds) (show r85.xOwners.ls.length ≤ c96 ∧ r85.xOwners.ls.length ≤ 9223372036854775807 from by omega) hr118) ?_)
  rintro _ w119 ⟨rfl, HQ120⟩
  have H121 := bk115 _ _ HQ120
  refine fw (.bool r117) (Yl.pickT rfl (dT h111) rfl) (An rfl (Wp.ret (rs ?_)))
  have H122 := H121.pick [] (by decide) rfl
  have e : w18_WireBodies l0 = r117 := et (bnd_of hr27) (et (iN h31) (et (bnd_of hr40) (et (ip h48) (et (bnd_of hr57) (et (bnd_of hr87) (et (ip h110) (et (ip h111) (bnd_of hr118))))))))
  obtain rfl := e.symm.trans hr
  exact ⟨rfl, H122⟩
  refine Sz (dF h111) (Sz (dF h111) (Sz (dF h111) (fw (.bool false) (Yl.pickF rfl (dF h111) rfl) (An rfl (Wp.ret (rs ?_))))))
  have H123 := H109.pick [] (by decide) rfl
  have e : w18_WireBodies l0 = false := et (bnd_of hr27) (et (iN h31) (et (bnd_of hr40) (et (ip h48) (et (bnd_of hr57) (et (bnd_of hr87) (et (ip h110) (iN h111)))))))
  obtain rfl := e.symm.trans hr
  exact ⟨rfl, H123⟩
  refine Sz h110 (Sz h110 (Sz h110 (fw (.bool false) (Yl.pickF rfl h110 rfl) (Mz rfl (Sz rfl (Sz rfl (Sz rfl (fw (.bool false) (Yl.pickF rfl rfl rfl) (An rfl (Wp.ret (rs ?_)))))))))))
  have H124 := H109.pick [] (by decide) rfl
  have e : w18_WireBodies l0 = false := et (bnd_of hr27) (et (iN h31) (et (bnd_of hr40) (et (ip h48) (et (bnd_of hr57) (et (bnd_of hr87) (ifF h110))))))
  obtain rfl := e.symm.trans hr
  exact ⟨rfl, H124⟩
  refine jT (dT h48) (sr (Mz rfl (An rfl (Wp.ret (Fin.thenR (rs ?_))))))
  have H125 := H43.pick [] (by decide) rfl
  have e : w18_WireBodies l0 = r26 := et (bnd_of hr27) (et (iN h31) (et (bnd_of hr40) (iN h48)))
  obtain rfl := e.symm.trans hr
  exact ⟨rfl, H125⟩
end Go.Proofs.YtccjclalngabhaaGreat
