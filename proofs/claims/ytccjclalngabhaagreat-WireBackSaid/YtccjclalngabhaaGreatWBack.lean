/-
 wire: the law WireBack
-/
import Derived.Test.YtccjclalngabhaaGreatWl
namespace Go.Proofs.YtccjclalngabhaaGreat
open Go.RowKit
set_option linter.unusedVariables false
set_option linter.unusedSectionVars false
set_option linter.unusedSimpArgs false
def w18_WireBack (p0 : MsgT) (l1 : List UInt8) : Bool :=
 bnd (w18_live) fun yr29 => if ((l1.length : Nat) : Int) > 100000 then yr29 else bnd (wire_Encode p0) fun yr41 => bnd (wire_Check p0) fun yr56 => lp (if yr56 = 0 then bnd (wire_Decode yr41.1) fun yr71 => if yr41.2 = 0 then if yr71.2 = 0 then bnd (r18_Same yr71.1 p0) fun yr102 => if yr102 = true then if ((yr41.1.length : Nat) : Int) > 4103 then Sum.inr (false) else Sum.inl () else Sum.inr (false) else Sum.inr (false) else Sum.inr (false) else Sum.inl ()) fun _ => bnd (wire_Decode l1) fun yr129 => if yr129.2 = 0 then bnd (wire_Encode yr129.1) fun yr159 => if yr29 = true then if yr159.2 = 0 then decide (yr159.1 = l1) else false else false else yr29
set_option maxRecDepth 100000 in
set_option maxHeartbeats 4000000 in
theorem w18_WireBack_ok (w : World) (D : Nat → Prop) (p0 : MsgT) (A0x0 : Option Addr) (n0x0 c0x0 : Nat) (A0x1 : Option Addr) (n0x1 c0x1 : Nat) (d0x1 : List ResultD) (A0x2 : Option Addr) (n0x2 c0x2 : Nat) (A1 : Option Addr) (n1 c1 : Nat) (l1 : List UInt8) (r0 : Bool) (H : Own w D w []) (hn0x0 : n0x0 = p0.xOps.ls.length) (hx0x0 : Ro w D fun w' => Rds w' 6 A0x0 p0.xOps.ls.length (List.flatMap OpD.cells p0.xOps.ls)) (hb0x0 : p0.xOps.ls.length ≤ c0x0 ∧ p0.xOps.ls.length ≤ 9223372036854775807) (hd0x1 : List.map ResultD.abs d0x1 = p0.xResults.ls) (hn0x1 : n0x1 = p0.xResults.ls.length) (hx0x1 : Ro w D fun w' => Rds w' 3 A0x1 p0.xResults.ls.length (List.flatMap ResultD.cells d0x1)) (hb0x1 : p0.xResults.ls.length ≤ c0x1 ∧ p0.xResults.ls.length ≤ 9223372036854775807) (hm0x1 : ∀ x ∈ d0x1, Ro w D (fun w' => Rds w' 2 x.xPairs.A x.xPairs.ls.length (List.flatMap PairD.cells x.xPairs.ls)) ∧ (x.xPairs.ls.length ≤ x.xPairs.c ∧ x.xPairs.ls.length ≤ 9223372036854775807)) (hn0x2 : n0x2 = p0.xOwners.ls.length) (hx0x2 : Ro w D fun w' => Rds w' 2 A0x2 p0.xOwners.ls.length (List.flatMap OwnerD.cells p0.xOwners.ls)) (hb0x2 : p0.xOwners.ls.length ≤ c0x2 ∧ p0.xOwners.ls.length ≤ 9223372036854775807) (hx1 : Ro w D fun w' => Rds w' 1 A1 n1 (List.flatMap eB l1)) (hn1 : n1 = l1.length) (hl1 : l1.length * 1 ≤ 211106232532992) (hq1 : l1.length ≤ c1) (hh0 : (-9223372036854775808) ≤ p0.xKind ∧ p0.xKind ≤ 9223372036854775807) (hh1 : (-9223372036854775808) ≤ p0.xFrom ∧ p0.xFrom ≤ 9223372036854775807) (hh2 : (-9223372036854775808) ≤ p0.xTo ∧ p0.xTo ≤ 9223372036854775807) (hh3 : (-9223372036854775808) ≤ p0.xClient ∧ p0.xClient ≤ 9223372036854775807) (hh4 : (-9223372036854775808) ≤ p0.xCode ∧ p0.xCode ≤ 9223372036854775807) (hh5 : (-9223372036854775808) ≤ p0.xPeer ∧ p0.xPeer ≤ 9223372036854775807) (hh6 : p0.xReq ≤ 18446744073709551615) (hh7 : p0.xBoot ≤ 18446744073709551615) (hh8 : p0.xTxn ≤ 18446744073709551615) (hh9 : p0.xLow ≤ 18446744073709551615) (hh10 : p0.xVer ≤ 18446744073709551615) (hh11 : p0.xEpoch ≤ 18446744073709551615) (hh12 : p0.xMove ≤ 18446744073709551615) (hh13 : p0.xAttempt ≤ 18446744073709551615) (hh14 : p0.xN ≤ 18446744073709551615) (hh15 : p0.xRange.xLo.length ≤ 140737488351232) (hh16 : p0.xRange.xHi.length ≤ 140737488351232) (hh17 : p0.xOps.ls.length * 80 ≤ 140737488351232) (hh18 : p0.xResults.ls.length * 48 ≤ 140737488351232) (hh19 : p0.xOwners.ls.length * 24 ≤ 140737488351232) (hh20 : l1.length * 1 ≤ 140737488351232) (hr : w18_WireBack p0 l1 = r0) :
    Calls Tryz.prog 6 #[.agg (MsgC p0.xKind p0.xFrom p0.xTo p0.xClient p0.xCode p0.xPeer p0.xReq p0.xBoot p0.xTxn p0.xLow p0.xVer p0.xEpoch p0.xMove p0.xAttempt p0.xN p0.xFlag p0.xRange.xLo p0.xRange.xHi A0x0 n0x0 c0x0 A0x1 n0x1 c0x1 A0x2 n0x2 c0x2).toArray, .slice A1 n1 c1] w (Ret fun v w' => v = .bool r0 ∧ Own w D w' []) := by
 subst hn1 hn0x0 hn0x1 hn0x2
 have hdl0x1 := abs_len hd0x1
 refine Calls.body (args := [.agg (MsgP p0 A0x0 c0x0 A0x1 c0x1 A0x2 c0x2).toArray, .slice A1 l1.length c1]) Tryz.func6 rfl rfl rfl ?_
 show Wp _ _ _ [(0, .agg (MsgP p0 A0x0 c0x0 A0x1 c0x1 A0x2 c0x2).toArray), (1, .slice A1 l1.length c1)] _ _
 refine sr ?_
 refine npw (MsgP p0 A0x0 c0x0 A0x1 c0x1 A0x2 c0x2) 29 H ?_
 intro g21 w22 H23
 refine Ar rfl ?_
 obtain ⟨r29, hr30⟩ : ∃ q, w18_live = q := ⟨_, rfl⟩
 obtain ⟨D24, HP25, ro26, bk27, rr28⟩ := Own.enter0 H23
 refine cl Tryz.call8 (w18_live_ok _ _ r29 HP25 hr30) ?_
 rintro _ w31 ⟨rfl, HQ32⟩
 have H33 := bk27 _ _ HQ32
 refine An rfl (Wp.seq (sr (Mz rfl (Kz (.int .i64 ((l1.length : Nat) : Int)) (Kz (.bool (decide (((l1.length : Nat) : Int) > 100000))) (nt ?_))))))
 by_cases h34 : ((l1.length : Nat) : Int) > 100000
 refine jT (dT h34) (sr (Mz rfl (An rfl (rt (tR (rs ?_))))))
 have H35 := H33.pk []
 obtain rfl : _ = r29 := hr.symm.trans (et (bnd_of hr30) (ip h34))
 exact ⟨rfl, H35⟩
 refine jF (dF h34) (sk (sr (La (MsgP p0 A0x0 c0x0 A0x1 c0x1 A0x2 c0x2) H33 0 Tryz.isAgg29 Tryz.sizeOf29 ?_)))
 obtain ⟨⟨r41, r42⟩, hr43⟩ : ∃ q : (List UInt8) × Int, wire_Encode p0 = q := ⟨_, rfl⟩
 obtain ⟨D36, HP37, ro38, bk39, rr40⟩ := Own.enter0 H33
 refine cl Tryz.call9 (wire_Encode_ok _ _ p0 A0x0 p0.xOps.ls.length c0x0 A0x1 p0.xResults.ls.length c0x1 d0x1 A0x2 p0.xOwners.ls.length c0x2 r41 r42 HP37 rfl (ro38 _ hx0x0) (show p0.xOps.ls.length ≤ c0x0 ∧ p0.xOps.ls.length ≤ 9223372036854775807 from by omega) hd0x1 rfl (ro38 _ hx0x1) (show p0.xResults.ls.length ≤ c0x1 ∧ p0.xResults.ls.length ≤ 9223372036854775807 from by omega) (fun x9 h9 => ⟨ro38 _ (hm0x1 x9 h9).1, (hm0x1 x9 h9).2⟩) rfl (ro38 _ hx0x2) (show p0.xOwners.ls.length ≤ c0x2 ∧ p0.xOwners.ls.length ≤ 9223372036854775807 from by omega) (by first | omega | (dsimp only; omega) | (simp only [List.length_nil]; omega)) (by first | omega | (dsimp only; omega) | (simp only [List.length_nil]; omega)) hr43) ?_
 rintro _ w44 ⟨A47, c48, rfl, HQ45, hk49⟩
 have H46 := bk39 _ _ HQ45
 have hb50 := H46.rowC (i := 0) rfl
 replace hk49 : r41.length ≤ 51000 := hk49
 refine Mz rfl (Kz (.slice A47 r41.length c48) (Kz (.int .i64 r42) (Az rfl (An rfl (Wp.seq (sr (La (MsgP p0 A0x0 c0x0 A0x1 c0x1 A0x2 c0x2) H46 1 Tryz.isAgg29 Tryz.sizeOf29 ?_)))))))
 obtain ⟨r56, hr57⟩ : ∃ q, wire_Check p0 = q := ⟨_, rfl⟩
 obtain ⟨D51, HP52, ro53, bk54, rr55⟩ := Own.enter0 H46
 refine cl Tryz.call11 (wire_Check_ok _ _ p0 A0x0 p0.xOps.ls.length c0x0 A0x1 p0.xResults.ls.length c0x1 d0x1 A0x2 p0.xOwners.ls.length c0x2 r56 HP52 rfl (ro53 _ hx0x0) (show p0.xOps.ls.length ≤ c0x0 ∧ p0.xOps.ls.length ≤ 9223372036854775807 from by omega) hd0x1 rfl (ro53 _ hx0x1) (show p0.xResults.ls.length ≤ c0x1 ∧ p0.xResults.ls.length ≤ 9223372036854775807 from by omega) (fun x9 h9 => ⟨ro53 _ (hm0x1 x9 h9).1, (hm0x1 x9 h9).2⟩) rfl (ro53 _ hx0x2) (show p0.xOwners.ls.length ≤ c0x2 ∧ p0.xOwners.ls.length ≤ 9223372036854775807 from by omega) (by first | omega | (dsimp only; omega) | (simp only [List.length_nil]; omega)) hr57) ?_
 rintro _ w58 ⟨rfl, HQ59⟩
 have H60 := bk54 _ _ HQ59
 refine Kz (.bool (decide (r56 = 0))) (nt ?_)
 obtain ⟨I61, hI62⟩ : ∃ q : Unit → World → Prop, q = fun (_ : Unit) w' => Own w D w' [blk g21 (MsgP p0 A0x0 c0x0 A0x1 c0x1 A0x2 c0x2) 29, row A47 r41.length c48 (List.flatMap eB r41) 5 1] ∧ ((if r56 = 0 then bnd (wire_Decode r41) fun yr71 => if r42 = 0 then if yr71.2 = 0 then bnd (r18_Same yr71.1 p0) fun yr102 => if yr102 = true then if ((r41.length : Nat) : Int) > 4103 then Sum.inr (false) else Sum.inl () else Sum.inr (false) else Sum.inr (false) else Sum.inr (false) else Sum.inl ()) = Sum.inl ()) := ⟨_, rfl⟩
 have dm63 : ∀ {w' : World}, I61 () w' ↔ Own w D w' [blk g21 (MsgP p0 A0x0 c0x0 A0x1 c0x1 A0x2 c0x2) 29, row A47 r41.length c48 (List.flatMap eB r41) 5 1] ∧ (if r56 = 0 then bnd (wire_Decode r41) fun yr71 => if r42 = 0 then if yr71.2 = 0 then bnd (r18_Same yr71.1 p0) fun yr102 => if yr102 = true then if ((r41.length : Nat) : Int) > 4103 then Sum.inr (false) else Sum.inl () else Sum.inr (false) else Sum.inr (false) else Sum.inr (false) else Sum.inl ()) = Sum.inl () := by intros; subst hI62; exact Iff.rfl
 refine Wp.joinT (fun _ : Unit => [(4, .bool false), (5, .bool r29), (1, .slice A1 l1.length c1)]) I61 ?_ ?_
 by_cases h64 : r56 = 0
 refine jT (dT h64) (sr (Mz rfl ?_))
 have hb70 := H60.rowC (i := 0) rfl
 obtain ⟨⟨r71, r72⟩, hr73⟩ : ∃ q : MsgT × Int, wire_Decode r41 = q := ⟨_, rfl⟩
 obtain ⟨D65, HP66, ro67, bk68, rr69⟩ := Own.enter0 H60
 refine cl Tryz.call13 (wire_Decode_ok _ _ A47 r41.length c48 r41 r71 r72 HP66 (rr69 _ 0 _ rfl row_rds) rfl (by omega) (by first | omega | (simp only [List.length_take, List.length_drop]; omega) | exact Nat.le_refl _) hr73) ?_
 rintro _ w74 ⟨A77, c78, A79, c80, A81, c82, d83, rfl, HQ75, hd84, hk85⟩
 have H76 := bk68 _ _ HQ75
 have hl86 := abs_len hd84
 have hb87 := H76.rowC (i := 0) rfl
 have hb88 := H76.rowC (i := 1) rfl
 have hb89 := H76.rowC (i := 3) rfl
 replace hk85 : r71.xOps.ls.length ≤ 1000 ∧ r71.xResults.ls.length ≤ 1000 ∧ r71.xOwners.ls.length ≤ 1000 ∧ r71.xReq ≤ 18446744073709551615 ∧ r71.xBoot ≤ 18446744073709551615 ∧ r71.xTxn ≤ 18446744073709551615 ∧ r71.xLow ≤ 18446744073709551615 ∧ r71.xVer ≤ 18446744073709551615 ∧ r71.xEpoch ≤ 18446744073709551615 ∧ r71.xMove ≤ 18446744073709551615 ∧ r71.xAttempt ≤ 18446744073709551615 ∧ r71.xN ≤ 18446744073709551615 := hk85
 refine Mz rfl (Kz (.agg (MsgP r71 A77 c78 A79 c80 A81 c82).toArray) (Kz (.int .i64 r72) ?_))
 refine npw (MsgC 0 0 0 0 0 0 0 0 0 0 0 0 0 0 0 false ([]) ([]) none 0 0 none 0 0 none 0 0) 29 H76 ?_
 intro g90 w91 H92
 refine sto (MsgP r71 A77 c78 A79 c80 A81 c82) 0 H92 Tryz.sizeOf29 ?_
 intro w93 H94
 refine Ar rfl (Mz rfl (fw (.bool (decide (¬ (r42 = 0)))) (Yl.bool (e := !(decide (r42 = 0))) yk decide_not.symm) (Mz rfl ?_)))
 by_cases h95 : r42 = 0
 refine gw (.int .i64 r72) (dF (not_not_intro h95)) (Yl.move rfl) (gw (.bool (decide (¬ (r72 = 0)))) (dF (not_not_intro h95)) (Yl.bool (e := !(decide (r72 = 0))) yk decide_not.symm) (fw (.bool (decide (¬ (r72 = 0)))) (Yl.pickF rfl (dF (not_not_intro h95)) rfl) (Mz rfl ?_)))
 by_cases h96 : r72 = 0
 refine gw (.agg (MsgP r71 A77 c78 A79 c80 A81 c82).toArray) (dF (not_not_intro h96)) (Yl.load rfl (Lds.agg (cs := (MsgP r71 A77 c78 A79 c80 A81 c82)) Tryz.isAgg29 Tryz.sizeOf29 ((H94.cls (i := 0) rfl).lit (k := 0) (m := 21) rfl))) (gw (.agg (MsgP p0 A0x0 c0x0 A0x1 c0x1 A0x2 c0x2).toArray) (dF (not_not_intro h96)) (Yl.load rfl (Lds.agg (cs := (MsgP p0 A0x0 c0x0 A0x1 c0x1 A0x2 c0x2)) Tryz.isAgg29 Tryz.sizeOf29 ((H94.cls (i := 6) rfl).lit (k := 0) (m := 21) rfl))) ?_)
 obtain ⟨r102, hr103⟩ : ∃ q, r18_Same r71 p0 = q := ⟨_, rfl⟩
 obtain ⟨D97, HP98, ro99, bk100, rr101⟩ := Own.enter0 H94
 refine clG (dF (not_not_intro h96)) Tryz.call15 (r18_Same_ok _ _ r71 A77 r71.xOps.ls.length c78 A79 r71.xResults.ls.length c80 d83 A81 r71.xOwners.ls.length c82 p0 A0x0 p0.xOps.ls.length c0x0 A0x1 p0.xResults.ls.length c0x1 d0x1 A0x2 p0.xOwners.ls.length c0x2 r102 HP98 rfl (rr101 _ 1 _ rfl row_rds) (show r71.xOps.ls.length ≤ c78 ∧ r71.xOps.ls.length ≤ 9223372036854775807 from by omega) hd84 rfl (rr101 _ 2 _ rfl row_rds) (show r71.xResults.ls.length ≤ c80 ∧ r71.xResults.ls.length ≤ 9223372036854775807 from by omega) (fun x9 h9 => ⟨rr101 _ 3 _ rfl (sepL_mem (List.mem_flatMap.2 ⟨x9, h9, .head _⟩) row_rds), own_rd (φ := fun _ => _) H94 (i := 3) rfl (sepL_mem (List.mem_flatMap.2 ⟨x9, h9, .head _⟩) row_le2)⟩) rfl (rr101 _ 4 _ rfl row_rds) (show r71.xOwners.ls.length ≤ c82 ∧ r71.xOwners.ls.length ≤ 9223372036854775807 from by omega) rfl (ro99 _ hx0x0) (show p0.xOps.ls.length ≤ c0x0 ∧ p0.xOps.ls.length ≤ 9223372036854775807 from by omega) hd0x1 rfl (ro99 _ hx0x1) (show p0.xResults.ls.length ≤ c0x1 ∧ p0.xResults.ls.length ≤ 9223372036854775807 from by omega) (fun x9 h9 => ⟨ro99 _ (hm0x1 x9 h9).1, (hm0x1 x9 h9).2⟩) rfl (ro99 _ hx0x2) (show p0.xOwners.ls.length ≤ c0x2 ∧ p0.xOwners.ls.length ≤ 9223372036854775807 from by omega) hr103) ?_
 rintro _ w104 ⟨rfl, HQ105⟩
 have H106 := bk100 _ _ HQ105
 refine gw (.bool (!r102)) (dF (not_not_intro h96)) yk (fw (.bool (!r102)) (Yl.pickF rfl (dF (not_not_intro h96)) rfl) (Mz rfl ?_))
 rcases Bool.eq_false_or_eq_true (r102) with h107 | h107
 refine gw (.slice A47 r41.length c48) (cn h107) (Yl.move rfl) (Gz (.int .i64 ((r41.length : Nat) : Int)) (cn h107) (Gz (.bool (decide (((r41.length : Nat) : Int) > 4103))) (cn h107) (fw (.bool (decide (((r41.length : Nat) : Int) > 4103))) (Yl.pickF rfl (cn h107) rfl) (nt ?_))))
 by_cases h108 : ((r41.length : Nat) : Int) > 4103
 refine jT (dT h108) (Wp.seq ?_)
 have H109 := H106.pk [5, 6]
 refine Wp.region (An rfl (rt (tR (rs ?_))))
 have H110 := H109.pk []
 obtain rfl : _ = false := hr.symm.trans (et (bnd_of hr30) (et (iN h34) (et (bnd_of hr43) (et (bnd_of hr57) (lp_r (et (ip h64) (et (bnd_of hr73) (et (ip h95) (et (ip h96) (et (bnd_of hr103) (et (ip h107) (ip h108))))))))))))
 exact ⟨rfl, H110⟩
 refine jF (dF h108) (Wp.skip ?_)
 have H111 := H106.pk [6, 5]
 exact Fin.join () ⟨rfl, rfl, rfl, trivial⟩ (dm63.2 ⟨H111, et (ip h64) (et (bnd_of hr73) (et (ip h95) (et (ip h96) (et (bnd_of hr103) (et (ip h107) (iN h108))))))⟩)
 refine Sz (cn h107) (Sz (cn h107) (Sz (cn h107) (fw (.bool true) (Yl.pickT rfl (cn h107) rfl) (nt (jt (Wp.seq ?_))))))
 have H112 := H106.pk [5, 6]
 refine Wp.region (An rfl (rt (tR (rs ?_))))
 have H113 := H112.pk []
 obtain rfl : _ = false := hr.symm.trans (et (bnd_of hr30) (et (iN h34) (et (bnd_of hr43) (et (bnd_of hr57) (lp_r (et (ip h64) (et (bnd_of hr73) (et (ip h95) (et (ip h96) (et (bnd_of hr103) (ifF h107)))))))))))
 exact ⟨rfl, H113⟩
 refine Sz (dT h96) (Sz (dT h96) (Sz (dT h96) (Sz (dT h96) (fw (.bool true) (Yl.pickT rfl (dT h96) rfl) (Mz rfl (Sz rfl (Sz rfl (Sz rfl (fw (.bool true) (Yl.pickT rfl rfl rfl) (nt (jt (Wp.seq ?_))))))))))))
 have H114 := H94.pk [5, 6]
 refine Wp.region (An rfl (rt (tR (rs ?_))))
 have H115 := H114.pk []
 obtain rfl : _ = false := hr.symm.trans (et (bnd_of hr30) (et (iN h34) (et (bnd_of hr43) (et (bnd_of hr57) (lp_r (et (ip h64) (et (bnd_of hr73) (et (ip h95) (iN h96)))))))))
 exact ⟨rfl, H115⟩
 refine Sz (dT h95) (Sz (dT h95) (fw (.bool true) (Yl.pickT rfl (dT h95) rfl) (Mz rfl (Sz rfl (Sz rfl (Sz rfl (Sz rfl (fw (.bool true) (Yl.pickT rfl rfl rfl) (Mz rfl (Sz rfl (Sz rfl (Sz rfl (fw (.bool true) (Yl.pickT rfl rfl rfl) (nt (jt (Wp.seq ?_))))))))))))))))
 have H116 := H94.pk [5, 6]
 refine Wp.region (An rfl (rt (tR (rs ?_))))
 have H117 := H116.pk []
 obtain rfl : _ = false := hr.symm.trans (et (bnd_of hr30) (et (iN h34) (et (bnd_of hr43) (et (bnd_of hr57) (lp_r (et (ip h64) (et (bnd_of hr73) (iN h95))))))))
 exact ⟨rfl, H117⟩
 refine jF (dF h64) (Wp.skip ?_)
 have H118 := H60.pk [1, 0]
 exact Fin.join () ⟨rfl, rfl, rfl, trivial⟩ (dm63.2 ⟨H118, iN h64⟩)
 rintro ⟨⟩ w119 hf121
 show Wp _ _ _ [(4, .bool false), (5, .bool r29), (1, .slice A1 l1.length c1)] _ _
 obtain ⟨H120, hj122⟩ := dm63.1 hf121
 refine Wp.seq ?_
 have H123 := H120.pk []
 refine Wp.region (Mz rfl ?_)
 obtain ⟨⟨r129, r130⟩, hr131⟩ : ∃ q : MsgT × Int, wire_Decode l1 = q := ⟨_, rfl⟩
 obtain ⟨D124, HP125, ro126, bk127, rr128⟩ := Own.enter0 H123
 refine cl Tryz.call13 (wire_Decode_ok _ _ A1 l1.length c1 l1 r129 r130 HP125 (ro126 _ hx1) rfl (by omega) (by first | omega | (simp only [List.length_take, List.length_drop]; omega) | exact Nat.le_refl _) hr131) ?_
 rintro _ w132 ⟨A135, c136, A137, c138, A139, c140, d141, rfl, HQ133, hd142, hk143⟩
 have H134 := bk127 _ _ HQ133
 have hl144 := abs_len hd142
 have hb145 := H134.rowC (i := 0) rfl
 have hb146 := H134.rowC (i := 1) rfl
 have hb147 := H134.rowC (i := 3) rfl
 replace hk143 : r129.xOps.ls.length ≤ 1000 ∧ r129.xResults.ls.length ≤ 1000 ∧ r129.xOwners.ls.length ≤ 1000 ∧ r129.xReq ≤ 18446744073709551615 ∧ r129.xBoot ≤ 18446744073709551615 ∧ r129.xTxn ≤ 18446744073709551615 ∧ r129.xLow ≤ 18446744073709551615 ∧ r129.xVer ≤ 18446744073709551615 ∧ r129.xEpoch ≤ 18446744073709551615 ∧ r129.xMove ≤ 18446744073709551615 ∧ r129.xAttempt ≤ 18446744073709551615 ∧ r129.xN ≤ 18446744073709551615 := hk143
 refine Mz rfl (Kz (.agg (MsgP r129 A135 c136 A137 c138 A139 c140).toArray) (Kz (.int .i64 r130) ?_))
 refine npw (MsgC 0 0 0 0 0 0 0 0 0 0 0 0 0 0 0 false ([]) ([]) none 0 0 none 0 0 none 0 0) 29 H134 ?_
 intro g148 w149 H150
 refine sto (MsgP r129 A135 c136 A137 c138 A139 c140) 0 H150 Tryz.sizeOf29 ?_
 intro w151 H152
 refine An rfl (Wp.seq (sr (Mz rfl (fw (.bool (decide (¬ (r130 = 0)))) (Yl.bool (e := !(decide (r130 = 0))) yk decide_not.symm) (nt ?_)))))
 by_cases h153 : r130 = 0
 refine jF (dF (not_not_intro h153)) (sk (sr (La (MsgP r129 A135 c136 A137 c138 A139 c140) H152 0 Tryz.isAgg29 Tryz.sizeOf29 ?_)))
 obtain ⟨⟨r159, r160⟩, hr161⟩ : ∃ q : (List UInt8) × Int, wire_Encode r129 = q := ⟨_, rfl⟩
 obtain ⟨D154, HP155, ro156, bk157, rr158⟩ := Own.enter0 H152
 refine cl Tryz.call9 (wire_Encode_ok _ _ r129 A135 r129.xOps.ls.length c136 A137 r129.xResults.ls.length c138 d141 A139 r129.xOwners.ls.length c140 r159 r160 HP155 rfl (rr158 _ 1 _ rfl row_rds) (show r129.xOps.ls.length ≤ c136 ∧ r129.xOps.ls.length ≤ 9223372036854775807 from by omega) hd142 rfl (rr158 _ 2 _ rfl row_rds) (show r129.xResults.ls.length ≤ c138 ∧ r129.xResults.ls.length ≤ 9223372036854775807 from by omega) (fun x9 h9 => ⟨rr158 _ 3 _ rfl (sepL_mem (List.mem_flatMap.2 ⟨x9, h9, .head _⟩) row_rds), own_rd (φ := fun _ => _) H152 (i := 3) rfl (sepL_mem (List.mem_flatMap.2 ⟨x9, h9, .head _⟩) row_le2)⟩) rfl (rr158 _ 4 _ rfl row_rds) (show r129.xOwners.ls.length ≤ c140 ∧ r129.xOwners.ls.length ≤ 9223372036854775807 from by omega) (by first | omega | (dsimp only; omega) | (simp only [List.length_nil]; omega)) (by first | omega | (dsimp only; omega) | (simp only [List.length_nil]; omega)) hr161) ?_
 rintro _ w162 ⟨A165, c166, rfl, HQ163, hk167⟩
 have H164 := bk157 _ _ HQ163
 have hb168 := H164.rowC (i := 0) rfl
 replace hk167 : r159.length ≤ 51000 := hk167
 refine Mz rfl (Kz (.slice A165 r159.length c166) (Kz (.int .i64 r160) (Az rfl (An rfl (Wp.seq ?_)))))
 have H169 := H164.pk [0]
 refine Wp.region (Mz rfl (Mz rfl ?_))
 rcases Bool.eq_false_or_eq_true (r29) with h170 | h170
 refine WL.valG (v := .int .i64 r160) rfl rfl h170 rfl (Yl.move rfl) (Gz (.bool (decide (r160 = 0))) h170 (fw (.bool (decide (r160 = 0))) (Yl.pickT rfl h170 rfl) (Mz rfl ?_)))
 by_cases h171 : r160 = 0
 refine gw (.slice A165 r159.length c166) (dT h171) (Yl.move rfl) (gw (.string ⟨List.toArray r159⟩) (dT h171) (Yl.toStringE (l := r159) Tryz.underlying31 Tryz.underlying5 Tryz.underlying9 (H169.rds (i := 0) rfl) rfl) (gw (.slice A1 l1.length c1) (dT h171) (Yl.move rfl) (gw (.string ⟨List.toArray l1⟩) (dT h171) (Yl.toStringE (l := l1) Tryz.underlying31 Tryz.underlying5 Tryz.underlying9 (H169.ro hx1) rfl) (gw (.bool (decide (r159 = l1))) (dT h171) (Yl.strEq rfl rfl) (fw (.bool (decide (r159 = l1))) (Yl.pickT rfl (dT h171) rfl) (An rfl (rt (rs ?_))))))))
 have H172 := H169.pk []
 obtain rfl : _ = decide (r159 = l1) := hr.symm.trans (et (bnd_of hr30) (et (iN h34) (et (bnd_of hr43) (et (bnd_of hr57) (et (lp_l hj122) (et (bnd_of hr131) (et (ip h153) (et (bnd_of hr161) (et (ip h170) (ip h171))))))))))
 exact ⟨rfl, H172⟩
 refine Sz (dF h171) (Sz (dF h171) (Sz (dF h171) (Sz (dF h171) (Sz (dF h171) (fw (.bool false) (Yl.pickF rfl (dF h171) rfl) (An rfl (rt (rs ?_))))))))
 have H173 := H169.pk []
 obtain rfl : _ = false := hr.symm.trans (et (bnd_of hr30) (et (iN h34) (et (bnd_of hr43) (et (bnd_of hr57) (et (lp_l hj122) (et (bnd_of hr131) (et (ip h153) (et (bnd_of hr161) (et (ip h170) (iN h171))))))))))
 exact ⟨rfl, H173⟩
 refine Sz h170 (Sz h170 (fw (.bool false) (Yl.pickF rfl h170 rfl) (Mz rfl (Sz rfl (Sz rfl (Sz rfl (Sz rfl (Sz rfl (fw (.bool false) (Yl.pickF rfl rfl rfl) (An rfl (rt (rs ?_))))))))))))
 have H174 := H169.pk []
 obtain rfl : _ = false := hr.symm.trans (et (bnd_of hr30) (et (iN h34) (et (bnd_of hr43) (et (bnd_of hr57) (et (lp_l hj122) (et (bnd_of hr131) (et (ip h153) (et (bnd_of hr161) (ifF h170)))))))))
 exact ⟨rfl, H174⟩
 refine jT (dT h153) (sr (Mz rfl (An rfl (rt (tR (rs ?_))))))
 have H175 := H152.pk []
 obtain rfl : _ = r29 := hr.symm.trans (et (bnd_of hr30) (et (iN h34) (et (bnd_of hr43) (et (bnd_of hr57) (et (lp_l hj122) (et (bnd_of hr131) (iN h153)))))))
 exact ⟨rfl, H175⟩
end Go.Proofs.YtccjclalngabhaaGreat
