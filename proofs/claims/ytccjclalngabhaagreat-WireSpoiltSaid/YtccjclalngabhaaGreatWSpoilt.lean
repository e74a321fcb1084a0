/-
 wire: the law WireSpoilt
-/
import Derived.Test.YtccjclalngabhaaGreatWl
import Derived.Test.YtccjclalngabhaaGreatWiX
namespace Go.Proofs.YtccjclalngabhaaGreat
open Go.RowKit
set_option linter.unusedVariables false
set_option linter.unusedSectionVars false
set_option linter.unusedSimpArgs false
def w18_WireSpoilt_L0 (p1 : Int) (p2 : Nat) (r39 : List UInt8) : Nat → Bool → Nat → List UInt8 → Bool × (List UInt8)
  | 0, b61, k62, l63 => (b61, l63)
  | q64 + 1, b61, k62, l63 => if (remI ((remI p1 (8 * r39.length)) + ((8 * r39.length : Nat) : Int)) (8 * r39.length)) + ((k62 : Nat) : Int) < ((8 * r39.length : Nat) : Int) then if ((bAnd32 (p2 / 2 ^ (min k62 32)) 1 : Nat) : Int) = 1 then bnd (List.getD l63 ((Int.toNat ((remI ((remI p1 (8 * r39.length)) + ((8 * r39.length : Nat) : Int)) (8 * r39.length)) + ((k62 : Nat) : Int))) / 8) default) fun yx83 => w18_WireSpoilt_L0 p1 p2 r39 q64 true (k62 + 1) (List.set l63 ((Int.toNat ((remI ((remI p1 (8 * r39.length)) + ((8 * r39.length : Nat) : Int)) (8 * r39.length)) + ((k62 : Nat) : Int))) / 8) (yx83 ^^^ (u8I (1 * 2 ^ (min ((Int.toNat ((remI ((remI p1 (8 * r39.length)) + ((8 * r39.length : Nat) : Int)) (8 * r39.length)) + ((k62 : Nat) : Int))) % 8) IntKind.u8.bits))))) else w18_WireSpoilt_L0 p1 p2 r39 q64 b61 (k62 + 1) l63 else (b61, l63)
def w18_WireSpoilt (p0 : MsgT) (p1 : Int) (p2 : Nat) : Bool :=
 bnd (w18_live) fun yr29 => bnd (wire_Encode p0) fun yr39 => if yr39.2 = 0 then if ((8 * yr39.1.length : Nat) : Int) = 0 then false else bnd (bnd (w18_WireSpoilt_L0 p1 p2 yr39.1 32 false 0 yr39.1) fun sLrbbtfJjL => (sLrbbtfJjL.1, sLrbbtfJjL.2)) fun sJrbbtfJ => bnd (wire_Decode sJrbbtfJ.2) fun yr103 => if yr29 = true then if sJrbbtfJ.1 = true then if yr103.2 = 50 then if yr103.1.xKind = 0 then true else false else false else decide (yr103.2 = 0) else false else if yr29 = true then decide (yr39.2 = 180) else false
set_option maxRecDepth 100000 in
theorem w18_WireSpoilt_ok (w : World) (D : Nat → Prop) (p0 : MsgT) (A0x0 : Option Addr) (n0x0 c0x0 : Nat) (A0x1 : Option Addr) (n0x1 c0x1 : Nat) (d0x1 : List ResultD) (A0x2 : Option Addr) (n0x2 c0x2 : Nat) (p1 : Int) (p2 : Nat) (r0 : Bool) (H : Own w D w []) (hn0x0 : n0x0 = p0.xOps.ls.length) (hx0x0 : Ro w D fun w' => Rds w' 6 A0x0 p0.xOps.ls.length (List.flatMap OpD.cells p0.xOps.ls)) (hb0x0 : p0.xOps.ls.length ≤ c0x0 ∧ p0.xOps.ls.length ≤ 9223372036854775807) (hd0x1 : List.map ResultD.abs d0x1 = p0.xResults.ls) (hn0x1 : n0x1 = p0.xResults.ls.length) (hx0x1 : Ro w D fun w' => Rds w' 3 A0x1 p0.xResults.ls.length (List.flatMap ResultD.cells d0x1)) (hb0x1 : p0.xResults.ls.length ≤ c0x1 ∧ p0.xResults.ls.length ≤ 9223372036854775807) (hm0x1 : ∀ x ∈ d0x1, Ro w D (fun w' => Rds w' 2 x.xPairs.A x.xPairs.ls.length (List.flatMap PairD.cells x.xPairs.ls)) ∧ (x.xPairs.ls.length ≤ x.xPairs.c ∧ x.xPairs.ls.length ≤ 9223372036854775807)) (hn0x2 : n0x2 = p0.xOwners.ls.length) (hx0x2 : Ro w D fun w' => Rds w' 2 A0x2 p0.xOwners.ls.length (List.flatMap OwnerD.cells p0.xOwners.ls)) (hb0x2 : p0.xOwners.ls.length ≤ c0x2 ∧ p0.xOwners.ls.length ≤ 9223372036854775807) (hh0 : (-9223372036854775808) ≤ p0.xKind ∧ p0.xKind ≤ 9223372036854775807) (hh1 : (-9223372036854775808) ≤ p0.xFrom ∧ p0.xFrom ≤ 9223372036854775807) (hh2 : (-9223372036854775808) ≤ p0.xTo ∧ p0.xTo ≤ 9223372036854775807) (hh3 : (-9223372036854775808) ≤ p0.xClient ∧ p0.xClient ≤ 9223372036854775807) (hh4 : (-9223372036854775808) ≤ p0.xCode ∧ p0.xCode ≤ 9223372036854775807) (hh5 : (-9223372036854775808) ≤ p0.xPeer ∧ p0.xPeer ≤ 9223372036854775807) (hh6 : p0.xReq ≤ 18446744073709551615) (hh7 : p0.xBoot ≤ 18446744073709551615) (hh8 : p0.xTxn ≤ 18446744073709551615) (hh9 : p0.xLow ≤ 18446744073709551615) (hh10 : p0.xVer ≤ 18446744073709551615) (hh11 : p0.xEpoch ≤ 18446744073709551615) (hh12 : p0.xMove ≤ 18446744073709551615) (hh13 : p0.xAttempt ≤ 18446744073709551615) (hh14 : p0.xN ≤ 18446744073709551615) (hh15 : p0.xRange.xLo.length ≤ 140737488351232) (hh16 : p0.xRange.xHi.length ≤ 140737488351232) (hh17 : p0.xOps.ls.length * 80 ≤ 140737488351232) (hh18 : p0.xResults.ls.length * 48 ≤ 140737488351232) (hh19 : p0.xOwners.ls.length * 24 ≤ 140737488351232) (hh20 : (-9223372036854775808) ≤ p1 ∧ p1 ≤ 9223372036854775807) (hh21 : p2 ≤ 4294967295) (hr : w18_WireSpoilt p0 p1 p2 = r0) :
    Calls Tryz.prog 7 #[.agg (MsgC p0.xKind p0.xFrom p0.xTo p0.xClient p0.xCode p0.xPeer p0.xReq p0.xBoot p0.xTxn p0.xLow p0.xVer p0.xEpoch p0.xMove p0.xAttempt p0.xN p0.xFlag p0.xRange.xLo p0.xRange.xHi A0x0 n0x0 c0x0 A0x1 n0x1 c0x1 A0x2 n0x2 c0x2).toArray, .int .i64 p1, .int .u32 ((p2 : Nat) : Int)] w (Ret fun v w' => v = .bool r0 ∧ Own w D w' []) := by
 subst hn0x0 hn0x1 hn0x2
 have hdl0x1 := abs_len hd0x1
 refine Calls.body (args := [.agg (MsgP p0 A0x0 c0x0 A0x1 c0x1 A0x2 c0x2).toArray, .int .i64 p1, .int .u32 ((p2 : Nat) : Int)]) Tryz.func7 rfl rfl rfl ?_
 show Wp _ _ _ [(0, .agg (MsgP p0 A0x0 c0x0 A0x1 c0x1 A0x2 c0x2).toArray), (1, .int .i64 p1), (2, .int .u32 ((p2 : Nat) : Int))] _ _
 refine sr ?_
 refine npw (MsgP p0 A0x0 c0x0 A0x1 c0x1 A0x2 c0x2) 29 H ?_
 intro g21 w22 H23
 refine Ar rfl ?_
 obtain ⟨r29, hr30⟩ : ∃ q, w18_live = q := ⟨_, rfl⟩
 obtain ⟨D24, HP25, ro26, bk27, rr28⟩ := Own.enter0 H23
 refine cl Tryz.call8 (w18_live_ok _ _ r29 HP25 hr30) ?_
 rintro _ w31 ⟨rfl, HQ32⟩
 have H33 := bk27 _ _ HQ32
 refine Ar rfl (La (MsgP p0 A0x0 c0x0 A0x1 c0x1 A0x2 c0x2) H33 0 Tryz.isAgg29 Tryz.sizeOf29 ?_)
 obtain ⟨⟨r39, r40⟩, hr41⟩ : ∃ q : (List UInt8) × Int, wire_Encode p0 = q := ⟨_, rfl⟩
 obtain ⟨D34, HP35, ro36, bk37, rr38⟩ := Own.enter0 H33
 refine cl Tryz.call9 (wire_Encode_ok _ _ p0 A0x0 p0.xOps.ls.length c0x0 A0x1 p0.xResults.ls.length c0x1 d0x1 A0x2 p0.xOwners.ls.length c0x2 r39 r40 HP35 rfl (ro36 _ hx0x0) (show p0.xOps.ls.length ≤ c0x0 ∧ p0.xOps.ls.length ≤ 9223372036854775807 from by omega) hd0x1 rfl (ro36 _ hx0x1) (show p0.xResults.ls.length ≤ c0x1 ∧ p0.xResults.ls.length ≤ 9223372036854775807 from by omega) (fun x9 h9 => ⟨ro36 _ (hm0x1 x9 h9).1, (hm0x1 x9 h9).2⟩) rfl (ro36 _ hx0x2) (show p0.xOwners.ls.length ≤ c0x2 ∧ p0.xOwners.ls.length ≤ 9223372036854775807 from by omega) (by first | omega | (dsimp only; omega) | (simp only [List.length_nil]; omega)) (by first | omega | (dsimp only; omega) | (simp only [List.length_nil]; omega)) hr41) ?_
 rintro _ w42 ⟨A45, c46, rfl, HQ43, hk47⟩
 have H44 := bk37 _ _ HQ43
 have hb48 := H44.rowC (i := 0) rfl
 replace hk47 : r39.length ≤ 51000 := hk47
 refine Mz rfl (Kz (.slice A45 r39.length c46) (Kz (.int .i64 r40) (Az rfl (An rfl (Wp.seq (Wp.seq ?_))))))
 have H49 := H44.pk [0]
 refine Wp.region (Mz rfl (fw (.bool (decide (¬ (r40 = 0)))) (Yl.bool (e := !(decide (r40 = 0))) yk decide_not.symm) (nt ?_)))
 by_cases h50 : r40 = 0
 refine jF (dF (not_not_intro h50)) (sk (sr (Mz rfl (Kz (.int .i64 ((r39.length : Nat) : Int)) (fw (.int .i64 ((8 * r39.length : Nat) : Int)) (Yl.int (e := IntKind.i64.wrap (8 * ((r39.length : Nat) : Int))) yk (by rw [IntWalk.i64_in _ (by omega)]; omega)) (An rfl (Wp.seq (sr (Mz rfl (Kz (.bool (decide (((8 * r39.length : Nat) : Int) = 0))) (nt ?_)))))))))))
 by_cases h51 : ((8 * r39.length : Nat) : Int) = 0
 refine jT (dT h51) (sr (An rfl (rt (tR (rs ?_)))))
 have H52 := H49.pk []
 obtain rfl : _ = false := hr.symm.trans (et (bnd_of hr30) (et (bnd_of hr41) (et (ip h50) (ip h51))))
 exact ⟨rfl, H52⟩
 refine jF (dF h51) (sk (sr (Mz rfl (Mz rfl ?_))))
 have hz53 := remI_bd p1 (n := 8 * r39.length) (by omega)
 refine fw (.int .i64 (remI p1 (8 * r39.length))) (Yl.remI rfl rfl (by omega)) (Mz rfl (fw (.int .i64 ((remI p1 (8 * r39.length)) + ((8 * r39.length : Nat) : Int))) (Yl.int (e := IntKind.i64.wrap ((remI p1 (8 * r39.length)) + ((8 * r39.length : Nat) : Int))) yk (by rw [IntWalk.i64_in _ (by omega)])) (Mz rfl ?_)))
 have hz54 := remI_bd ((remI p1 (8 * r39.length)) + ((8 * r39.length : Nat) : Int)) (n := 8 * r39.length) (by omega)
 have hz55 := remI_nn (a := (remI p1 (8 * r39.length)) + ((8 * r39.length : Nat) : Int)) (n := 8 * r39.length) (by omega)
 refine fw (.int .i64 (remI ((remI p1 (8 * r39.length)) + ((8 * r39.length : Nat) : Int)) (8 * r39.length))) (Yl.remI rfl rfl (by omega)) (Ar rfl (An rfl (Wp.seq (sr (An rfl ?_)))))
 obtain ⟨I58, hI59⟩ : ∃ q : (Bool × (List UInt8)) → World → Prop, q = fun (i : Bool × (List UInt8)) w' => Own w D w' [row A45 r39.length c46 (List.flatMap eB i.2) 5 1] ∧ (i.2.length = r39.length ∧ (bnd (w18_WireSpoilt_L0 p1 p2 r39 32 false 0 r39) fun sLrbbtfJjL => (sLrbbtfJjL.1, sLrbbtfJjL.2)) = (i.1, i.2)) := ⟨_, rfl⟩
 have dm60 : ∀ {b56 : Bool} {l57 : List UInt8} {w' : World}, I58 (b56, l57) w' ↔ Own w D w' [row A45 r39.length c46 (List.flatMap eB l57) 5 1] ∧ l57.length = r39.length ∧ (bnd (w18_WireSpoilt_L0 p1 p2 r39 32 false 0 r39) fun sLrbbtfJjL => (sLrbbtfJjL.1, sLrbbtfJjL.2)) = (b56, l57) := by intros; subst hI59; exact Iff.rfl
 refine Wp.joinT (fun i : Bool × (List UInt8) => [(11, .bool i.1), (8, .slice A45 r39.length c46), (7, .bool r29), (6, .bool false)]) I58 ?_ ?_
 refine bo ?_
 have H65 := H49.pk [0]
 obtain ⟨I69, hI70⟩ : ∃ q : (Bool × Nat × (List UInt8)) → World → Prop, q = fun (i : Bool × Nat × (List UInt8)) w' => Own w D w' [row A45 r39.length c46 (List.flatMap eB i.2.2) 5 1] ∧ (i.2.2.length = r39.length ∧ i.2.1 ≤ 32 ∧ w18_WireSpoilt_L0 p1 p2 r39 32 false 0 r39 = w18_WireSpoilt_L0 p1 p2 r39 (32 - i.2.1) i.1 i.2.1 i.2.2) := ⟨_, rfl⟩
 have dm71 : ∀ {b61 : Bool} {k62 : Nat} {l63 : List UInt8} {w' : World}, I69 (b61, k62, l63) w' ↔ Own w D w' [row A45 r39.length c46 (List.flatMap eB l63) 5 1] ∧ l63.length = r39.length ∧ k62 ≤ 32 ∧ w18_WireSpoilt_L0 p1 p2 r39 32 false 0 r39 = w18_WireSpoilt_L0 p1 p2 r39 (32 - k62) b61 k62 l63 := by intros; subst hI70; exact Iff.rfl
 refine Wp.loop (fun i : Bool × Nat × (List UInt8) => [(11, .bool i.1), (12, .int .i64 ((i.2.1 : Nat) : Int)), (1, .int .i64 (remI ((remI p1 (8 * r39.length)) + ((8 * r39.length : Nat) : Int)) (8 * r39.length))), (10, .int .i64 ((8 * r39.length : Nat) : Int)), (8, .slice A45 r39.length c46), (7, .bool r29), (6, .bool false), (2, .int .u32 ((p2 : Nat) : Int))]) I69 (fun i => 32 - i.2.1) (false, 0, r39) ⟨rfl, rfl, rfl, rfl, rfl, rfl, rfl, rfl, trivial⟩ (dm71.2 ⟨H65, (show r39.length = r39.length ∧ 0 ≤ 32 ∧ w18_WireSpoilt_L0 p1 p2 r39 32 false 0 r39 = w18_WireSpoilt_L0 p1 p2 r39 (32 - 0) false 0 r39 from ⟨by first | omega | (simp only [List.length_set]; omega) | (simp only [List.length_replicate]), by omega, rfl⟩)⟩) ?_
 rintro ⟨b61, k62, l63⟩ w66 hf68
 show Wp _ _ _ [(11, .bool b61), (12, .int .i64 ((k62 : Nat) : Int)), (1, .int .i64 (remI ((remI p1 (8 * r39.length)) + ((8 * r39.length : Nat) : Int)) (8 * r39.length))), (10, .int .i64 ((8 * r39.length : Nat) : Int)), (8, .slice A45 r39.length c46), (7, .bool r29), (6, .bool false), (2, .int .u32 ((p2 : Nat) : Int))] _ _
 obtain ⟨H67, hi73, hi74, hq72⟩ := dm71.1 hf68
 refine Wp.seq (sr (Mz rfl (Kz (.bool (decide (((k62 : Nat) : Int) < 32))) (Mz rfl ?_))))
 by_cases h75 : ((k62 : Nat) : Int) < 32
 refine gw (.int .i64 (remI ((remI p1 (8 * r39.length)) + ((8 * r39.length : Nat) : Int)) (8 * r39.length))) (dT h75) (Yl.move rfl) (gw (.int .i64 ((k62 : Nat) : Int)) (dT h75) (Yl.move rfl) (gw (.int .i64 ((remI ((remI p1 (8 * r39.length)) + ((8 * r39.length : Nat) : Int)) (8 * r39.length)) + ((k62 : Nat) : Int))) (dT h75) (Yl.int (e := IntKind.i64.wrap ((remI ((remI p1 (8 * r39.length)) + ((8 * r39.length : Nat) : Int)) (8 * r39.length)) + ((k62 : Nat) : Int))) yk (by rw [IntWalk.i64_in _ (by omega)])) (gw (.int .i64 ((8 * r39.length : Nat) : Int)) (dT h75) (Yl.move rfl) (Gz (.bool (decide ((remI ((remI p1 (8 * r39.length)) + ((8 * r39.length : Nat) : Int)) (8 * r39.length)) + ((k62 : Nat) : Int) < ((8 * r39.length : Nat) : Int)))) (dT h75) (fw (.bool (decide ((remI ((remI p1 (8 * r39.length)) + ((8 * r39.length : Nat) : Int)) (8 * r39.length)) + ((k62 : Nat) : Int) < ((8 * r39.length : Nat) : Int)))) (Yl.pickT rfl (dT h75) rfl) (nt ?_))))))
 by_cases h76 : (remI ((remI p1 (8 * r39.length)) + ((8 * r39.length : Nat) : Int)) (8 * r39.length)) + ((k62 : Nat) : Int) < ((8 * r39.length : Nat) : Int)
 refine jT (dT h76) (sk (Wp.seq (bo (sr (Mz rfl (Mz rfl ?_))))))
 have hz77 : p2 / 2 ^ (min k62 32) ≤ p2 := Nat.div_le_self _ _
 refine fw (.int .u32 ((p2 / 2 ^ (min k62 32) : Nat) : Int)) (Yl.int (Yl.shr (m := k62) rfl rfl) (shr_var _ _)) ?_
 have hz78 : bAnd32 (p2 / 2 ^ (min k62 32)) 1 ≤ 4294967295 := bAnd32_le _ _
 refine fw (.int .u32 ((bAnd32 (p2 / 2 ^ (min k62 32)) 1 : Nat) : Int)) (Yl.int (e := IntKind.u32.wrap (((BitVec.ofInt 32 ((p2 / 2 ^ (min k62 32) : Nat) : Int) &&& BitVec.ofInt 32 1).toNat : Nat) : Int)) yk (wrap_nat_u32 _)) (Kz (.bool (decide (((bAnd32 (p2 / 2 ^ (min k62 32)) 1 : Nat) : Int) = 1))) (nt ?_))
 by_cases h79 : ((bAnd32 (p2 / 2 ^ (min k62 32)) 1 : Nat) : Int) = 1
 refine jT (dT h79) (Wp.seq ?_)
 have H81 := H67.drew
 refine Wp.drawnX [14] (fun W => ∃ L', Own w D W ([row A45 r39.length c46 (List.flatMap eB l63) 5 1] ++ L')) (by kernel_rfl) (by kernel_rfl) (NoP.then (NoP.block (NoP.then (NoP.then (NoP.block (NoP.then NoP.base)))))) ⟨_, H81⟩ ?_
 revert H81
 generalize World.drew w66 = w80
 intro H81
 refine GX.take (v := .slice A45 r39.length c46) (rs := [[]]) 0 rfl (by kernel_rfl) (fun _ _ => Yl.move rfl) (GX.take (v := .int .i64 (remI ((remI p1 (8 * r39.length)) + ((8 * r39.length : Nat) : Int)) (8 * r39.length))) (rs := [[]]) 1 rfl (by kernel_rfl) (fun _ _ => Yl.move rfl) (GX.take (v := .int .i64 ((k62 : Nat) : Int)) (rs := [[]]) 2 rfl (by kernel_rfl) (fun _ _ => Yl.move rfl) (GX.take (v := .int .i64 ((remI ((remI p1 (8 * r39.length)) + ((8 * r39.length : Nat) : Int)) (8 * r39.length)) + ((k62 : Nat) : Int))) (rs := [[]]) 3 rfl (by kernel_rfl) (fun _ _ => Yl.int (e := IntKind.i64.wrap ((remI ((remI p1 (8 * r39.length)) + ((8 * r39.length : Nat) : Int)) (8 * r39.length)) + ((k62 : Nat) : Int))) yk (by rw [IntWalk.i64_in _ (by omega)])) ?_)))
 have hz82 : ((Int.toNat ((remI ((remI p1 (8 * r39.length)) + ((8 * r39.length : Nat) : Int)) (8 * r39.length)) + ((k62 : Nat) : Int)) : Nat) : Int) = (remI ((remI p1 (8 * r39.length)) + ((8 * r39.length : Nat) : Int)) (8 * r39.length)) + ((k62 : Nat) : Int) := by omega
 refine GX.take (v := .int .i64 (((Int.toNat ((remI ((remI p1 (8 * r39.length)) + ((8 * r39.length : Nat) : Int)) (8 * r39.length)) + ((k62 : Nat) : Int))) / 8 : Nat) : Int)) (rs := [[]]) 4 rfl (by kernel_rfl) (fun _ _ => Yl.int (e := IntKind.i64.wrap (Int.tdiv ((remI ((remI p1 (8 * r39.length)) + ((8 * r39.length : Nat) : Int)) (8 * r39.length)) + ((k62 : Nat) : Int)) 8)) yk (by rw [show Int.tdiv ((remI ((remI p1 (8 * r39.length)) + ((8 * r39.length : Nat) : Int)) (8 * r39.length)) + ((k62 : Nat) : Int)) 8 = (((Int.toNat ((remI ((remI p1 (8 * r39.length)) + ((8 * r39.length : Nat) : Int)) (8 * r39.length)) + ((k62 : Nat) : Int))) / 8 : Nat) : Int) from tdivT (n := 8) (by omega), IntWalk.i64_in _ (by omega)])) ?_
 obtain ⟨x83, hx84⟩ := at_of (ls := l63) (i := (Int.toNat ((remI ((remI p1 (8 * r39.length)) + ((8 * r39.length : Nat) : Int)) (8 * r39.length)) + ((k62 : Nat) : Int))) / 8) (by first | omega | (simp; done) | (simp; omega))
 refine GX.take (v := .pointer (some ⟨ab A45, ao A45 + ((Int.toNat ((remI ((remI p1 (8 * r39.length)) + ((8 * r39.length : Nat) : Int)) (8 * r39.length)) + ((k62 : Nat) : Int))) / 8) * 1, none⟩)) (rs := [[]]) 5 rfl (by kernel_rfl) (fun _ ⟨_, H9⟩ => Yl.indexAddr (El31) rfl rfl ((H9.rds (i := 0) rfl).addr (i := (Int.toNat ((remI ((remI p1 (8 * r39.length)) + ((8 * r39.length : Nat) : Int)) (8 * r39.length)) + ((k62 : Nat) : Int))) / 8) (by omega)) (by omega)) (GX.take (v := .int .u8 ((x83.toNat : Nat) : Int)) (rs := [[]]) 6 rfl (by kernel_rfl) (fun _ ⟨_, H9⟩ => Yl.load rfl (Lds.one Tryz.isAgg5 (((H9.rds (i := 0) rfl).elem eB_len hx84 (by decide)).at_ (k := 0) rfl))) (GX.take (v := .int .i64 (remI ((remI p1 (8 * r39.length)) + ((8 * r39.length : Nat) : Int)) (8 * r39.length))) (rs := [[]]) 7 rfl (by kernel_rfl) (fun _ _ => Yl.move rfl) (GX.take (v := .int .i64 ((k62 : Nat) : Int)) (rs := [[]]) 8 rfl (by kernel_rfl) (fun _ _ => Yl.move rfl) (GX.take (v := .int .i64 ((remI ((remI p1 (8 * r39.length)) + ((8 * r39.length : Nat) : Int)) (8 * r39.length)) + ((k62 : Nat) : Int))) (rs := [[]]) 9 rfl (by kernel_rfl) (fun _ _ => Yl.int (e := IntKind.i64.wrap ((remI ((remI p1 (8 * r39.length)) + ((8 * r39.length : Nat) : Int)) (8 * r39.length)) + ((k62 : Nat) : Int))) yk (by rw [IntWalk.i64_in _ (by omega)])) ?_))))
 have hz85 : ((Int.toNat ((remI ((remI p1 (8 * r39.length)) + ((8 * r39.length : Nat) : Int)) (8 * r39.length)) + ((k62 : Nat) : Int)) : Nat) : Int) = (remI ((remI p1 (8 * r39.length)) + ((8 * r39.length : Nat) : Int)) (8 * r39.length)) + ((k62 : Nat) : Int) := by omega
 refine GX.take (v := .int .i64 (((Int.toNat ((remI ((remI p1 (8 * r39.length)) + ((8 * r39.length : Nat) : Int)) (8 * r39.length)) + ((k62 : Nat) : Int))) % 8 : Nat) : Int)) (rs := [[]]) 10 rfl (by kernel_rfl) (fun _ _ => Yl.int (e := Int.tmod ((remI ((remI p1 (8 * r39.length)) + ((8 * r39.length : Nat) : Int)) (8 * r39.length)) + ((k62 : Nat) : Int)) 8) yk (tmodT (n := 8) (show 0 ≤ (remI ((remI p1 (8 * r39.length)) + ((8 * r39.length : Nat) : Int)) (8 * r39.length)) + ((k62 : Nat) : Int) by omega))) (GX.take (v := .int .u8 (((u8I (1 * 2 ^ (min ((Int.toNat ((remI ((remI p1 (8 * r39.length)) + ((8 * r39.length : Nat) : Int)) (8 * r39.length)) + ((k62 : Nat) : Int))) % 8) IntKind.u8.bits))).toNat : Nat) : Int)) (rs := [[]]) 11 rfl (by kernel_rfl) (fun _ _ => Yl.int (Yl.shl (m := (Int.toNat ((remI ((remI p1 (8 * r39.length)) + ((8 * r39.length : Nat) : Int)) (8 * r39.length)) + ((k62 : Nat) : Int))) % 8) rfl rfl) (u8I_wrap _)) (GX.take (v := .int .u8 (((x83 ^^^ (u8I (1 * 2 ^ (min ((Int.toNat ((remI ((remI p1 (8 * r39.length)) + ((8 * r39.length : Nat) : Int)) (8 * r39.length)) + ((k62 : Nat) : Int))) % 8) IntKind.u8.bits)))).toNat : Nat) : Int)) (rs := [[]]) 12 rfl (by kernel_rfl) (fun _ _ => Yl.int (e := IntKind.u8.wrap (((BitVec.ofInt 8 ((x83.toNat : Nat) : Int) ^^^ BitVec.ofInt 8 (((u8I (1 * 2 ^ (min ((Int.toNat ((remI ((remI p1 (8 * r39.length)) + ((8 * r39.length : Nat) : Int)) (8 * r39.length)) + ((k62 : Nat) : Int))) % 8) IntKind.u8.bits))).toNat : Nat) : Int)).toNat : Nat) : Int)) yk (u8_xor x83 (u8I (1 * 2 ^ (min ((Int.toNat ((remI ((remI p1 (8 * r39.length)) + ((8 * r39.length : Nat) : Int)) (8 * r39.length)) + ((k62 : Nat) : Int))) % 8) IntKind.u8.bits))))) (GX.take (v := .pointer (some ⟨ab A45, ao A45 + ((Int.toNat ((remI ((remI p1 (8 * r39.length)) + ((8 * r39.length : Nat) : Int)) (8 * r39.length)) + ((k62 : Nat) : Int))) / 8) * 1, none⟩)) (rs := [[]]) 13 rfl (by kernel_rfl) (fun _ ⟨_, H9⟩ => Yl.indexAddr (El31) rfl rfl ((H9.rds (i := 0) rfl).addr (i := (Int.toNat ((remI ((remI p1 (8 * r39.length)) + ((8 * r39.length : Nat) : Int)) (8 * r39.length)) + ((k62 : Nat) : Int))) / 8) (by omega)) (by omega)) ?_)))
 refine GX.do0 14 rfl (by kernel_rfl) (Do.storeRow (vs := [.int .u8 (((x83 ^^^ (u8I (1 * 2 ^ (min ((Int.toNat ((remI ((remI p1 (8 * r39.length)) + ((8 * r39.length : Nat) : Int)) (8 * r39.length)) + ((k62 : Nat) : Int))) % 8) IntKind.u8.bits)))).toNat : Nat) : Int)]) (o := ((Int.toNat ((remI ((remI p1 (8 * r39.length)) + ((8 * r39.length : Nat) : Int)) (8 * r39.length)) + ((k62 : Nat) : Int))) / 8) * 1 + 0) (q := ao A45 + ((Int.toNat ((remI ((remI p1 (8 * r39.length)) + ((8 * r39.length : Nat) : Int)) (8 * r39.length)) + ((k62 : Nat) : Int))) / 8) * 1) H81 rfl (by omega) rfl Tryz.sizeOf5 rfl rfl (Nat.le_of_ble_eq_true rfl) (store_fits eB_len hx84 (Nat.le_of_ble_eq_true rfl)) (flat_set (y := (x83 ^^^ (u8I (1 * 2 ^ (min ((Int.toNat ((remI ((remI p1 (8 * r39.length)) + ((8 * r39.length : Nat) : Int)) (8 * r39.length)) + ((k62 : Nat) : Int))) % 8) IntKind.u8.bits))))) eB_len rfl (Nat.le_of_ble_eq_true rfl) hx84) ?_)
 intro w86 H87
 refine ⟨.inl (by kernel_rfl), ?_⟩
 refine GX.done (by kernel_rfl) (Fin.then (Wp.region (Az rfl (WL.nil (bN (Fin.then (Wp.region (Mz rfl (fw (.int .i64 ((k62 + 1 : Nat) : Int)) (Yl.int (e := IntKind.i64.wrap (((k62 : Nat) : Int) + 1)) yk (by rw [IntWalk.i64_in _ (by omega)]; omega)) (Az rfl (WL.nil ?_)))))))))))
 have H88 := H87.pk [0]
 exact Fin.round (true, k62 + 1, (List.set l63 ((Int.toNat ((remI ((remI p1 (8 * r39.length)) + ((8 * r39.length : Nat) : Int)) (8 * r39.length)) + ((k62 : Nat) : Int))) / 8) (x83 ^^^ (u8I (1 * 2 ^ (min ((Int.toNat ((remI ((remI p1 (8 * r39.length)) + ((8 * r39.length : Nat) : Int)) (8 * r39.length)) + ((k62 : Nat) : Int))) % 8) IntKind.u8.bits)))))) ⟨rfl, rfl, rfl, rfl, rfl, rfl, rfl, rfl, trivial⟩ (dm71.2 ⟨H88, (show List.length (List.set l63 ((Int.toNat ((remI ((remI p1 (8 * r39.length)) + ((8 * r39.length : Nat) : Int)) (8 * r39.length)) + ((k62 : Nat) : Int))) / 8) (x83 ^^^ (u8I (1 * 2 ^ (min ((Int.toNat ((remI ((remI p1 (8 * r39.length)) + ((8 * r39.length : Nat) : Int)) (8 * r39.length)) + ((k62 : Nat) : Int))) % 8) IntKind.u8.bits))))) = r39.length ∧ (k62 + 1) ≤ 32 ∧ w18_WireSpoilt_L0 p1 p2 r39 32 false 0 r39 = w18_WireSpoilt_L0 p1 p2 r39 (32 - (k62 + 1)) true (k62 + 1) (List.set l63 ((Int.toNat ((remI ((remI p1 (8 * r39.length)) + ((8 * r39.length : Nat) : Int)) (8 * r39.length)) + ((k62 : Nat) : Int))) / 8) (x83 ^^^ (u8I (1 * 2 ^ (min ((Int.toNat ((remI ((remI p1 (8 * r39.length)) + ((8 * r39.length : Nat) : Int)) (8 * r39.length)) + ((k62 : Nat) : Int))) % 8) IntKind.u8.bits))))) from ⟨by first | omega | (simp only [List.length_set]; omega) | (simp only [List.length_replicate]), by omega, Eq.trans (hq72) (Eq.trans (congrArg (fun q => w18_WireSpoilt_L0 p1 p2 r39 q b61 k62 l63) (sub_at (n := 32) (i := k62) (by omega))) (Eq.trans (if_pos h76) (Eq.trans (if_pos h79) (bnd_of (getD_of hx84)))))⟩)⟩) (by show 32 - (k62 + 1) < 32 - k62; omega)
 refine jF (dF h79) (Wp.skip (bN (Fin.then (Wp.region (Mz rfl (fw (.int .i64 ((k62 + 1 : Nat) : Int)) (Yl.int (e := IntKind.i64.wrap (((k62 : Nat) : Int) + 1)) yk (by rw [IntWalk.i64_in _ (by omega)]; omega)) (Az rfl (WL.nil ?_))))))))
 have H89 := H67.pk [0]
 exact Fin.round (b61, k62 + 1, l63) ⟨rfl, rfl, rfl, rfl, rfl, rfl, rfl, rfl, trivial⟩ (dm71.2 ⟨H89, by first | omega | (simp only [List.length_set]; omega) | (simp only [List.length_replicate]), by omega, Eq.trans (hq72) (Eq.trans (congrArg (fun q => w18_WireSpoilt_L0 p1 p2 r39 q b61 k62 l63) (sub_at (n := 32) (i := k62) (by omega))) (Eq.trans (if_pos h76) (if_neg h79)))⟩) (by show 32 - (k62 + 1) < 32 - k62; omega)
 refine jF (dF h76) (Wp.exit (Fin.thenX (Fin.thenX (Fin.blockX ?_))))
 have H90 := H67.pk [0]
 exact Fin.join (b61, l63) ⟨rfl, rfl, rfl, rfl, trivial⟩ (dm60.2 ⟨H90, by first | omega | (simp only [List.length_set]; omega) | (simp only [List.length_replicate]), bnd_of (Eq.trans (hq72) (Eq.trans (congrArg (fun q => w18_WireSpoilt_L0 p1 p2 r39 q b61 k62 l63) (sub_at (n := 32) (i := k62) (by omega))) (if_neg h76)))⟩)
 refine Sz (dF h75) (Sz (dF h75) (Sz (dF h75) (Sz (dF h75) (Sz (dF h75) (fw (.bool false) (Yl.pickF rfl (dF h75) rfl) (nt (jf (Wp.exit (Fin.thenX (Fin.thenX (Fin.blockX ?_)))))))))))
 have H91 := H67.pk [0]
 exact Fin.join (b61, l63) ⟨rfl, rfl, rfl, rfl, trivial⟩ (dm60.2 ⟨H91, by first | omega | (simp only [List.length_set]; omega) | (simp only [List.length_replicate]), bnd_of (Eq.trans (hq72) (Eq.trans (congrArg (fun q => w18_WireSpoilt_L0 p1 p2 r39 q b61 k62 l63) (sub_end (n := 32) (i := k62) (by omega))) rfl))⟩)
 rintro ⟨b56, l57⟩ w92 hf94
 show Wp _ _ _ [(11, .bool b56), (8, .slice A45 r39.length c46), (7, .bool r29), (6, .bool false)] _ _
 obtain ⟨H93, hi96, hj95⟩ := dm60.1 hf94
 refine sr (Mz rfl ?_)
 have hb102 := H93.rowC (i := 0) rfl
 obtain ⟨⟨r103, r104⟩, hr105⟩ : ∃ q : MsgT × Int, wire_Decode l57 = q := ⟨_, rfl⟩
 obtain ⟨D97, HP98, ro99, bk100, rr101⟩ := Own.enter0 H93
 refine cl Tryz.call13 (wire_Decode_ok _ _ A45 r39.length c46 l57 r103 r104 HP98 (rr101 _ 0 _ rfl row_rds) (by first | rfl | omega | (simp only [List.length_append, List.length_cons, List.length_nil, List.length_take, List.length_drop, List.length_set, List.length_replicate, List.length_map] <;> omega)) (by omega) (by first | omega | (simp only [List.length_take, List.length_drop]; omega) | exact Nat.le_refl _) hr105) ?_
 rintro _ w106 ⟨A109, c110, A111, c112, A113, c114, d115, rfl, HQ107, hd116, hk117⟩
 have H108 := bk100 _ _ HQ107
 have hl118 := abs_len hd116
 have hb119 := H108.rowC (i := 0) rfl
 have hb120 := H108.rowC (i := 1) rfl
 have hb121 := H108.rowC (i := 3) rfl
 replace hk117 : r103.xOps.ls.length ≤ 1000 ∧ r103.xResults.ls.length ≤ 1000 ∧ r103.xOwners.ls.length ≤ 1000 ∧ r103.xReq ≤ 18446744073709551615 ∧ r103.xBoot ≤ 18446744073709551615 ∧ r103.xTxn ≤ 18446744073709551615 ∧ r103.xLow ≤ 18446744073709551615 ∧ r103.xVer ≤ 18446744073709551615 ∧ r103.xEpoch ≤ 18446744073709551615 ∧ r103.xMove ≤ 18446744073709551615 ∧ r103.xAttempt ≤ 18446744073709551615 ∧ r103.xN ≤ 18446744073709551615 := hk117
 refine Mz rfl (Kz (.agg (MsgP r103 A109 c110 A111 c112 A113 c114).toArray) (Kz (.int .i64 r104) ?_))
 refine npw (MsgC 0 0 0 0 0 0 0 0 0 0 0 0 0 0 0 false ([]) ([]) none 0 0 none 0 0 none 0 0) 29 H108 ?_
 intro g122 w123 H124
 refine sto (MsgP r103 A109 c110 A111 c112 A113 c114) 0 H124 Tryz.sizeOf29 ?_
 intro w125 H126
 refine An rfl (Wp.seq ?_)
 have H127 := H126.pk [0, 1, 2, 3, 4]
 refine Wp.region (Mz rfl (Mz rfl ?_))
 rcases Bool.eq_false_or_eq_true (r29) with h128 | h128
 refine WL.valG (v := .bool b56) rfl rfl h128 rfl (Yl.move rfl) (WL.valG (v := .bool b56) rfl rfl h128 rfl (Yl.move rfl) ?_)
 rcases Bool.eq_false_or_eq_true (b56) with h129 | h129
 refine WL.valG (v := .int .i64 r104) rfl rfl h129 rfl (Yl.move rfl) (Gz (.bool (decide (r104 = 50))) h129 (WL.valG (v := .bool (decide (r104 = 50))) rfl rfl h128 rfl (Yl.pickT rfl h129 rfl) (WL.valG (v := .bool (decide (r104 = 50))) rfl rfl h128 rfl (Yl.move rfl) ?_)))
 by_cases h130 : r104 = 50
 refine Gz (.pointer (some ⟨g122, 0, none⟩)) (dT h130) (Gl (.int .i64 r103.xKind) (dT h130) H127 0 Tryz.isAgg3 (Gz (.bool (decide (r103.xKind = 0))) (dT h130) (WL.valG (v := .bool (decide (r103.xKind = 0))) rfl rfl h128 rfl (Yl.pickT rfl (dT h130) rfl) (WL.valG (v := .bool (decide (r103.xKind = 0))) rfl rfl h128 rfl (Yl.move rfl) ?_))))
 by_cases h131 : r103.xKind = 0
 refine Sz (dT h131) (Sz (dT h131) (Sz (dT h131) (WL.skipU rfl rfl rfl (WL.skipU rfl rfl rfl (Sz (dT h131) (WL.valG (v := .bool true) rfl rfl h128 rfl (Yl.pickT rfl (dT h131) rfl) (fw (.bool true) (Yl.pickT rfl h128 rfl) (An rfl (rt (rs ?_))))))))))
 have H132 := H127.pk []
 obtain rfl : _ = true := hr.symm.trans (et (bnd_of hr30) (et (bnd_of hr41) (et (ip h50) (et (iN h51) (et (bnd_of hj95) (et (bnd_of hr105) (et (ip h128) (et (ip h129) (et (ip h130) (ip h131))))))))))
 exact ⟨rfl, H132⟩
 refine gw (.bool b56) (dF h131) (Yl.move rfl) (Gz (.bool (!b56)) (dF h131) (gw (.bool (!b56)) (dF h131) (Yl.move rfl) (Sz (cn h129) (Sz (cn h129) (gw (.bool false) (dF h131) (Yl.pickF rfl (cn h129) rfl) (WL.valG (v := .bool false) rfl rfl h128 rfl (Yl.pickF rfl (dF h131) rfl) (fw (.bool false) (Yl.pickT rfl h128 rfl) (An rfl (rt (rs ?_))))))))))
 have H134 := H127.pk []
 obtain rfl : _ = false := hr.symm.trans (et (bnd_of hr30) (et (bnd_of hr41) (et (ip h50) (et (iN h51) (et (bnd_of hj95) (et (bnd_of hr105) (et (ip h128) (et (ip h129) (et (ip h130) (iN h131))))))))))
 exact ⟨rfl, H134⟩
 refine Sz (dF h130) (Sz (dF h130) (Sz (dF h130) (WL.valG (v := .bool false) rfl rfl h128 rfl (Yl.pickF rfl (dF h130) rfl) (WL.valG (v := .bool false) rfl rfl h128 rfl (Yl.move rfl) (gw (.bool b56) rfl (Yl.move rfl) (Gz (.bool (!b56)) rfl (gw (.bool (!b56)) rfl (Yl.move rfl) (Sz (cn h129) (Sz (cn h129) (gw (.bool false) rfl (Yl.pickF rfl (cn h129) rfl) (WL.valG (v := .bool false) rfl rfl h128 rfl (Yl.pickF rfl rfl rfl) (fw (.bool false) (Yl.pickT rfl h128 rfl) (An rfl (rt (rs ?_)))))))))))))))
 have H136 := H127.pk []
 obtain rfl : _ = false := hr.symm.trans (et (bnd_of hr30) (et (bnd_of hr41) (et (ip h50) (et (iN h51) (et (bnd_of hj95) (et (bnd_of hr105) (et (ip h128) (et (ip h129) (iN h130)))))))))
 exact ⟨rfl, H136⟩
 refine Sz h129 (Sz h129 (WL.valG (v := .bool false) rfl rfl h128 rfl (Yl.pickF rfl h129 rfl) (WL.valG (v := .bool false) rfl rfl h128 rfl (Yl.move rfl) (Sz rfl (Sz rfl (Sz rfl (WL.valG (v := .bool false) rfl rfl h128 rfl (Yl.pickF rfl rfl rfl) (WL.valG (v := .bool false) rfl rfl h128 rfl (Yl.move rfl) (gw (.bool b56) rfl (Yl.move rfl) (Gz (.bool (!b56)) rfl (gw (.bool (!b56)) rfl (Yl.move rfl) (gw (.int .i64 r104) (cn h129) (Yl.move rfl) (Gz (.bool (decide (r104 = 0))) (cn h129) (gw (.bool (decide (r104 = 0))) rfl (Yl.pickT rfl (cn h129) rfl) (WL.valG (v := .bool (decide (r104 = 0))) rfl rfl h128 rfl (Yl.pickF rfl rfl rfl) (fw (.bool (decide (r104 = 0))) (Yl.pickT rfl h128 rfl) (An rfl (rt (rs ?_)))))))))))))))))))
 have H138 := H127.pk []
 obtain rfl : _ = decide (r104 = 0) := hr.symm.trans (et (bnd_of hr30) (et (bnd_of hr41) (et (ip h50) (et (iN h51) (et (bnd_of hj95) (et (bnd_of hr105) (et (ip h128) (ifF h129))))))))
 exact ⟨rfl, H138⟩
 refine Sz h128 (Sz h128 (WL.skipU rfl rfl rfl (WL.skipU rfl rfl rfl (Sz h128 (Sz h128 (WL.skipU rfl rfl rfl (WL.skipU rfl rfl rfl (WL.skipU rfl rfl rfl (Sz h128 (Sz h128 (WL.skipU rfl rfl rfl (WL.skipU rfl rfl rfl (WL.skipU rfl rfl rfl (WL.skipU rfl rfl rfl (WL.skipU rfl rfl rfl (WL.skipU rfl rfl rfl (Sz h128 (fw (.bool false) (Yl.pickF rfl h128 rfl) (An rfl (rt (rs ?_)))))))))))))))))))))
 have H139 := H127.pk []
 obtain rfl : _ = false := hr.symm.trans (et (bnd_of hr30) (et (bnd_of hr41) (et (ip h50) (et (iN h51) (et (bnd_of hj95) (et (bnd_of hr105) (ifF h128)))))))
 exact ⟨rfl, H139⟩
 refine jT (dT h50) (sr (Mz rfl (Mz rfl ?_)))
 rcases Bool.eq_false_or_eq_true (r29) with h140 | h140
 refine WL.valG (v := .int .i64 r40) rfl rfl h140 rfl (Yl.move rfl) (Gz (.bool (decide (r40 = 180))) h140 (fw (.bool (decide (r40 = 180))) (Yl.pickT rfl h140 rfl) (An rfl (rt (tR (rs ?_))))))
 have H141 := H49.pk []
 obtain rfl : _ = decide (r40 = 180) := hr.symm.trans (et (bnd_of hr30) (et (bnd_of hr41) (et (iN h50) (ip h140))))
 exact ⟨rfl, H141⟩
 refine Sz h140 (Sz h140 (fw (.bool false) (Yl.pickF rfl h140 rfl) (An rfl (rt (tR (rs ?_))))))
 have H142 := H49.pk []
 obtain rfl : _ = false := hr.symm.trans (et (bnd_of hr30) (et (bnd_of hr41) (et (iN h50) (ifF h140))))
 exact ⟨rfl, H142⟩
end Go.Proofs.YtccjclalngabhaaGreat
