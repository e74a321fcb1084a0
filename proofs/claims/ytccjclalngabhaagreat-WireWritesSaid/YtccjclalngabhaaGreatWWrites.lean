/-
 wire: the law WireWrites
-/
import Derived.Test.YtccjclalngabhaaGreatWl
namespace Go.Proofs.YtccjclalngabhaaGreat
open Go.RowKit
set_option linter.unusedVariables false
set_option linter.unusedSectionVars false
set_option linter.unusedSimpArgs false
def w18_WireWrites_L1 : Nat → Unit
  | 0 => ()
  | q104 + 1 => w18_WireWrites_L1 q104
def w18_WireWrites_L0 (p0 : MsgT) (r29 : Bool) : Nat → Unit ⊕ Bool
  | 0 => Sum.inl ()
  | q35 + 1 => bnd (wire_Encode p0) fun yr51 => bnd (r18_Encode p0) fun yr66 => if yr51.1 ≠ yr66.1 then Sum.inr (false) else if yr51.2 = yr66.2 then bnd (wire_Check p0) fun yr86 => bnd (r18_Check p0) fun yr96 => if yr86 = yr96 then bnd (w18_WireWrites_L1 yr51.1.length) fun _ => w18_WireWrites_L0 p0 r29 q35 else Sum.inr (false) else Sum.inr (false)
def w18_WireWrites (p0 : MsgT) : Bool :=
 bnd (w18_live) fun yr29 => lp (w18_WireWrites_L0 p0 yr29 2) fun _ => yr29
set_option maxRecDepth 100000 in
set_option maxHeartbeats 4000000 in
theorem w18_WireWrites_ok (w : World) (D : Nat → Prop) (p0 : MsgT) (A0x0 : Option Addr) (n0x0 c0x0 : Nat) (A0x1 : Option Addr) (n0x1 c0x1 : Nat) (d0x1 : List ResultD) (A0x2 : Option Addr) (n0x2 c0x2 : Nat) (r0 : Bool) (H : Own w D w []) (hn0x0 : n0x0 = p0.xOps.ls.length) (hx0x0 : Ro w D fun w' => Rds w' 6 A0x0 p0.xOps.ls.length (List.flatMap OpD.cells p0.xOps.ls)) (hb0x0 : p0.xOps.ls.length ≤ c0x0 ∧ p0.xOps.ls.length ≤ 9223372036854775807) (hd0x1 : List.map ResultD.abs d0x1 = p0.xResults.ls) (hn0x1 : n0x1 = p0.xResults.ls.length) (hx0x1 : Ro w D fun w' => Rds w' 3 A0x1 p0.xResults.ls.length (List.flatMap ResultD.cells d0x1)) (hb0x1 : p0.xResults.ls.length ≤ c0x1 ∧ p0.xResults.ls.length ≤ 9223372036854775807) (hm0x1 : ∀ x ∈ d0x1, Ro w D (fun w' => Rds w' 2 x.xPairs.A x.xPairs.ls.length (List.flatMap PairD.cells x.xPairs.ls)) ∧ (x.xPairs.ls.length ≤ x.xPairs.c ∧ x.xPairs.ls.length ≤ 9223372036854775807)) (hn0x2 : n0x2 = p0.xOwners.ls.length) (hx0x2 : Ro w D fun w' => Rds w' 2 A0x2 p0.xOwners.ls.length (List.flatMap OwnerD.cells p0.xOwners.ls)) (hb0x2 : p0.xOwners.ls.length ≤ c0x2 ∧ p0.xOwners.ls.length ≤ 9223372036854775807) (hh0 : (-9223372036854775808) ≤ p0.xKind ∧ p0.xKind ≤ 9223372036854775807) (hh1 : (-9223372036854775808) ≤ p0.xFrom ∧ p0.xFrom ≤ 9223372036854775807) (hh2 : (-9223372036854775808) ≤ p0.xTo ∧ p0.xTo ≤ 9223372036854775807) (hh3 : (-9223372036854775808) ≤ p0.xClient ∧ p0.xClient ≤ 9223372036854775807) (hh4 : (-9223372036854775808) ≤ p0.xCode ∧ p0.xCode ≤ 9223372036854775807) (hh5 : (-9223372036854775808) ≤ p0.xPeer ∧ p0.xPeer ≤ 9223372036854775807) (hh6 : p0.xReq ≤ 18446744073709551615) (hh7 : p0.xBoot ≤ 18446744073709551615) (hh8 : p0.xTxn ≤ 18446744073709551615) (hh9 : p0.xLow ≤ 18446744073709551615) (hh10 : p0.xVer ≤ 18446744073709551615) (hh11 : p0.xEpoch ≤ 18446744073709551615) (hh12 : p0.xMove ≤ 18446744073709551615) (hh13 : p0.xAttempt ≤ 18446744073709551615) (hh14 : p0.xN ≤ 18446744073709551615) (hh15 : p0.xRange.xLo.length ≤ 140737488351232) (hh16 : p0.xRange.xHi.length ≤ 140737488351232) (hh17 : p0.xOps.ls.length * 80 ≤ 140737488351232) (hh18 : p0.xResults.ls.length * 48 ≤ 140737488351232) (hh19 : p0.xOwners.ls.length * 24 ≤ 140737488351232) (hr : w18_WireWrites p0 = r0) :
    Calls Tryz.prog 3 #[.agg (MsgC p0.xKind p0.xFrom p0.xTo p0.xClient p0.xCode p0.xPeer p0.xReq p0.xBoot p0.xTxn p0.xLow p0.xVer p0.xEpoch p0.xMove p0.xAttempt p0.xN p0.xFlag p0.xRange.xLo p0.xRange.xHi A0x0 n0x0 c0x0 A0x1 n0x1 c0x1 A0x2 n0x2 c0x2).toArray] w (Ret fun v w' => v = .bool r0 ∧ Own w D w' []) := by
 subst hn0x0 hn0x1 hn0x2
 have hdl0x1 := abs_len hd0x1
 refine Calls.body (args := [.agg (MsgP p0 A0x0 c0x0 A0x1 c0x1 A0x2 c0x2).toArray]) Tryz.func3 rfl rfl rfl ?_
 show Wp _ _ _ [(0, .agg (MsgP p0 A0x0 c0x0 A0x1 c0x1 A0x2 c0x2).toArray)] _ _
 refine sr ?_
 refine npw (MsgP p0 A0x0 c0x0 A0x1 c0x1 A0x2 c0x2) 29 H ?_
 intro g21 w22 H23
 refine Ar rfl ?_
 obtain ⟨r29, hr30⟩ : ∃ q, w18_live = q := ⟨_, rfl⟩
 obtain ⟨D24, HP25, ro26, bk27, rr28⟩ := Own.enter0 H23
 refine cl Tryz.call8 (w18_live_ok _ _ r29 HP25 hr30) ?_
 rintro _ w31 ⟨rfl, HQ32⟩
 have H33 := bk27 _ _ HQ32
 refine An rfl (Wp.seq (sr (Mn rfl (bo ?_))))
 have H36 := H33.pk [0]
 obtain ⟨I40, hI41⟩ : ∃ q : Nat → World → Prop, q = fun (i : Nat) w' => Own w D w' [blk g21 (MsgP p0 A0x0 c0x0 A0x1 c0x1 A0x2 c0x2) 29] ∧ (i ≤ 2 ∧ w18_WireWrites_L0 p0 r29 2 = w18_WireWrites_L0 p0 r29 (2 - i)) := ⟨_, rfl⟩
 have dm42 : ∀ {k34 : Nat} {w' : World}, I40 k34 w' ↔ Own w D w' [blk g21 (MsgP p0 A0x0 c0x0 A0x1 c0x1 A0x2 c0x2) 29] ∧ k34 ≤ 2 ∧ w18_WireWrites_L0 p0 r29 2 = w18_WireWrites_L0 p0 r29 (2 - k34) := by intros; subst hI41; exact Iff.rfl
 refine Wp.loop (fun i : Nat => [(2, .bool false), (10, .int .i64 ((i : Nat) : Int)), (3, .bool r29), (1, .pointer (some ⟨g21, 0, none⟩))]) I40 (fun i => 2 - i) 0 ⟨rfl, rfl, rfl, rfl, trivial⟩ (dm42.2 ⟨H36, by omega, rfl⟩) ?_
 rintro k34 w37 hf39
 show Wp _ _ _ [(2, .bool false), (10, .int .i64 ((k34 : Nat) : Int)), (3, .bool r29), (1, .pointer (some ⟨g21, 0, none⟩))] _ _
 obtain ⟨H38, hi44, hq43⟩ := dm42.1 hf39
 refine sr (Kz (.bool (decide (((k34 : Nat) : Int) < 2))) (nt (Wp.seq ?_)))
 by_cases h45 : ((k34 : Nat) : Int) < 2
 refine jT (dT h45) (sk (Wp.seq (bo (sr (La (MsgP p0 A0x0 c0x0 A0x1 c0x1 A0x2 c0x2) H38 0 Tryz.isAgg29 Tryz.sizeOf29 ?_)))))
 obtain ⟨⟨r51, r52⟩, hr53⟩ : ∃ q : (List UInt8) × Int, wire_Encode p0 = q := ⟨_, rfl⟩
 obtain ⟨D46, HP47, ro48, bk49, rr50⟩ := Own.enter0 H38
 refine cl Tryz.call9 (wire_Encode_ok _ _ p0 A0x0 p0.xOps.ls.length c0x0 A0x1 p0.xResults.ls.length c0x1 d0x1 A0x2 p0.xOwners.ls.length c0x2 r51 r52 HP47 rfl (ro48 _ hx0x0) (show p0.xOps.ls.length ≤ c0x0 ∧ p0.xOps.ls.length ≤ 9223372036854775807 from by omega) hd0x1 rfl (ro48 _ hx0x1) (show p0.xResults.ls.length ≤ c0x1 ∧ p0.xResults.ls.length ≤ 9223372036854775807 from by omega) (fun x9 h9 => ⟨ro48 _ (hm0x1 x9 h9).1, (hm0x1 x9 h9).2⟩) rfl (ro48 _ hx0x2) (show p0.xOwners.ls.length ≤ c0x2 ∧ p0.xOwners.ls.length ≤ 9223372036854775807 from by omega) (by first | omega | (dsimp only; omega) | (simp only [List.length_nil]; omega)) (by first | omega | (dsimp only; omega) | (simp only [List.length_nil]; omega)) hr53) ?_
 rintro _ w54 ⟨A57, c58, rfl, HQ55, hk59⟩
 have H56 := bk49 _ _ HQ55
 have hb60 := H56.rowC (i := 0) rfl
 replace hk59 : r51.length ≤ 51000 := hk59
 refine Mz rfl (Kz (.slice A57 r51.length c58) (Kz (.int .i64 r52) (Az rfl (Ar rfl (La (MsgP p0 A0x0 c0x0 A0x1 c0x1 A0x2 c0x2) H56 1 Tryz.isAgg29 Tryz.sizeOf29 ?_)))))
 obtain ⟨⟨r66, r67⟩, hr68⟩ : ∃ q : (List UInt8) × Int, r18_Encode p0 = q := ⟨_, rfl⟩
 obtain ⟨D61, HP62, ro63, bk64, rr65⟩ := Own.enter0 H56
 refine cl Tryz.call10 (r18_Encode_ok _ _ p0 A0x0 p0.xOps.ls.length c0x0 A0x1 p0.xResults.ls.length c0x1 d0x1 A0x2 p0.xOwners.ls.length c0x2 r66 r67 HP62 rfl (ro63 _ hx0x0) (show p0.xOps.ls.length ≤ c0x0 ∧ p0.xOps.ls.length ≤ 9223372036854775807 from by omega) hd0x1 rfl (ro63 _ hx0x1) (show p0.xResults.ls.length ≤ c0x1 ∧ p0.xResults.ls.length ≤ 9223372036854775807 from by omega) (fun x9 h9 => ⟨ro63 _ (hm0x1 x9 h9).1, (hm0x1 x9 h9).2⟩) rfl (ro63 _ hx0x2) (show p0.xOwners.ls.length ≤ c0x2 ∧ p0.xOwners.ls.length ≤ 9223372036854775807 from by omega) (by first | omega | (dsimp only; omega) | (simp only [List.length_nil]; omega)) hr68) ?_
 rintro _ w69 ⟨A72, c73, rfl, HQ70, hk74⟩
 have H71 := bk64 _ _ HQ70
 have hb75 := H71.rowC (i := 0) rfl
 replace hk74 : r66.length ≤ 1100000 := hk74
 refine Mz rfl (Kz (.slice A72 r66.length c73) (Kz (.int .i64 r67) (Az rfl (An rfl (Wp.seq (Wp.seq ?_))))))
 have H77 := H71.drew
 refine Wp.drawnX [] (fun W => ∃ L', Own w D W ([row A72 r66.length c73 (List.flatMap eB r66) 5 1, row A57 r51.length c58 (List.flatMap eB r51) 5 1, blk g21 (MsgP p0 A0x0 c0x0 A0x1 c0x1 A0x2 c0x2) 29] ++ L')) (by kernel_rfl) (by kernel_rfl) (NoP.then (NoP.then (NoP.block (NoP.then (NoP.then (NoP.block (NoP.then NoP.base))))))) ⟨_, H77⟩ ?_
 revert H77
 generalize World.drew w69 = w76
 intro H77
 refine GX.take (v := .slice A57 r51.length c58) (rs := []) 0 rfl (by kernel_rfl) (fun _ _ => Yl.move rfl) (GX.take (v := .string ⟨List.toArray r51⟩) (rs := []) 1 rfl (by kernel_rfl) (fun _ ⟨_, H9⟩ => Yl.toStringE (l := r51) Tryz.underlying31 Tryz.underlying5 Tryz.underlying9 (H9.rds (i := 1) rfl) rfl) (GX.take (v := .slice A72 r66.length c73) (rs := []) 2 rfl (by kernel_rfl) (fun _ _ => Yl.move rfl) (GX.take (v := .string ⟨List.toArray r66⟩) (rs := []) 3 rfl (by kernel_rfl) (fun _ ⟨_, H9⟩ => Yl.toStringE (l := r66) Tryz.underlying31 Tryz.underlying5 Tryz.underlying9 (H9.rds (i := 0) rfl) rfl) (GX.take (v := .bool (decide (r51 ≠ r66))) (rs := []) 4 rfl (by kernel_rfl) (fun _ _ => Yl.strNe rfl rfl) (GX.take (v := .bool (decide (r51 ≠ r66))) (rs := []) 5 rfl (by kernel_rfl) (fun _ _ => Yl.move rfl) ?_)))))
 by_cases h78 : r51 ≠ r66
 refine GX.skipG (rs := []) 6 rfl rfl rfl (dT h78) (by kernel_rfl) (GX.skipG (rs := []) 7 rfl rfl rfl (dT h78) (by kernel_rfl) (GX.skipG (rs := []) 8 rfl rfl rfl (dT h78) (by kernel_rfl) (GX.take (v := .bool true) (rs := []) 9 rfl (by kernel_rfl) (fun _ _ => Yl.pickT rfl (dT h78) rfl) (GX.take (v := .bool true) (rs := []) 10 rfl (by kernel_rfl) (fun _ _ => Yl.move rfl) (GX.skipG (rs := []) 11 rfl rfl rfl rfl (by kernel_rfl) (GX.skipG (rs := []) 12 rfl rfl rfl rfl (by kernel_rfl) (GX.skipG (rs := []) 13 rfl rfl rfl rfl (by kernel_rfl) (GX.skipG (rs := []) 14 rfl rfl rfl rfl (by kernel_rfl) (GX.skipG (rs := []) 15 rfl rfl rfl rfl (by kernel_rfl) (GX.take (v := .bool true) (rs := []) 16 rfl (by kernel_rfl) (fun _ _ => Yl.pickT rfl rfl rfl) (GX.done (by kernel_rfl) (Fin.then (jt (sr (An rfl (rt (tR (bR (tR (tR (bR (tR (rs ?_)))))))))))))))))))))))
 have H79 := H77.pk []
 obtain rfl : _ = false := hr.symm.trans (et (bnd_of hr30) (lp_r (et (hq43) (et (congrArg (fun q => w18_WireWrites_L0 p0 r29 q) (sub_at (n := 2) (i := k34) (by omega))) (et (bnd_of hr53) (et (bnd_of hr68) (ip h78)))))))
 exact ⟨rfl, H79⟩
 refine GX.takeG (v := .int .i64 r52) (rs := []) 6 rfl rfl rfl (dF h78) (by kernel_rfl) (fun _ _ => Yl.move rfl) (GX.takeG (v := .int .i64 r67) (rs := []) 7 rfl rfl rfl (dF h78) (by kernel_rfl) (fun _ _ => Yl.move rfl) (GX.takeG (v := .bool (decide (¬ (r52 = r67)))) (rs := []) 8 rfl rfl rfl (dF h78) (by kernel_rfl) (fun _ _ => Yl.bool (e := !(decide (r52 = r67))) yk decide_not.symm) (GX.take (v := .bool (decide (¬ (r52 = r67)))) (rs := []) 9 rfl (by kernel_rfl) (fun _ _ => Yl.pickF rfl (dF h78) rfl) (GX.take (v := .bool (decide (¬ (r52 = r67)))) (rs := []) 10 rfl (by kernel_rfl) (fun _ _ => Yl.move rfl) ?_))))
 by_cases h80 : r52 = r67
 refine GX.takeG (v := .agg (MsgP p0 A0x0 c0x0 A0x1 c0x1 A0x2 c0x2).toArray) (rs := []) 11 rfl rfl rfl (dF (not_not_intro h80)) (by kernel_rfl) (fun _ ⟨_, H9⟩ => Yl.load rfl (Lds.agg (cs := (MsgP p0 A0x0 c0x0 A0x1 c0x1 A0x2 c0x2)) Tryz.isAgg29 Tryz.sizeOf29 ((H9.cls (i := 2) rfl).lit (k := 0) (m := 21) rfl))) (GX.takeG (v := .agg (MsgP p0 A0x0 c0x0 A0x1 c0x1 A0x2 c0x2).toArray) (rs := []) 13 rfl rfl rfl (dF (not_not_intro h80)) (by kernel_rfl) (fun _ ⟨_, H9⟩ => Yl.load rfl (Lds.agg (cs := (MsgP p0 A0x0 c0x0 A0x1 c0x1 A0x2 c0x2)) Tryz.isAgg29 Tryz.sizeOf29 ((H9.cls (i := 2) rfl).lit (k := 0) (m := 21) rfl))) ?_)
 obtain ⟨r86, hr87⟩ : ∃ q, wire_Check p0 = q := ⟨_, rfl⟩
 obtain ⟨D81, HP82, ro83, bk84, rr85⟩ := Own.enter0 H77
 refine GX.doG 12 rfl rfl rfl (decide_eq_false (not_not_intro h80)) (by kernel_rfl) (Do.call Tryz.call11 rfl (wire_Check_ok _ _ p0 A0x0 p0.xOps.ls.length c0x0 A0x1 p0.xResults.ls.length c0x1 d0x1 A0x2 p0.xOwners.ls.length c0x2 r86 HP82 rfl (ro83 _ hx0x0) (show p0.xOps.ls.length ≤ c0x0 ∧ p0.xOps.ls.length ≤ 9223372036854775807 from by omega) hd0x1 rfl (ro83 _ hx0x1) (show p0.xResults.ls.length ≤ c0x1 ∧ p0.xResults.ls.length ≤ 9223372036854775807 from by omega) (fun x9 h9 => ⟨ro83 _ (hm0x1 x9 h9).1, (hm0x1 x9 h9).2⟩) rfl (ro83 _ hx0x2) (show p0.xOwners.ls.length ≤ c0x2 ∧ p0.xOwners.ls.length ≤ 9223372036854775807 from by omega) (by first | omega | (dsimp only; omega) | (simp only [List.length_nil]; omega)) hr87) ?_)
 rintro _ w88 ⟨rfl, HQ89⟩
 have H90 := bk84 _ _ HQ89
 refine ⟨.inr ⟨_, H90⟩, ?_⟩
 obtain ⟨r96, hr97⟩ : ∃ q, r18_Check p0 = q := ⟨_, rfl⟩
 obtain ⟨D91, HP92, ro93, bk94, rr95⟩ := Own.enter0 H90
 refine GX.doG 14 rfl rfl rfl (dF (not_not_intro h80)) (by kernel_rfl) (Do.call Tryz.call12 rfl (r18_Check_ok _ _ p0 A0x0 p0.xOps.ls.length c0x0 A0x1 p0.xResults.ls.length c0x1 d0x1 A0x2 p0.xOwners.ls.length c0x2 r96 HP92 rfl (ro93 _ hx0x0) (show p0.xOps.ls.length ≤ c0x0 ∧ p0.xOps.ls.length ≤ 9223372036854775807 from by omega) hd0x1 rfl (ro93 _ hx0x1) (show p0.xResults.ls.length ≤ c0x1 ∧ p0.xResults.ls.length ≤ 9223372036854775807 from by omega) (fun x9 h9 => ⟨ro93 _ (hm0x1 x9 h9).1, (hm0x1 x9 h9).2⟩) rfl (ro93 _ hx0x2) (show p0.xOwners.ls.length ≤ c0x2 ∧ p0.xOwners.ls.length ≤ 9223372036854775807 from by omega) hr97) ?_)
 rintro _ w98 ⟨rfl, HQ99⟩
 have H100 := bk94 _ _ HQ99
 refine ⟨.inr ⟨_, H100⟩, ?_⟩
 refine GX.takeG (v := .bool (decide (¬ (r86 = r96)))) (rs := []) 15 rfl rfl rfl (dF (not_not_intro h80)) (by kernel_rfl) (fun _ _ => Yl.bool (e := !(decide (r86 = r96))) yk decide_not.symm) (GX.take (v := .bool (decide (¬ (r86 = r96)))) (rs := []) 16 rfl (by kernel_rfl) (fun _ _ => Yl.pickF rfl (dF (not_not_intro h80)) rfl) (GX.done (by kernel_rfl) (Fin.then ?_)))
 by_cases h101 : r86 = r96
 refine jF (dF (not_not_intro h101)) (sk (sr (Mz rfl (Kz (.int .i64 ((r51.length : Nat) : Int)) (Mn rfl (bo ?_))))))
 have H105 := H100.pk [0, 1, 2]
 obtain ⟨I109, hI110⟩ : ∃ q : (Nat × (List UInt8)) → World → Prop, q = fun (i : Nat × (List UInt8)) w' => Own w D w' [row A72 r66.length c73 (List.flatMap eB r66) 5 1, row A57 r51.length c58 (List.flatMap eB i.2) 5 1, blk g21 (MsgP p0 A0x0 c0x0 A0x1 c0x1 A0x2 c0x2) 29] ∧ (i.2.length = r51.length ∧ i.1 ≤ r51.length ∧ w18_WireWrites_L1 r51.length = w18_WireWrites_L1 (r51.length - i.1)) := ⟨_, rfl⟩
 have dm111 : ∀ {k102 : Nat} {l103 : List UInt8} {w' : World}, I109 (k102, l103) w' ↔ Own w D w' [row A72 r66.length c73 (List.flatMap eB r66) 5 1, row A57 r51.length c58 (List.flatMap eB l103) 5 1, blk g21 (MsgP p0 A0x0 c0x0 A0x1 c0x1 A0x2 c0x2) 29] ∧ l103.length = r51.length ∧ k102 ≤ r51.length ∧ w18_WireWrites_L1 r51.length = w18_WireWrites_L1 (r51.length - k102) := by intros; subst hI110; exact Iff.rfl
 refine Wp.loop (fun i : Nat × (List UInt8) => [(41, .int .i64 ((i.1 : Nat) : Int)), (40, .int .i64 ((r51.length : Nat) : Int)), (39, .slice A57 r51.length c58), (38, .bool (decide (¬ (r86 = r96)))), (37, .bool (decide (¬ (r86 = r96)))), (36, .int .i64 r96), (34, .int .i64 r86), (35, .agg (MsgP p0 A0x0 c0x0 A0x1 c0x1 A0x2 c0x2).toArray), (33, .agg (MsgP p0 A0x0 c0x0 A0x1 c0x1 A0x2 c0x2).toArray), (32, .bool (decide (¬ (r52 = r67)))), (31, .bool (decide (¬ (r52 = r67)))), (30, .bool (decide (¬ (r52 = r67)))), (29, .int .i64 r67), (28, .int .i64 r52), (27, .bool (decide (r51 ≠ r66))), (26, .bool (decide (r51 ≠ r66))), (25, .string ⟨List.toArray r66⟩), (24, .slice A72 r66.length c73), (23, .string ⟨List.toArray r51⟩), (22, .slice A57 r51.length c58), (7, .int .i64 r67), (6, .slice A72 r66.length c73), (21, .int .i64 r67), (20, .slice A72 r66.length c73), (17, .tuple #[.slice A72 r66.length c73, .int .i64 r67]), (19, .tuple #[.slice A72 r66.length c73, .int .i64 r67]), (18, .agg (MsgP p0 A0x0 c0x0 A0x1 c0x1 A0x2 c0x2).toArray), (5, .int .i64 r52), (4, .slice A57 r51.length c58), (16, .int .i64 r52), (15, .slice A57 r51.length c58), (12, .tuple #[.slice A57 r51.length c58, .int .i64 r52]), (14, .tuple #[.slice A57 r51.length c58, .int .i64 r52]), (13, .agg (MsgP p0 A0x0 c0x0 A0x1 c0x1 A0x2 c0x2).toArray), (11, .bool (decide (((k34 : Nat) : Int) < 2))), (2, .bool false), (10, .int .i64 ((k34 : Nat) : Int)), (3, .bool r29), (1, .pointer (some ⟨g21, 0, none⟩))]) I109 (fun i => r51.length - i.1) (0, r51) ⟨rfl, rfl, rfl, rfl, rfl, rfl, rfl, rfl, rfl, rfl, rfl, rfl, rfl, rfl, rfl, rfl, rfl, rfl, rfl, rfl, rfl, rfl, rfl, rfl, rfl, rfl, rfl, rfl, rfl, rfl, rfl, rfl, rfl, rfl, rfl, rfl, rfl, rfl, rfl, trivial⟩ (dm111.2 ⟨H105, by first | omega | (simp only [List.length_set]; omega) | (simp only [List.length_replicate]), by omega, rfl⟩) ?_
 rintro ⟨k102, l103⟩ w106 hf108
 show Wp _ _ _ [(41, .int .i64 ((k102 : Nat) : Int)), (40, .int .i64 ((r51.length : Nat) : Int)), (39, .slice A57 r51.length c58), (38, .bool (decide (¬ (r86 = r96)))), (37, .bool (decide (¬ (r86 = r96)))), (36, .int .i64 r96), (34, .int .i64 r86), (35, .agg (MsgP p0 A0x0 c0x0 A0x1 c0x1 A0x2 c0x2).toArray), (33, .agg (MsgP p0 A0x0 c0x0 A0x1 c0x1 A0x2 c0x2).toArray), (32, .bool (decide (¬ (r52 = r67)))), (31, .bool (decide (¬ (r52 = r67)))), (30, .bool (decide (¬ (r52 = r67)))), (29, .int .i64 r67), (28, .int .i64 r52), (27, .bool (decide (r51 ≠ r66))), (26, .bool (decide (r51 ≠ r66))), (25, .string ⟨List.toArray r66⟩), (24, .slice A72 r66.length c73), (23, .string ⟨List.toArray r51⟩), (22, .slice A57 r51.length c58), (7, .int .i64 r67), (6, .slice A72 r66.length c73), (21, .int .i64 r67), (20, .slice A72 r66.length c73), (17, .tuple #[.slice A72 r66.length c73, .int .i64 r67]), (19, .tuple #[.slice A72 r66.length c73, .int .i64 r67]), (18, .agg (MsgP p0 A0x0 c0x0 A0x1 c0x1 A0x2 c0x2).toArray), (5, .int .i64 r52), (4, .slice A57 r51.length c58), (16, .int .i64 r52), (15, .slice A57 r51.length c58), (12, .tuple #[.slice A57 r51.length c58, .int .i64 r52]), (14, .tuple #[.slice A57 r51.length c58, .int .i64 r52]), (13, .agg (MsgP p0 A0x0 c0x0 A0x1 c0x1 A0x2 c0x2).toArray), (11, .bool (decide (((k34 : Nat) : Int) < 2))), (2, .bool false), (10, .int .i64 ((k34 : Nat) : Int)), (3, .bool r29), (1, .pointer (some ⟨g21, 0, none⟩))] _ _
 obtain ⟨H107, hi113, hi114, hq112⟩ := dm111.1 hf108
 refine sr (Kz (.bool (decide (((k102 : Nat) : Int) < ((r51.length : Nat) : Int)))) (nt (Wp.seq ?_)))
 by_cases h115 : ((k102 : Nat) : Int) < ((r51.length : Nat) : Int)
 refine jT (dT h115) (sk (Wp.seq (bo (sr (Mz rfl (An rfl (Wp.region (Mz rfl (Mz rfl ?_)))))))))
 obtain ⟨x116, hx117⟩ := rds_at (ls := l103) (i := k102) eB_len (by decide) (H107.rds (i := 1) rfl) (by first | omega | (simp; done) | (simp; omega))
 refine fw (.pointer (some ⟨ab A57, ao A57 + k102 * 1, none⟩)) (Yl.indexAddr (El31) rfl rfl ((H107.rds (i := 1) rfl).addr (i := k102) (by omega)) (by omega)) (fw (.int .u8 ((x116.toNat : Nat) : Int)) (Yl.load rfl (Lds.one Tryz.isAgg5 (((H107.rds (i := 1) rfl).elem eB_len hx117 (by decide)).at_ (k := 0) rfl))) (fw (.int .u8 (((x116 + (1 : UInt8)).toNat : Nat) : Int)) (Yl.int (e := IntKind.u8.wrap (((x116.toNat : Nat) : Int) + 1)) yk (u8_add x116 (1 : UInt8))) (fw (.pointer (some ⟨ab A57, ao A57 + k102 * 1, none⟩)) (Yl.indexAddr (El31) rfl rfl ((H107.rds (i := 1) rfl).addr (i := k102) (by omega)) (by omega)) ?_)))
 have H118 := H107.pk [1, 0, 2]
 refine WL.do0 (Do.storeRow (vs := [.int .u8 (((x116 + (1 : UInt8)).toNat : Nat) : Int)]) (o := k102 * 1 + 0) (q := ao A57 + k102 * 1) H118 rfl (by omega) rfl Tryz.sizeOf5 rfl rfl (Nat.le_of_ble_eq_true rfl) (store_fits eB_len hx117 (Nat.le_of_ble_eq_true rfl)) (flat_set (y := (x116 + (1 : UInt8))) eB_len rfl (Nat.le_of_ble_eq_true rfl) hx117) ?_)
 intro w119 H120
 refine WL.nil (bN (Fin.then (Wp.region (fw (.int .i64 ((k102 + 1 : Nat) : Int)) (Yl.int (e := IntKind.i64.wrap (((k102 : Nat) : Int) + 1)) yk (by rw [IntWalk.i64_in _ (by omega)]; omega)) (Mz rfl (WL.nil ?_))))))
 have H121 := H120.pk [1, 0, 2]
 exact Fin.round (k102 + 1, (List.set l103 k102 (x116 + (1 : UInt8)))) ⟨rfl, rfl, rfl, rfl, rfl, rfl, rfl, rfl, rfl, rfl, rfl, rfl, rfl, rfl, rfl, rfl, rfl, rfl, rfl, rfl, rfl, rfl, rfl, rfl, rfl, rfl, rfl, rfl, rfl, rfl, rfl, rfl, rfl, rfl, rfl, rfl, rfl, rfl, rfl, trivial⟩ (dm111.2 ⟨H121, by first | omega | (simp only [List.length_set]; omega) | (simp only [List.length_replicate]), by omega, Eq.trans (hq112) (Eq.trans (congrArg (fun q => w18_WireWrites_L1 q) (sub_at (n := r51.length) (i := k102) (by omega))) rfl)⟩) (by show r51.length - (k102 + 1) < r51.length - k102; omega)
 refine jF (dF h115) (Wp.exit (Fin.thenX ?_))
 have hL122 : w18_WireWrites_L1 r51.length = () := et (hq112) (et (congrArg (fun q => w18_WireWrites_L1 q) (sub_end (n := r51.length) (i := k102) (by omega))) rfl)
 refine Fin.thenX (Fin.blockX (bN (Fin.then (Wp.region (fw (.int .i64 ((k34 + 1 : Nat) : Int)) (Yl.int (e := IntKind.i64.wrap (((k34 : Nat) : Int) + 1)) yk (by rw [IntWalk.i64_in _ (by omega)]; omega)) (Mz rfl (WL.nil ?_)))))))
 have H123 := H107.pk [2]
 exact Fin.round (k34 + 1) ⟨rfl, rfl, rfl, rfl, trivial⟩ (dm42.2 ⟨H123, by omega, et (hq43) (et (congrArg (fun q => w18_WireWrites_L0 p0 r29 q) (sub_at (n := 2) (i := k34) (by omega))) (et (bnd_of hr53) (et (bnd_of hr68) (et (iN h78) (et (ip h80) (et (bnd_of hr87) (et (bnd_of hr97) (et (ip h101) (bnd_of hL122)))))))))⟩) (by show 2 - (k34 + 1) < 2 - k34; omega)
 refine jT (dT h101) (sr (An rfl (rt (tR (bR (tR (tR (bR (tR (rs ?_))))))))))
 have H124 := H100.pk []
 obtain rfl : _ = false := hr.symm.trans (et (bnd_of hr30) (lp_r (et (hq43) (et (congrArg (fun q => w18_WireWrites_L0 p0 r29 q) (sub_at (n := 2) (i := k34) (by omega))) (et (bnd_of hr53) (et (bnd_of hr68) (et (iN h78) (et (ip h80) (et (bnd_of hr87) (et (bnd_of hr97) (iN h101)))))))))))
 exact ⟨rfl, H124⟩
 refine GX.skipG (rs := []) 11 rfl rfl rfl (dT h80) (by kernel_rfl) (GX.skipG (rs := []) 12 rfl rfl rfl (dT h80) (by kernel_rfl) (GX.skipG (rs := []) 13 rfl rfl rfl (dT h80) (by kernel_rfl) (GX.skipG (rs := []) 14 rfl rfl rfl (dT h80) (by kernel_rfl) (GX.skipG (rs := []) 15 rfl rfl rfl (dT h80) (by kernel_rfl) (GX.take (v := .bool true) (rs := []) 16 rfl (by kernel_rfl) (fun _ _ => Yl.pickT rfl (dT h80) rfl) (GX.done (by kernel_rfl) (Fin.then (jt (sr (An rfl (rt (tR (bR (tR (tR (bR (tR (rs ?_))))))))))))))))))
 have H125 := H77.pk []
 obtain rfl : _ = false := hr.symm.trans (et (bnd_of hr30) (lp_r (et (hq43) (et (congrArg (fun q => w18_WireWrites_L0 p0 r29 q) (sub_at (n := 2) (i := k34) (by omega))) (et (bnd_of hr53) (et (bnd_of hr68) (et (iN h78) (iN h80))))))))
 exact ⟨rfl, H125⟩
 refine jF (dF h45) (Wp.exit (Fin.thenX ?_))
 have hL126 : w18_WireWrites_L0 p0 r29 2 = Sum.inl () := et (hq43) (et (congrArg (fun q => w18_WireWrites_L0 p0 r29 q) (sub_end (n := 2) (i := k34) (by omega))) rfl)
 refine Fin.thenX (Fin.blockX (Fin.then (sr (Mz rfl (An rfl (rt (rs ?_)))))))
 have H127 := H38.pk []
 obtain rfl : _ = r29 := hr.symm.trans (et (bnd_of hr30) (lp_l hL126))
 exact ⟨rfl, H127⟩
end Go.Proofs.YtccjclalngabhaaGreat
