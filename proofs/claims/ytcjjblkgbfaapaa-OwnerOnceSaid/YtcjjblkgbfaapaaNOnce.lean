/-
  owner: the law OwnerOnce
-/
import Derived.Test.YtcjjblkgbfaapaaNw
namespace Go.Proofs.Ytcjjblkgbfaapaa
open Go.RowKit
set_option linter.unusedVariables false
set_option linter.unusedSectionVars false
set_option linter.unusedSimpArgs false

def w17_OwnerOnce_L0 (l0 : List OwnerD) (p1 : List UInt8) (p2 : Int) (p3 : Int) (r26 : Bool) (r36 : Int) : Nat → Int → Nat → Int ⊕ Bool
  | 0, z46, k47 => Sum.inl z46
  | q48 + 1, z46, k47 => bnd (owner_RangeOf l0 ((k47 : Nat) : Int)) fun yr61 => if yr61.2 = 0 then bnd (span_Check yr61.1) fun yr79 => if yr79 = 0 then bnd (span_Has yr61.1 p1) fun yr90 => if yr90 = (decide (((k47 : Nat) : Int) = r36)) then w17_OwnerOnce_L0 l0 p1 p2 p3 r26 r36 q48 (IntKind.i64.wrap (z46 + 1)) (k47 + 1) else Sum.inr (false) else Sum.inr (false) else Sum.inr (false)

def w17_OwnerOnce (l0 : List OwnerD) (p1 : List UInt8) (p2 : Int) (p3 : Int) : Bool :=
  bnd (w17_live) fun yr26 => bnd (owner_Find l0 p1) fun yr36 => if yr36.2 = 0 then lp (w17_OwnerOnce_L0 l0 p1 p2 p3 yr26 yr36.1 (List.length l0) 0 0) fun sLrbbtL => bnd (owner_Split l0 p1) fun yr106 => bnd (owner_Give l0 p2 p3) fun yr122 => if yr26 = true then if sLrbbtL = ((List.length l0 : Nat) : Int) then if yr106.2 = 0 then bnd (owner_Check yr106.1) fun yr140 => if yr140 = 0 then if ((List.length yr106.1 : Nat) : Int) = sLrbbtL + 1 then if yr122.2 = 0 then bnd (owner_Check yr122.1) fun yr154 => if yr154 = 0 then decide (((List.length yr122.1 : Nat) : Int) = sLrbbtL) else false else true else false else false else if yr122.2 = 0 then bnd (owner_Check yr122.1) fun yr172 => if yr172 = 0 then decide (((List.length yr122.1 : Nat) : Int) = sLrbbtL) else false else true else false else false else yr26

set_option maxRecDepth 100000 in
set_option maxHeartbeats 1000000 in
theorem w17_OwnerOnce_ok (w : World) (D : Nat → Prop) (A0 : Option Addr) (n0 c0 : Nat) (l0 : List OwnerD) (p1 : List UInt8) (p2 : Int) (p3 : Int) (r0 : Bool) (H : Own w D w []) (hx0 : Ro w D fun w' => Rds w' 2 A0 n0 (List.flatMap OwnerD.cells l0)) (hn0 : n0 = List.length l0) (hl0 : List.length l0 * 24 ≤ 211106232532992) (hh0 : List.length l0 * 24 ≤ 140737488351232) (hh1 : List.length p1 ≤ 140737488351232) (hh2 : (-9223372036854775808) ≤ p2 ∧ p2 ≤ 9223372036854775807) (hh3 : (-9223372036854775808) ≤ p3 ∧ p3 ≤ 9223372036854775807) (hr : w17_OwnerOnce l0 p1 p2 p3 = r0) :
    Calls Try.prog 7 #[.slice A0 n0 c0, .string ⟨List.toArray p1⟩, .int .i64 p2, .int .i64 p3] w (Ret fun v w' => v = .bool r0 ∧ Own w D w' []) := by
  subst hn0
  refine Calls.body (args := [.slice A0 (List.length l0) c0, .string ⟨List.toArray p1⟩, .int .i64 p2, .int .i64 p3]) Try.func7 rfl rfl rfl ?_
  show Wp _ _ _ [(0, .slice A0 (List.length l0) c0), (1, .string ⟨List.toArray p1⟩), (2, .int .i64 p2), (3, .int .i64 p3)] _ _
  refine Wp.seq (Wp.region (As rfl rfl (WL.nil (Fin.then (Wp.seq (Wp.region ?_))))))
  obtain ⟨r26, hr27⟩ : ∃ q, w17_live = q := ⟨_, rfl⟩
  obtain ⟨D21, HP22, ro23, bk24, rr25⟩ := Own.enter0 H
  refine WL.do rfl (Do.call Try.call9 rfl (w17_live_ok _ _ r26 HP22 hr27) ?_)
  rintro _ w28 ⟨rfl, HQ29⟩
  have H30 : Own w D w28 [] := bk24 _ _ HQ29
  refine As rfl rfl (WL.nil (Fin.then (Wp.seq (Wp.region (Mv rfl rfl (Mv rfl rfl ?_))))))
  obtain ⟨⟨r36, r37⟩, hr38⟩ : ∃ q : Int × Int, owner_Find l0 p1 = q := ⟨_, rfl⟩
  obtain ⟨D31, HP32, ro33, bk34, rr35⟩ := Own.enter0 H30
  refine WL.do rfl (Do.call Try.call10 rfl (owner_Find_ok _ _ A0 (List.length l0) c0 l0 p1 r36 r37 HP32 (ro33 _ hx0) rfl (by omega) hr38) ?_)
  rintro _ w39 ⟨rfl, HQ40, hk42, hk43, hk44⟩
  have H41 : Own w D w39 [] := bk34 _ _ HQ40
  replace hk42 : ¬ (r37 = 0) ∨ (0 ≤ r36 ∧ r36 < ((List.length l0 : Nat) : Int) ∧ List.length l0 ≤ 6) := hk42
  replace hk43 : ¬ (owner_Check l0 = 0) ∨ List.length p1 < 1 ∨ List.length p1 > 12 ∨ (0 ≤ r36 ∧ r36 < ((List.length l0 : Nat) : Int)) := hk43
  replace hk44 : ¬ (r37 = 0) ∨ owner_Check l0 = 0 := hk44
  refine Mv rfl rfl (Kn (v := .int .i64 r36) rfl rfl rfl (fun _ => by kernel_rfl) (Kn (v := .int .i64 r37) rfl rfl rfl (fun _ => by kernel_rfl) (As rfl rfl (As rfl rfl (WL.nil (Fin.then (Wp.seq (Wp.seq (Wp.region (Mv rfl rfl (WL.val (v := .bool (decide (¬ (r37 = 0)))) rfl (Yl.bool (e := !(decide (r37 = 0))) (Yl.kern rfl rfl (fun _ => by kernel_rfl)) decide_not.symm) (WL.nil (Fin.then ?_)))))))))))))
  by_cases h45 : r37 = 0
  refine Wp.cond0 rfl (decide_eq_false (not_not_intro h45)) (Wp.skip (Fin.then (Wp.seq (Wp.region (As rfl rfl (WL.nil (Fin.then (Wp.seq (Wp.seq (Wp.region (Mv rfl rfl (Kn (v := .int .i64 ((List.length l0 : Nat) : Int)) rfl rfl rfl (fun _ => by kernel_rfl) (Mv rfl rfl (WL.nil (Fin.then (Wp.block ?_))))))))))))))))
  have H49 : Own w D w39 [] := H41.pick [] (by decide) rfl
  refine Wp.loop (ι := Int × Nat) (fun i => [(8, .bool false), (12, .int .i64 i.1), (32, .int .i64 ((i.2 : Nat) : Int)), (31, .int .i64 ((List.length l0 : Nat) : Int)), (10, .int .i64 r36), (9, .bool r26), (0, .slice A0 (List.length l0) c0), (1, .string ⟨List.toArray p1⟩), (2, .int .i64 p2), (3, .int .i64 p3)]) (fun (i : Int × Nat) w' => Own w D w' [] ∧ (i.2 ≤ List.length l0 ∧ w17_OwnerOnce_L0 l0 p1 p2 p3 r26 r36 (List.length l0) 0 0 = w17_OwnerOnce_L0 l0 p1 p2 p3 r26 r36 ((List.length l0) - i.2) i.1 i.2)) (fun i => (List.length l0) - i.2) (0, 0) ⟨rfl, rfl, rfl, rfl, rfl, rfl, rfl, rfl, rfl, rfl, trivial⟩ ⟨H49, (show 0 ≤ List.length l0 ∧ w17_OwnerOnce_L0 l0 p1 p2 p3 r26 r36 (List.length l0) 0 0 = w17_OwnerOnce_L0 l0 p1 p2 p3 r26 r36 ((List.length l0) - 0) 0 0 from ⟨by omega, rfl⟩)⟩ ?_
  rintro ⟨z46, k47⟩ w50 ⟨H51, hf52⟩
  show Wp _ _ _ [(8, .bool false), (12, .int .i64 z46), (32, .int .i64 ((k47 : Nat) : Int)), (31, .int .i64 ((List.length l0 : Nat) : Int)), (10, .int .i64 r36), (9, .bool r26), (0, .slice A0 (List.length l0) c0), (1, .string ⟨List.toArray p1⟩), (2, .int .i64 p2), (3, .int .i64 p3)] _ _
  replace H51 : Own w D w50 [] := H51
  replace hf52 : k47 ≤ List.length l0 ∧ w17_OwnerOnce_L0 l0 p1 p2 p3 r26 r36 (List.length l0) 0 0 = w17_OwnerOnce_L0 l0 p1 p2 p3 r26 r36 ((List.length l0) - k47) z46 k47 := hf52
  obtain ⟨hi54, hq53⟩ := hf52
  refine Wp.seq (Wp.region (Kn (v := .bool (decide (((k47 : Nat) : Int) < ((List.length l0 : Nat) : Int)))) rfl rfl rfl (fun _ => by kernel_rfl) (WL.nil (Fin.then (Wp.seq ?_)))))
  by_cases h55 : ((k47 : Nat) : Int) < ((List.length l0 : Nat) : Int)
  refine Wp.cond1 rfl (decide_eq_true h55) (Wp.skip (Fin.then (Wp.seq (Wp.block (Wp.seq (Wp.region (Mv rfl rfl (As rfl rfl (WL.nil (Fin.then (Wp.seq (Wp.region (Mv rfl rfl (Mv rfl rfl ?_))))))))))))))
  obtain ⟨⟨r61, r62⟩, hr63⟩ : ∃ q : RangeD × Int, owner_RangeOf l0 ((k47 : Nat) : Int) = q := ⟨_, rfl⟩
  obtain ⟨D56, HP57, ro58, bk59, rr60⟩ := Own.enter0 H51
  refine WL.do rfl (Do.call Try.call12 rfl (owner_RangeOf_ok _ _ A0 (List.length l0) c0 l0 ((k47 : Nat) : Int) r61 r62 HP57 (ro58 _ hx0) rfl (by omega) hr63) ?_)
  rintro _ w64 ⟨rfl, HQ65, hk67⟩
  have H66 : Own w D w64 [] := bk59 _ _ HQ65
  replace hk67 : ¬ (r62 = 0) ∨ (0 ≤ ((k47 : Nat) : Int) ∧ ((k47 : Nat) : Int) < ((List.length l0 : Nat) : Int) ∧ List.length l0 ≤ 6) := hk67
  refine Mv rfl rfl (Kn (v := .agg (RangeD.cells r61).toArray) rfl rfl rfl (fun _ => by kernel_rfl) (Kn (v := .int .i64 r62) rfl rfl rfl (fun _ => by kernel_rfl) ?_))
  refine WL.do rfl (Do.newP (cs := [.string ⟨List.toArray ([])⟩, .string ⟨List.toArray ([])⟩]) (t := 24) H66 rfl rfl (fun _ => by kernel_rfl) ?_)
  intro g68 w69 H70
  replace H70 : Own w D w69 [blk g68 [.string ⟨List.toArray ([])⟩, .string ⟨List.toArray ([])⟩] 24] := H70
  refine WL.do0 (Do.store (vs := (RangeD.cells r61)) (o := 0) H70 rfl rfl Try.sizeOf24 rfl rfl rfl rfl ?_)
  intro w71 H72
  replace H72 : Own w D w71 [blk g68 (RangeD.cells r61) 24] := H72
  refine As rfl rfl (WL.nil (Fin.then (Wp.seq (Wp.seq (Wp.region (Mv rfl rfl (WL.val (v := .bool (decide (¬ (r62 = 0)))) rfl (Yl.bool (e := !(decide (r62 = 0))) (Yl.kern rfl rfl (fun _ => by kernel_rfl)) decide_not.symm) (Mv rfl rfl ?_))))))))
  by_cases h73 : r62 = 0
  refine WL.valG (v := .agg (RangeD.cells r61).toArray) rfl rfl (decide_eq_false (not_not_intro h73)) rfl (Yl.load rfl (Lds.agg (cs := (RangeD.cells r61)) Try.isAgg24 Try.sizeOf24 ((H72.cls (i := 0) rfl).lit (k := 0) (m := 2) rfl))) ?_
  obtain ⟨r79, hr80⟩ : ∃ q, span_Check r61 = q := ⟨_, rfl⟩
  obtain ⟨D74, HP75, ro76, bk77, rr78⟩ := Own.enter0 H72
  refine WL.doG rfl rfl (decide_eq_false (not_not_intro h73)) rfl (Do.call Try.call29 rfl (span_Check_ok _ _ r61 r79 HP75 hr80) ?_)
  rintro _ w81 ⟨rfl, HQ82⟩
  have H83 : Own w D w81 [blk g68 (RangeD.cells r61) 24] := bk77 _ _ HQ82
  refine WL.valG (v := .bool (decide (¬ (r79 = 0)))) rfl rfl (decide_eq_false (not_not_intro h73)) rfl (Yl.bool (e := !(decide (r79 = 0))) (Yl.kern rfl rfl (fun _ => by kernel_rfl)) decide_not.symm) (WL.val (v := .bool (decide (¬ (r79 = 0)))) rfl (Yl.pickF rfl (decide_eq_false (not_not_intro h73)) rfl) (Mv rfl rfl ?_))
  by_cases h84 : r79 = 0
  refine WL.valG (v := .agg (RangeD.cells r61).toArray) rfl rfl (decide_eq_false (not_not_intro h84)) rfl (Yl.load rfl (Lds.agg (cs := (RangeD.cells r61)) Try.isAgg24 Try.sizeOf24 ((H83.cls (i := 0) rfl).lit (k := 0) (m := 2) rfl))) (WL.valG (v := .string ⟨List.toArray p1⟩) rfl rfl (decide_eq_false (not_not_intro h84)) rfl (Yl.move rfl) ?_)
  obtain ⟨r90, hr91⟩ : ∃ q, span_Has r61 p1 = q := ⟨_, rfl⟩
  obtain ⟨D85, HP86, ro87, bk88, rr89⟩ := Own.enter0 H83
  refine WL.doG rfl rfl (decide_eq_false (not_not_intro h84)) rfl (Do.call Try.call30 rfl (span_Has_ok _ _ r61 p1 r90 HP86 hr91) ?_)
  rintro _ w92 ⟨rfl, HQ93⟩
  have H94 : Own w D w92 [blk g68 (RangeD.cells r61) 24] := bk88 _ _ HQ93
  refine WL.valG (v := .int .i64 ((k47 : Nat) : Int)) rfl rfl (decide_eq_false (not_not_intro h84)) rfl (Yl.move rfl) (WL.valG (v := .int .i64 r36) rfl rfl (decide_eq_false (not_not_intro h84)) rfl (Yl.move rfl) (WL.valG (v := .bool (decide (((k47 : Nat) : Int) = r36))) rfl rfl (decide_eq_false (not_not_intro h84)) rfl (Yl.kern rfl rfl (fun _ => by kernel_rfl)) (WL.valG (v := .bool (decide (¬ (r90 = (decide (((k47 : Nat) : Int) = r36)))))) rfl rfl (decide_eq_false (not_not_intro h84)) rfl (Yl.bool (e := !(r90 == decide (((k47 : Nat) : Int) = r36))) (Yl.kern rfl rfl (fun _ => by kernel_rfl)) (by first | (rw [Bool.beq_eq_decide_eq]; exact decide_not.symm) | (by_cases q : r90 = (decide (((k47 : Nat) : Int) = r36)) <;> simp [q]))) (WL.val (v := .bool (decide (¬ (r90 = (decide (((k47 : Nat) : Int) = r36)))))) rfl (Yl.pickF rfl (decide_eq_false (not_not_intro h84)) rfl) (WL.nil (Fin.then ?_))))))
  by_cases h95 : r90 = (decide (((k47 : Nat) : Int) = r36))
  refine Wp.cond0 rfl (decide_eq_false (not_not_intro h95)) (Wp.skip (Fin.then (Wp.region (Mv rfl rfl (Kn (v := .int .i64 (IntKind.i64.wrap (z46 + 1))) rfl rfl rfl (fun _ => by kernel_rfl) (As rfl rfl (WL.nil (Fin.blockN (Fin.then (Wp.region (WL.val (v := .int .i64 ((k47 + 1 : Nat) : Int)) rfl (Yl.int (e := IntKind.i64.wrap (((k47 : Nat) : Int) + 1)) (Yl.kern rfl rfl (fun _ => by kernel_rfl)) (by rw [IntWalk.i64_in _ (by omega)]; omega)) (Mv rfl rfl (WL.nil ?_)))))))))))))
  have H96 : Own w D w92 [] := H94.pick [] (by decide) rfl
  exact Fin.round (IntKind.i64.wrap (z46 + 1), k47 + 1) ⟨rfl, rfl, rfl, rfl, rfl, rfl, rfl, rfl, rfl, rfl, trivial⟩ ⟨H96, (show (k47 + 1) ≤ List.length l0 ∧ w17_OwnerOnce_L0 l0 p1 p2 p3 r26 r36 (List.length l0) 0 0 = w17_OwnerOnce_L0 l0 p1 p2 p3 r26 r36 ((List.length l0) - (k47 + 1)) (IntKind.i64.wrap (z46 + 1)) (k47 + 1) from ⟨by omega, Eq.trans (hq53) (Eq.trans (congrArg (fun q => w17_OwnerOnce_L0 l0 p1 p2 p3 r26 r36 q z46 k47) (sub_at (n := List.length l0) (i := k47) (by omega))) (Eq.trans (bnd_of hr63) (Eq.trans (if_pos h73) (Eq.trans (bnd_of hr80) (Eq.trans (if_pos h84) (Eq.trans (bnd_of hr91) (if_pos h95)))))))⟩)⟩ (by show (List.length l0) - (k47 + 1) < (List.length l0) - k47; omega)
  refine Wp.cond1 rfl (decide_eq_true h95) (Wp.seq (Wp.region (As rfl rfl (WL.nil (Fin.then (Wp.ret (Fin.thenR (Fin.blockR (Fin.thenR (Fin.thenR (Fin.blockR (Fin.thenR (Fin.res (res1 rfl rfl) ?_)))))))))))))
  have H97 : Own w D w92 [] := H94.pick [] (by decide) rfl
  have e : w17_OwnerOnce l0 p1 p2 p3 = false := Eq.trans (bnd_of hr27) (Eq.trans (bnd_of hr38) (Eq.trans (if_pos h45) (lp_r (Eq.trans (hq53) (Eq.trans (congrArg (fun q => w17_OwnerOnce_L0 l0 p1 p2 p3 r26 r36 q z46 k47) (sub_at (n := List.length l0) (i := k47) (by omega))) (Eq.trans (bnd_of hr63) (Eq.trans (if_pos h73) (Eq.trans (bnd_of hr80) (Eq.trans (if_pos h84) (Eq.trans (bnd_of hr91) (if_neg h95)))))))))))
  obtain rfl := e.symm.trans hr
  exact ⟨rfl, H97⟩
  refine Sk rfl rfl (decide_eq_true h84) rfl (Sk rfl rfl (decide_eq_true h84) rfl (Sk rfl rfl (decide_eq_true h84) rfl (Sk rfl rfl (decide_eq_true h84) rfl (Sk rfl rfl (decide_eq_true h84) rfl (Sk rfl rfl (decide_eq_true h84) rfl (Sk rfl rfl (decide_eq_true h84) rfl (WL.val (v := .bool true) rfl (Yl.pickT rfl (decide_eq_true h84) rfl) (WL.nil (Fin.then (Wp.cond1 rfl rfl (Wp.seq (Wp.region (As rfl rfl (WL.nil (Fin.then (Wp.ret (Fin.thenR (Fin.blockR (Fin.thenR (Fin.thenR (Fin.blockR (Fin.thenR (Fin.res (res1 rfl rfl) ?_)))))))))))))))))))))))
  have H98 : Own w D w81 [] := H83.pick [] (by decide) rfl
  have e : w17_OwnerOnce l0 p1 p2 p3 = false := Eq.trans (bnd_of hr27) (Eq.trans (bnd_of hr38) (Eq.trans (if_pos h45) (lp_r (Eq.trans (hq53) (Eq.trans (congrArg (fun q => w17_OwnerOnce_L0 l0 p1 p2 p3 r26 r36 q z46 k47) (sub_at (n := List.length l0) (i := k47) (by omega))) (Eq.trans (bnd_of hr63) (Eq.trans (if_pos h73) (Eq.trans (bnd_of hr80) (if_neg h84)))))))))
  obtain rfl := e.symm.trans hr
  exact ⟨rfl, H98⟩
  refine Sk rfl rfl (decide_eq_true h73) rfl (Sk rfl rfl (decide_eq_true h73) rfl (Sk rfl rfl (decide_eq_true h73) rfl (WL.val (v := .bool true) rfl (Yl.pickT rfl (decide_eq_true h73) rfl) (Mv rfl rfl (Sk rfl rfl rfl rfl (Sk rfl rfl rfl rfl (Sk rfl rfl rfl rfl (Sk rfl rfl rfl rfl (Sk rfl rfl rfl rfl (Sk rfl rfl rfl rfl (Sk rfl rfl rfl rfl (WL.val (v := .bool true) rfl (Yl.pickT rfl rfl rfl) (WL.nil (Fin.then (Wp.cond1 rfl rfl (Wp.seq (Wp.region (As rfl rfl (WL.nil (Fin.then (Wp.ret (Fin.thenR (Fin.blockR (Fin.thenR (Fin.thenR (Fin.blockR (Fin.thenR (Fin.res (res1 rfl rfl) ?_))))))))))))))))))))))))))))
  have H99 : Own w D w71 [] := H72.pick [] (by decide) rfl
  have e : w17_OwnerOnce l0 p1 p2 p3 = false := Eq.trans (bnd_of hr27) (Eq.trans (bnd_of hr38) (Eq.trans (if_pos h45) (lp_r (Eq.trans (hq53) (Eq.trans (congrArg (fun q => w17_OwnerOnce_L0 l0 p1 p2 p3 r26 r36 q z46 k47) (sub_at (n := List.length l0) (i := k47) (by omega))) (Eq.trans (bnd_of hr63) (if_neg h73)))))))
  obtain rfl := e.symm.trans hr
  exact ⟨rfl, H99⟩
  refine Wp.cond0 rfl (decide_eq_false h55) (Wp.exit (Fin.thenX ?_))
  have hL100 : w17_OwnerOnce_L0 l0 p1 p2 p3 r26 r36 (List.length l0) 0 0 = Sum.inl z46 := Eq.trans (hq53) (Eq.trans (congrArg (fun q => w17_OwnerOnce_L0 l0 p1 p2 p3 r26 r36 q z46 k47) (sub_end (n := List.length l0) (i := k47) (by omega))) rfl)
  refine Fin.thenX (Fin.blockX (Fin.then (Wp.seq (Wp.region (Mv rfl rfl (Mv rfl rfl ?_))))))
  obtain ⟨⟨r106, r107⟩, hr108⟩ : ∃ q : (List OwnerD) × Int, owner_Split l0 p1 = q := ⟨_, rfl⟩
  obtain ⟨D101, HP102, ro103, bk104, rr105⟩ := Own.enter0 H51
  refine WL.do rfl (Do.call Try.call18 rfl (owner_Split_ok _ _ A0 (List.length l0) c0 l0 p1 r106 r107 HP102 (ro103 _ hx0) rfl (by omega) hr108) ?_)
  rintro _ w109 ⟨A112, c113, rfl, HQ110, hk114, hk115⟩
  have H111 : Own w D w109 [row A112 (List.length r106) c113 (List.flatMap OwnerD.cells r106) 39 2] := bk104 _ _ HQ110
  have hb116 := H111.rowC (i := 0) rfl
  replace hk114 : List.length r106 ≤ 6 := hk114
  replace hk115 : ¬ (r107 = 0) ∨ owner_Check l0 = 0 := hk115
  refine Mv rfl rfl (Kn (v := .slice A112 (List.length r106) c113) rfl rfl rfl (fun _ => by kernel_rfl) (Kn (v := .int .i64 r107) rfl rfl rfl (fun _ => by kernel_rfl) (As rfl rfl (As rfl rfl (WL.nil (Fin.then (Wp.seq (Wp.region (Mv rfl rfl (Mv rfl rfl (Mv rfl rfl ?_)))))))))))
  obtain ⟨⟨r122, r123⟩, hr124⟩ : ∃ q : (List OwnerD) × Int, owner_Give l0 p2 p3 = q := ⟨_, rfl⟩
  obtain ⟨D117, HP118, ro119, bk120, rr121⟩ := Own.enter0 H111
  refine WL.do rfl (Do.call Try.call20 rfl (owner_Give_ok _ _ A0 (List.length l0) c0 l0 p2 p3 r122 r123 HP118 (ro119 _ hx0) rfl (by omega) hr124) ?_)
  rintro _ w125 ⟨A128, c129, rfl, HQ126, hk130⟩
  have H127 : Own w D w125 [row A128 (List.length r122) c129 (List.flatMap OwnerD.cells r122) 39 2, row A112 (List.length r106) c113 (List.flatMap OwnerD.cells r106) 39 2] := bk120 _ _ HQ126
  have hb131 := H127.rowC (i := 0) rfl
  replace hk130 : List.length r122 ≤ 6 := hk130
  refine Mv rfl rfl (Kn (v := .slice A128 (List.length r122) c129) rfl rfl rfl (fun _ => by kernel_rfl) (Kn (v := .int .i64 r123) rfl rfl rfl (fun _ => by kernel_rfl) (As rfl rfl (As rfl rfl (WL.nil (Fin.then (Wp.seq (Wp.region (Mv rfl rfl (Mv rfl rfl ?_))))))))))
  rcases Bool.eq_false_or_eq_true (r26) with h132 | h132
  refine WL.valG (v := .int .i64 z46) rfl rfl h132 rfl (Yl.move rfl) (WL.valG (v := .slice A0 (List.length l0) c0) rfl rfl h132 rfl (Yl.move rfl) (WL.valG (v := .int .i64 ((List.length l0 : Nat) : Int)) rfl rfl h132 rfl (Yl.kern rfl rfl (fun _ => by kernel_rfl)) (WL.valG (v := .bool (decide (z46 = ((List.length l0 : Nat) : Int)))) rfl rfl h132 rfl (Yl.kern rfl rfl (fun _ => by kernel_rfl)) (WL.val (v := .bool (decide (z46 = ((List.length l0 : Nat) : Int)))) rfl (Yl.pickT rfl h132 rfl) (Mv rfl rfl ?_)))))
  by_cases h133 : z46 = ((List.length l0 : Nat) : Int)
  refine WL.valG (v := .int .i64 r107) rfl rfl (decide_eq_true h133) rfl (Yl.move rfl) (WL.valG (v := .bool (decide (¬ (r107 = 0)))) rfl rfl (decide_eq_true h133) rfl (Yl.bool (e := !(decide (r107 = 0))) (Yl.kern rfl rfl (fun _ => by kernel_rfl)) decide_not.symm) (WL.valG (v := .bool (decide (¬ (r107 = 0)))) rfl rfl (decide_eq_true h133) rfl (Yl.move rfl) ?_))
  by_cases h134 : r107 = 0
  refine WL.valG (v := .slice A112 (List.length r106) c113) rfl rfl (decide_eq_false (not_not_intro h134)) rfl (Yl.move rfl) ?_
  obtain ⟨r140, hr141⟩ : ∃ q, owner_Check r106 = q := ⟨_, rfl⟩
  obtain ⟨D135, HP136, ro137, bk138, rr139⟩ := Own.enter0 H127
  refine WL.doG rfl rfl (decide_eq_false (not_not_intro h134)) rfl (Do.call Try.call14 rfl (owner_Check_ok _ _ A112 (List.length r106) c113 r106 r140 HP136 (rr139 _ 1 _ rfl row_rds) rfl (by omega) hr141) ?_)
  rintro _ w142 ⟨rfl, HQ143, hk145⟩
  have H144 : Own w D w142 [row A128 (List.length r122) c129 (List.flatMap OwnerD.cells r122) 39 2, row A112 (List.length r106) c113 (List.flatMap OwnerD.cells r106) 39 2] := bk138 _ _ HQ143
  replace hk145 : ¬ (r140 = 0) ∨ (1 ≤ List.length r106 ∧ List.length r106 ≤ 6) := hk145
  refine WL.valG (v := .bool (decide (r140 = 0))) rfl rfl (decide_eq_false (not_not_intro h134)) rfl (Yl.kern rfl rfl (fun _ => by kernel_rfl)) (WL.valG (v := .bool (decide (r140 = 0))) rfl rfl (decide_eq_false (not_not_intro h134)) rfl (Yl.move rfl) ?_)
  by_cases h146 : r140 = 0
  refine WL.valG (v := .slice A112 (List.length r106) c113) rfl rfl (decide_eq_true h146) rfl (Yl.move rfl) (WL.valG (v := .int .i64 ((List.length r106 : Nat) : Int)) rfl rfl (decide_eq_true h146) rfl (Yl.kern rfl rfl (fun _ => by kernel_rfl)) (WL.valG (v := .int .i64 z46) rfl rfl (decide_eq_true h146) rfl (Yl.move rfl) (WL.valG (v := .int .i64 (z46 + 1)) rfl rfl (decide_eq_true h146) rfl (Yl.int (e := IntKind.i64.wrap (z46 + 1)) (Yl.kern rfl rfl (fun _ => by kernel_rfl)) (by rw [IntWalk.i64_in _ (by omega)])) (WL.valG (v := .bool (decide (((List.length r106 : Nat) : Int) = z46 + 1))) rfl rfl (decide_eq_true h146) rfl (Yl.kern rfl rfl (fun _ => by kernel_rfl)) (WL.valG (v := .bool (decide (((List.length r106 : Nat) : Int) = z46 + 1))) rfl rfl (decide_eq_false (not_not_intro h134)) rfl (Yl.pickT rfl (decide_eq_true h146) rfl) (WL.valG (v := .bool (decide (((List.length r106 : Nat) : Int) = z46 + 1))) rfl rfl (decide_eq_true h133) rfl (Yl.pickF rfl (decide_eq_false (not_not_intro h134)) rfl) (WL.val (v := .bool (decide (((List.length r106 : Nat) : Int) = z46 + 1))) rfl (Yl.pickT rfl (decide_eq_true h133) rfl) (Mv rfl rfl ?_))))))))
  by_cases h147 : ((List.length r106 : Nat) : Int) = z46 + 1
  refine WL.valG (v := .int .i64 r123) rfl rfl (decide_eq_true h147) rfl (Yl.move rfl) (WL.valG (v := .bool (decide (¬ (r123 = 0)))) rfl rfl (decide_eq_true h147) rfl (Yl.bool (e := !(decide (r123 = 0))) (Yl.kern rfl rfl (fun _ => by kernel_rfl)) decide_not.symm) (WL.valG (v := .bool (decide (¬ (r123 = 0)))) rfl rfl (decide_eq_true h147) rfl (Yl.move rfl) ?_))
  by_cases h148 : r123 = 0
  refine WL.valG (v := .slice A128 (List.length r122) c129) rfl rfl (decide_eq_false (not_not_intro h148)) rfl (Yl.move rfl) ?_
  obtain ⟨r154, hr155⟩ : ∃ q, owner_Check r122 = q := ⟨_, rfl⟩
  obtain ⟨D149, HP150, ro151, bk152, rr153⟩ := Own.enter0 H144
  refine WL.doG rfl rfl (decide_eq_false (not_not_intro h148)) rfl (Do.call Try.call14 rfl (owner_Check_ok _ _ A128 (List.length r122) c129 r122 r154 HP150 (rr153 _ 0 _ rfl row_rds) rfl (by omega) hr155) ?_)
  rintro _ w156 ⟨rfl, HQ157, hk159⟩
  have H158 : Own w D w156 [row A128 (List.length r122) c129 (List.flatMap OwnerD.cells r122) 39 2, row A112 (List.length r106) c113 (List.flatMap OwnerD.cells r106) 39 2] := bk152 _ _ HQ157
  replace hk159 : ¬ (r154 = 0) ∨ (1 ≤ List.length r122 ∧ List.length r122 ≤ 6) := hk159
  refine WL.valG (v := .bool (decide (r154 = 0))) rfl rfl (decide_eq_false (not_not_intro h148)) rfl (Yl.kern rfl rfl (fun _ => by kernel_rfl)) (WL.valG (v := .bool (decide (r154 = 0))) rfl rfl (decide_eq_false (not_not_intro h148)) rfl (Yl.move rfl) ?_)
  by_cases h160 : r154 = 0
  refine WL.valG (v := .slice A128 (List.length r122) c129) rfl rfl (decide_eq_true h160) rfl (Yl.move rfl) (WL.valG (v := .int .i64 ((List.length r122 : Nat) : Int)) rfl rfl (decide_eq_true h160) rfl (Yl.kern rfl rfl (fun _ => by kernel_rfl)) (WL.valG (v := .int .i64 z46) rfl rfl (decide_eq_true h160) rfl (Yl.move rfl) (WL.valG (v := .bool (decide (((List.length r122 : Nat) : Int) = z46))) rfl rfl (decide_eq_true h160) rfl (Yl.kern rfl rfl (fun _ => by kernel_rfl)) (WL.valG (v := .bool (decide (((List.length r122 : Nat) : Int) = z46))) rfl rfl (decide_eq_false (not_not_intro h148)) rfl (Yl.pickT rfl (decide_eq_true h160) rfl) (WL.valG (v := .bool (decide (((List.length r122 : Nat) : Int) = z46))) rfl rfl (decide_eq_true h147) rfl (Yl.pickF rfl (decide_eq_false (not_not_intro h148)) rfl) (WL.val (v := .bool (decide (((List.length r122 : Nat) : Int) = z46))) rfl (Yl.pickT rfl (decide_eq_true h147) rfl) (As rfl rfl (WL.nil (Fin.then (Wp.ret (Fin.res (res1 rfl rfl) ?_)))))))))))
  have H161 : Own w D w156 [] := H158.pick [] (by decide) rfl
  have e : w17_OwnerOnce l0 p1 p2 p3 = decide (((List.length r122 : Nat) : Int) = z46) := Eq.trans (bnd_of hr27) (Eq.trans (bnd_of hr38) (Eq.trans (if_pos h45) (Eq.trans (lp_l hL100) (Eq.trans (bnd_of hr108) (Eq.trans (bnd_of hr124) (Eq.trans (if_pos h132) (Eq.trans (if_pos h133) (Eq.trans (if_pos h134) (Eq.trans (bnd_of hr141) (Eq.trans (if_pos h146) (Eq.trans (if_pos h147) (Eq.trans (if_pos h148) (Eq.trans (bnd_of hr155) (if_pos h160))))))))))))))
  obtain rfl := e.symm.trans hr
  exact ⟨rfl, H161⟩
  refine Sk rfl rfl (decide_eq_false h160) rfl (Sk rfl rfl (decide_eq_false h160) rfl (Sk rfl rfl (decide_eq_false h160) rfl (Sk rfl rfl (decide_eq_false h160) rfl (WL.valG (v := .bool false) rfl rfl (decide_eq_false (not_not_intro h148)) rfl (Yl.pickF rfl (decide_eq_false h160) rfl) (WL.valG (v := .bool false) rfl rfl (decide_eq_true h147) rfl (Yl.pickF rfl (decide_eq_false (not_not_intro h148)) rfl) (WL.val (v := .bool false) rfl (Yl.pickT rfl (decide_eq_true h147) rfl) (As rfl rfl (WL.nil (Fin.then (Wp.ret (Fin.res (res1 rfl rfl) ?_)))))))))))
  have H162 : Own w D w156 [] := H158.pick [] (by decide) rfl
  have e : w17_OwnerOnce l0 p1 p2 p3 = false := Eq.trans (bnd_of hr27) (Eq.trans (bnd_of hr38) (Eq.trans (if_pos h45) (Eq.trans (lp_l hL100) (Eq.trans (bnd_of hr108) (Eq.trans (bnd_of hr124) (Eq.trans (if_pos h132) (Eq.trans (if_pos h133) (Eq.trans (if_pos h134) (Eq.trans (bnd_of hr141) (Eq.trans (if_pos h146) (Eq.trans (if_pos h147) (Eq.trans (if_pos h148) (Eq.trans (bnd_of hr155) (if_neg h160))))))))))))))
  obtain rfl := e.symm.trans hr
  exact ⟨rfl, H162⟩
  refine Sk rfl rfl (decide_eq_true h148) rfl (Sk rfl rfl (decide_eq_true h148) rfl (Sk rfl rfl (decide_eq_true h148) rfl (Sk rfl rfl (decide_eq_true h148) rfl (WL.skipU rfl rfl rfl (WL.skipU rfl rfl rfl (WL.skipU rfl rfl rfl (WL.skipU rfl rfl rfl (Sk rfl rfl (decide_eq_true h148) rfl (WL.valG (v := .bool true) rfl rfl (decide_eq_true h147) rfl (Yl.pickT rfl (decide_eq_true h148) rfl) (WL.val (v := .bool true) rfl (Yl.pickT rfl (decide_eq_true h147) rfl) (As rfl rfl (WL.nil (Fin.then (Wp.ret (Fin.res (res1 rfl rfl) ?_)))))))))))))))
  have H163 : Own w D w142 [] := H144.pick [] (by decide) rfl
  have e : w17_OwnerOnce l0 p1 p2 p3 = true := Eq.trans (bnd_of hr27) (Eq.trans (bnd_of hr38) (Eq.trans (if_pos h45) (Eq.trans (lp_l hL100) (Eq.trans (bnd_of hr108) (Eq.trans (bnd_of hr124) (Eq.trans (if_pos h132) (Eq.trans (if_pos h133) (Eq.trans (if_pos h134) (Eq.trans (bnd_of hr141) (Eq.trans (if_pos h146) (Eq.trans (if_pos h147) (if_neg h148))))))))))))
  obtain rfl := e.symm.trans hr
  exact ⟨rfl, H163⟩
  refine Sk rfl rfl (decide_eq_false h147) rfl (Sk rfl rfl (decide_eq_false h147) rfl (Sk rfl rfl (decide_eq_false h147) rfl (WL.skipU rfl rfl rfl (WL.skipU rfl rfl rfl (WL.skipU rfl rfl rfl (WL.skipU rfl rfl rfl (WL.skipU rfl rfl rfl (WL.skipU rfl rfl rfl (WL.skipU rfl rfl rfl (WL.skipU rfl rfl rfl (WL.skipU rfl rfl rfl (Sk rfl rfl (decide_eq_false h147) rfl (WL.val (v := .bool false) rfl (Yl.pickF rfl (decide_eq_false h147) rfl) (As rfl rfl (WL.nil (Fin.then (Wp.ret (Fin.res (res1 rfl rfl) ?_))))))))))))))))))
  have H164 : Own w D w142 [] := H144.pick [] (by decide) rfl
  have e : w17_OwnerOnce l0 p1 p2 p3 = false := Eq.trans (bnd_of hr27) (Eq.trans (bnd_of hr38) (Eq.trans (if_pos h45) (Eq.trans (lp_l hL100) (Eq.trans (bnd_of hr108) (Eq.trans (bnd_of hr124) (Eq.trans (if_pos h132) (Eq.trans (if_pos h133) (Eq.trans (if_pos h134) (Eq.trans (bnd_of hr141) (Eq.trans (if_pos h146) (if_neg h147)))))))))))
  obtain rfl := e.symm.trans hr
  exact ⟨rfl, H164⟩
  refine Sk rfl rfl (decide_eq_false h146) rfl (Sk rfl rfl (decide_eq_false h146) rfl (Sk rfl rfl (decide_eq_false h146) rfl (Sk rfl rfl (decide_eq_false h146) rfl (Sk rfl rfl (decide_eq_false h146) rfl (WL.valG (v := .bool false) rfl rfl (decide_eq_false (not_not_intro h134)) rfl (Yl.pickF rfl (decide_eq_false h146) rfl) (WL.valG (v := .bool false) rfl rfl (decide_eq_true h133) rfl (Yl.pickF rfl (decide_eq_false (not_not_intro h134)) rfl) (WL.val (v := .bool false) rfl (Yl.pickT rfl (decide_eq_true h133) rfl) (Mv rfl rfl (Sk rfl rfl rfl rfl (Sk rfl rfl rfl rfl (Sk rfl rfl rfl rfl (WL.skipU rfl rfl rfl (WL.skipU rfl rfl rfl (WL.skipU rfl rfl rfl (WL.skipU rfl rfl rfl (WL.skipU rfl rfl rfl (WL.skipU rfl rfl rfl (WL.skipU rfl rfl rfl (WL.skipU rfl rfl rfl (WL.skipU rfl rfl rfl (Sk rfl rfl rfl rfl (WL.val (v := .bool false) rfl (Yl.pickF rfl rfl rfl) (As rfl rfl (WL.nil (Fin.then (Wp.ret (Fin.res (res1 rfl rfl) ?_)))))))))))))))))))))))))))
  have H165 : Own w D w142 [] := H144.pick [] (by decide) rfl
  have e : w17_OwnerOnce l0 p1 p2 p3 = false := Eq.trans (bnd_of hr27) (Eq.trans (bnd_of hr38) (Eq.trans (if_pos h45) (Eq.trans (lp_l hL100) (Eq.trans (bnd_of hr108) (Eq.trans (bnd_of hr124) (Eq.trans (if_pos h132) (Eq.trans (if_pos h133) (Eq.trans (if_pos h134) (Eq.trans (bnd_of hr141) (if_neg h146))))))))))
  obtain rfl := e.symm.trans hr
  exact ⟨rfl, H165⟩
  refine Sk rfl rfl (decide_eq_true h134) rfl (Sk rfl rfl (decide_eq_true h134) rfl (Sk rfl rfl (decide_eq_true h134) rfl (Sk rfl rfl (decide_eq_true h134) rfl (WL.skipU rfl rfl rfl (WL.skipU rfl rfl rfl (WL.skipU rfl rfl rfl (WL.skipU rfl rfl rfl (WL.skipU rfl rfl rfl (Sk rfl rfl (decide_eq_true h134) rfl (WL.valG (v := .bool true) rfl rfl (decide_eq_true h133) rfl (Yl.pickT rfl (decide_eq_true h134) rfl) (WL.val (v := .bool true) rfl (Yl.pickT rfl (decide_eq_true h133) rfl) (Mv rfl rfl (WL.valG (v := .int .i64 r123) rfl rfl rfl rfl (Yl.move rfl) (WL.valG (v := .bool (decide (¬ (r123 = 0)))) rfl rfl rfl rfl (Yl.bool (e := !(decide (r123 = 0))) (Yl.kern rfl rfl (fun _ => by kernel_rfl)) decide_not.symm) (WL.valG (v := .bool (decide (¬ (r123 = 0)))) rfl rfl rfl rfl (Yl.move rfl) ?_)))))))))))))))
  by_cases h166 : r123 = 0
  refine WL.valG (v := .slice A128 (List.length r122) c129) rfl rfl (decide_eq_false (not_not_intro h166)) rfl (Yl.move rfl) ?_
  obtain ⟨r172, hr173⟩ : ∃ q, owner_Check r122 = q := ⟨_, rfl⟩
  obtain ⟨D167, HP168, ro169, bk170, rr171⟩ := Own.enter0 H127
  refine WL.doG rfl rfl (decide_eq_false (not_not_intro h166)) rfl (Do.call Try.call14 rfl (owner_Check_ok _ _ A128 (List.length r122) c129 r122 r172 HP168 (rr171 _ 0 _ rfl row_rds) rfl (by omega) hr173) ?_)
  rintro _ w174 ⟨rfl, HQ175, hk177⟩
  have H176 : Own w D w174 [row A128 (List.length r122) c129 (List.flatMap OwnerD.cells r122) 39 2, row A112 (List.length r106) c113 (List.flatMap OwnerD.cells r106) 39 2] := bk170 _ _ HQ175
  replace hk177 : ¬ (r172 = 0) ∨ (1 ≤ List.length r122 ∧ List.length r122 ≤ 6) := hk177
  refine WL.valG (v := .bool (decide (r172 = 0))) rfl rfl (decide_eq_false (not_not_intro h166)) rfl (Yl.kern rfl rfl (fun _ => by kernel_rfl)) (WL.valG (v := .bool (decide (r172 = 0))) rfl rfl (decide_eq_false (not_not_intro h166)) rfl (Yl.move rfl) ?_)
  by_cases h178 : r172 = 0
  refine WL.valG (v := .slice A128 (List.length r122) c129) rfl rfl (decide_eq_true h178) rfl (Yl.move rfl) (WL.valG (v := .int .i64 ((List.length r122 : Nat) : Int)) rfl rfl (decide_eq_true h178) rfl (Yl.kern rfl rfl (fun _ => by kernel_rfl)) (WL.valG (v := .int .i64 z46) rfl rfl (decide_eq_true h178) rfl (Yl.move rfl) (WL.valG (v := .bool (decide (((List.length r122 : Nat) : Int) = z46))) rfl rfl (decide_eq_true h178) rfl (Yl.kern rfl rfl (fun _ => by kernel_rfl)) (WL.valG (v := .bool (decide (((List.length r122 : Nat) : Int) = z46))) rfl rfl (decide_eq_false (not_not_intro h166)) rfl (Yl.pickT rfl (decide_eq_true h178) rfl) (WL.valG (v := .bool (decide (((List.length r122 : Nat) : Int) = z46))) rfl rfl rfl rfl (Yl.pickF rfl (decide_eq_false (not_not_intro h166)) rfl) (WL.val (v := .bool (decide (((List.length r122 : Nat) : Int) = z46))) rfl (Yl.pickT rfl rfl rfl) (As rfl rfl (WL.nil (Fin.then (Wp.ret (Fin.res (res1 rfl rfl) ?_)))))))))))
  have H179 : Own w D w174 [] := H176.pick [] (by decide) rfl
  have e : w17_OwnerOnce l0 p1 p2 p3 = decide (((List.length r122 : Nat) : Int) = z46) := Eq.trans (bnd_of hr27) (Eq.trans (bnd_of hr38) (Eq.trans (if_pos h45) (Eq.trans (lp_l hL100) (Eq.trans (bnd_of hr108) (Eq.trans (bnd_of hr124) (Eq.trans (if_pos h132) (Eq.trans (if_pos h133) (Eq.trans (if_neg h134) (Eq.trans (if_pos h166) (Eq.trans (bnd_of hr173) (if_pos h178)))))))))))
  obtain rfl := e.symm.trans hr
  exact ⟨rfl, H179⟩
  refine Sk rfl rfl (decide_eq_false h178) rfl (Sk rfl rfl (decide_eq_false h178) rfl (Sk rfl rfl (decide_eq_false h178) rfl (Sk rfl rfl (decide_eq_false h178) rfl (WL.valG (v := .bool false) rfl rfl (decide_eq_false (not_not_intro h166)) rfl (Yl.pickF rfl (decide_eq_false h178) rfl) (WL.valG (v := .bool false) rfl rfl rfl rfl (Yl.pickF rfl (decide_eq_false (not_not_intro h166)) rfl) (WL.val (v := .bool false) rfl (Yl.pickT rfl rfl rfl) (As rfl rfl (WL.nil (Fin.then (Wp.ret (Fin.res (res1 rfl rfl) ?_)))))))))))
  have H180 : Own w D w174 [] := H176.pick [] (by decide) rfl
  have e : w17_OwnerOnce l0 p1 p2 p3 = false := Eq.trans (bnd_of hr27) (Eq.trans (bnd_of hr38) (Eq.trans (if_pos h45) (Eq.trans (lp_l hL100) (Eq.trans (bnd_of hr108) (Eq.trans (bnd_of hr124) (Eq.trans (if_pos h132) (Eq.trans (if_pos h133) (Eq.trans (if_neg h134) (Eq.trans (if_pos h166) (Eq.trans (bnd_of hr173) (if_neg h178)))))))))))
  obtain rfl := e.symm.trans hr
  exact ⟨rfl, H180⟩
  refine Sk rfl rfl (decide_eq_true h166) rfl (Sk rfl rfl (decide_eq_true h166) rfl (Sk rfl rfl (decide_eq_true h166) rfl (Sk rfl rfl (decide_eq_true h166) rfl (WL.skipU rfl rfl rfl (WL.skipU rfl rfl rfl (WL.skipU rfl rfl rfl (WL.skipU rfl rfl rfl (Sk rfl rfl (decide_eq_true h166) rfl (WL.valG (v := .bool true) rfl rfl rfl rfl (Yl.pickT rfl (decide_eq_true h166) rfl) (WL.val (v := .bool true) rfl (Yl.pickT rfl rfl rfl) (As rfl rfl (WL.nil (Fin.then (Wp.ret (Fin.res (res1 rfl rfl) ?_)))))))))))))))
  have H181 : Own w D w125 [] := H127.pick [] (by decide) rfl
  have e : w17_OwnerOnce l0 p1 p2 p3 = true := Eq.trans (bnd_of hr27) (Eq.trans (bnd_of hr38) (Eq.trans (if_pos h45) (Eq.trans (lp_l hL100) (Eq.trans (bnd_of hr108) (Eq.trans (bnd_of hr124) (Eq.trans (if_pos h132) (Eq.trans (if_pos h133) (Eq.trans (if_neg h134) (if_neg h166)))))))))
  obtain rfl := e.symm.trans hr
  exact ⟨rfl, H181⟩
  refine Sk rfl rfl (decide_eq_false h133) rfl (Sk rfl rfl (decide_eq_false h133) rfl (Sk rfl rfl (decide_eq_false h133) rfl (WL.skipU rfl rfl rfl (WL.skipU rfl rfl rfl (WL.skipU rfl rfl rfl (WL.skipU rfl rfl rfl (WL.skipU rfl rfl rfl (WL.skipU rfl rfl rfl (WL.skipU rfl rfl rfl (WL.skipU rfl rfl rfl (WL.skipU rfl rfl rfl (WL.skipU rfl rfl rfl (Sk rfl rfl (decide_eq_false h133) rfl (WL.val (v := .bool false) rfl (Yl.pickF rfl (decide_eq_false h133) rfl) (Mv rfl rfl (Sk rfl rfl rfl rfl (Sk rfl rfl rfl rfl (Sk rfl rfl rfl rfl (WL.skipU rfl rfl rfl (WL.skipU rfl rfl rfl (WL.skipU rfl rfl rfl (WL.skipU rfl rfl rfl (WL.skipU rfl rfl rfl (WL.skipU rfl rfl rfl (WL.skipU rfl rfl rfl (WL.skipU rfl rfl rfl (WL.skipU rfl rfl rfl (Sk rfl rfl rfl rfl (WL.val (v := .bool false) rfl (Yl.pickF rfl rfl rfl) (As rfl rfl (WL.nil (Fin.then (Wp.ret (Fin.res (res1 rfl rfl) ?_))))))))))))))))))))))))))))))))))
  have H182 : Own w D w125 [] := H127.pick [] (by decide) rfl
  have e : w17_OwnerOnce l0 p1 p2 p3 = false := Eq.trans (bnd_of hr27) (Eq.trans (bnd_of hr38) (Eq.trans (if_pos h45) (Eq.trans (lp_l hL100) (Eq.trans (bnd_of hr108) (Eq.trans (bnd_of hr124) (Eq.trans (if_pos h132) (if_neg h133)))))))
  obtain rfl := e.symm.trans hr
  exact ⟨rfl, H182⟩
  refine Sk rfl rfl h132 rfl (Sk rfl rfl h132 rfl (Sk rfl rfl h132 rfl (Sk rfl rfl h132 rfl (WL.val (v := .bool false) rfl (Yl.pickF rfl h132 rfl) (Mv rfl rfl (Sk rfl rfl rfl rfl (Sk rfl rfl rfl rfl (Sk rfl rfl rfl rfl (WL.skipU rfl rfl rfl (WL.skipU rfl rfl rfl (WL.skipU rfl rfl rfl (WL.skipU rfl rfl rfl (WL.skipU rfl rfl rfl (WL.skipU rfl rfl rfl (WL.skipU rfl rfl rfl (WL.skipU rfl rfl rfl (WL.skipU rfl rfl rfl (WL.skipU rfl rfl rfl (Sk rfl rfl rfl rfl (WL.val (v := .bool false) rfl (Yl.pickF rfl rfl rfl) (Mv rfl rfl (Sk rfl rfl rfl rfl (Sk rfl rfl rfl rfl (Sk rfl rfl rfl rfl (WL.skipU rfl rfl rfl (WL.skipU rfl rfl rfl (WL.skipU rfl rfl rfl (WL.skipU rfl rfl rfl (WL.skipU rfl rfl rfl (WL.skipU rfl rfl rfl (WL.skipU rfl rfl rfl (WL.skipU rfl rfl rfl (WL.skipU rfl rfl rfl (Sk rfl rfl rfl rfl (WL.val (v := .bool false) rfl (Yl.pickF rfl rfl rfl) (As rfl rfl (WL.nil (Fin.then (Wp.ret ?_)))))))))))))))))))))))))))))))))))))))
  refine Fin.res (res1 rfl rfl) ?_
  have H183 : Own w D w125 [] := H127.pick [] (by decide) rfl
  have e : w17_OwnerOnce l0 p1 p2 p3 = false := Eq.trans (bnd_of hr27) (Eq.trans (bnd_of hr38) (Eq.trans (if_pos h45) (Eq.trans (lp_l hL100) (Eq.trans (bnd_of hr108) (Eq.trans (bnd_of hr124) (ifF h132))))))
  obtain rfl := e.symm.trans hr
  exact ⟨rfl, H183⟩
  refine Wp.cond1 rfl (decide_eq_true h45) (Wp.seq (Wp.region (Mv rfl rfl (As rfl rfl (WL.nil (Fin.then (Wp.ret (Fin.thenR (Fin.res (res1 rfl rfl) ?_)))))))))
  have H184 : Own w D w39 [] := H41.pick [] (by decide) rfl
  have e : w17_OwnerOnce l0 p1 p2 p3 = r26 := Eq.trans (bnd_of hr27) (Eq.trans (bnd_of hr38) (if_neg h45))
  obtain rfl := e.symm.trans hr
  exact ⟨rfl, H184⟩
end Go.Proofs.Ytcjjblkgbfaapaa
