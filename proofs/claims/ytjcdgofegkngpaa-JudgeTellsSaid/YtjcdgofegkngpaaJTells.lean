/-
 judge: the law JudgeTells
-/
import Derived.Test.YtjcdgofegkngpaaJt
import Derived.Test.YtjcdgofegkngpaaWiX
namespace Go.Proofs.Ytjcdgofegkngpaa
open Go.RowKit
set_option linter.unusedVariables false
set_option linter.unusedSectionVars false
set_option linter.unusedSimpArgs false
def w23_JudgeTells_L1 : Nat → Unit
  | 0 => ()
  | q111 + 1 => w23_JudgeTells_L1 q111
def w23_JudgeTells_L0 (l0 : List SeenT) (r26 : Bool) : Nat → Unit ⊕ Bool
  | 0 => Sum.inl ()
  | q34 + 1 => bnd (judge_Judge l0) fun yr50 => bnd (r23_Judge l0) fun yr61 => bnd (judge_Replay l0) fun yr72 => bnd (r23_Replay l0) fun yr86 => if yr50.1 = yr61.1 then if yr50.2 = yr61.2 then if yr72.2 = yr86.2 then bnd (r04_SameMap yr72.1 yr86.1) fun yr103 => if yr103 = true then bnd (w23_JudgeTells_L1 yr72.1.length) fun _ => w23_JudgeTells_L0 l0 r26 q34 else Sum.inr (false) else Sum.inr (false) else Sum.inr (false) else Sum.inr (false)
def w23_JudgeTells (l0 : List SeenT) : Bool :=
 bnd (w23_live) fun yr26 => if ((l0.length : Nat) : Int) > 100 then yr26 else lp (w23_JudgeTells_L0 l0 yr26 2) fun _ => yr26
set_option maxRecDepth 100000 in
set_option maxHeartbeats 4000000 in
theorem w23_JudgeTells_ok (w : World) (D : Nat → Prop) (A0 : Option Addr) (n0 c0 : Nat) (d0 : List SeenD) (l0 : List SeenT) (r0 : Bool) (H : Own w D w []) (hd0 : List.map SeenD.abs d0 = l0) (hx0 : Ro w D fun w' => Rds w' 6 A0 n0 (List.flatMap SeenD.cells d0)) (hm0 : ∀ x ∈ d0, Ro w D (fun w' => Rds w' 6 x.xOps.A x.xOps.ls.length (List.flatMap OpD.cells x.xOps.ls)) ∧ (x.xOps.ls.length ≤ x.xOps.c ∧ x.xOps.ls.length ≤ 9223372036854775807) ∧ Ro w D (fun w' => Rds w' 3 x.xResults.A x.xResults.ls.length (List.flatMap ResultD.cells x.xResults.ls)) ∧ (x.xResults.ls.length ≤ x.xResults.c ∧ x.xResults.ls.length ≤ 9223372036854775807) ∧ (∀ y1 ∈ x.xResults.ls, Ro w D (fun w' => Rds w' 2 y1.xPairs.A y1.xPairs.ls.length (List.flatMap PairD.cells y1.xPairs.ls)) ∧ (y1.xPairs.ls.length ≤ y1.xPairs.c ∧ y1.xPairs.ls.length ≤ 9223372036854775807))) (hn0 : n0 = l0.length) (hl0 : l0.length * 80 ≤ 211106232532992) (hq0 : l0.length ≤ c0) (hh0 : l0.length * 80 ≤ 140737488351232) (hr : w23_JudgeTells l0 = r0) :
    Calls Try.prog 3 #[.slice A0 n0 c0] w (Ret fun v w' => v = .bool r0 ∧ Own w D w' []) := by
 subst hn0
 have hdl0 := abs_len hd0
 refine Calls.body (args := [.slice A0 l0.length c0]) Try.func3 rfl rfl rfl ?_
 show Wp _ _ _ [(0, .slice A0 l0.length c0)] _ _
 refine sr (Ar rfl ?_)
 obtain ⟨r26, hr27⟩ : ∃ q, w23_live = q := ⟨_, rfl⟩
 obtain ⟨D21, HP22, ro23, bk24, rr25⟩ := Own.enter0 H
 refine cl Try.call8 (w23_live_ok _ _ r26 HP22 hr27) ?_
 rintro _ w28 ⟨rfl, HQ29⟩
 have H30 := bk24 _ _ HQ29
 refine An rfl (Wp.seq (sr (Mz rfl (Kz (.int .i64 ((l0.length : Nat) : Int)) (Kz (.bool (decide (((l0.length : Nat) : Int) > 100))) (nt ?_))))))
 by_cases h31 : ((l0.length : Nat) : Int) > 100
 refine jT (dT h31) (sr (Mz rfl (An rfl (rt (tR (rs ?_))))))
 have H32 := H30.pk []
 obtain rfl : _ = r26 := hr.symm.trans (et (bnd_of hr27) (ip h31))
 exact ⟨rfl, H32⟩
 refine jF (dF h31) (sk (Wp.seq (sr (Mn rfl (bo ?_)))))
 have H35 := H30.pk []
 obtain ⟨I39, hI40⟩ : ∃ q : Nat → World → Prop, q = fun (i : Nat) w' => Own w D w' [] ∧ (i ≤ 2 ∧ w23_JudgeTells_L0 l0 r26 2 = w23_JudgeTells_L0 l0 r26 (2 - i)) := ⟨_, rfl⟩
 have dm41 : ∀ {k33 : Nat} {w' : World}, I39 k33 w' ↔ Own w D w' [] ∧ k33 ≤ 2 ∧ w23_JudgeTells_L0 l0 r26 2 = w23_JudgeTells_L0 l0 r26 (2 - k33) := by intros; subst hI40; exact Iff.rfl
 refine Wp.loop (fun i : Nat => [(2, .bool false), (18, .int .i64 ((i : Nat) : Int)), (3, .bool r26), (0, .slice A0 l0.length c0)]) I39 (fun i => 2 - i) 0 ⟨rfl, rfl, rfl, rfl, trivial⟩ (dm41.2 ⟨H35, by omega, rfl⟩) ?_
 rintro k33 w36 hf38
 show Wp _ _ _ [(2, .bool false), (18, .int .i64 ((k33 : Nat) : Int)), (3, .bool r26), (0, .slice A0 l0.length c0)] _ _
 obtain ⟨H37, hi43, hq42⟩ := dm41.1 hf38
 refine sr (Kz (.bool (decide (((k33 : Nat) : Int) < 2))) (nt (Wp.seq ?_)))
 by_cases h44 : ((k33 : Nat) : Int) < 2
 refine jT (dT h44) (sk (Wp.seq (bo (sr (Mz rfl ?_)))))
 obtain ⟨⟨r50, r51⟩, hr52⟩ : ∃ q : Int × Int, judge_Judge l0 = q := ⟨_, rfl⟩
 obtain ⟨D45, HP46, ro47, bk48, rr49⟩ := Own.enter0 H37
 refine cl Try.call9 (judge_Judge_ok _ _ A0 l0.length c0 d0 l0 r50 r51 HP46 hd0 (ro47 _ hx0) (fun x9 h9 => ⟨ro47 _ (hm0 x9 h9).1, (hm0 x9 h9).2.1, ro47 _ (hm0 x9 h9).2.2.1, (hm0 x9 h9).2.2.2.1, (fun y1 k1 => ⟨ro47 _ ((hm0 x9 h9).2.2.2.2 y1 k1).1, ((hm0 x9 h9).2.2.2.2 y1 k1).2⟩)⟩) rfl (by omega) (by first | omega | exact Nat.le_of_ble_eq_true rfl | (simp only [List.length_take]; omega)) hr52) ?_
 rintro _ w53 ⟨rfl, HQ54⟩
 have H55 := bk48 _ _ HQ54
 refine Mz rfl (Kz (.int .i64 r50) (Kz (.int .i64 r51) (Az rfl (Ar rfl (Mz rfl ?_)))))
 obtain ⟨⟨r61, r62⟩, hr63⟩ : ∃ q : Int × Int, r23_Judge l0 = q := ⟨_, rfl⟩
 obtain ⟨D56, HP57, ro58, bk59, rr60⟩ := Own.enter0 H55
 refine cl Try.call10 (r23_Judge_ok _ _ A0 l0.length c0 d0 l0 r61 r62 HP57 hd0 (ro58 _ hx0) (fun x9 h9 => ⟨ro58 _ (hm0 x9 h9).1, (hm0 x9 h9).2.1, ro58 _ (hm0 x9 h9).2.2.1, (hm0 x9 h9).2.2.2.1, (fun y1 k1 => ⟨ro58 _ ((hm0 x9 h9).2.2.2.2 y1 k1).1, ((hm0 x9 h9).2.2.2.2 y1 k1).2⟩)⟩) rfl (by omega) (by first | omega | (simp only [List.length_take, List.length_drop]; omega) | exact Nat.le_refl _) (by omega) hr63) ?_
 rintro _ w64 ⟨rfl, HQ65⟩
 have H66 := bk59 _ _ HQ65
 refine Mz rfl (Kz (.int .i64 r61) (Kz (.int .i64 r62) (Az rfl (Ar rfl (Mz rfl ?_)))))
 obtain ⟨⟨r72, r73⟩, hr74⟩ : ∃ q : (List PairD) × Int, judge_Replay l0 = q := ⟨_, rfl⟩
 obtain ⟨D67, HP68, ro69, bk70, rr71⟩ := Own.enter0 H66
 refine cl Try.call11 (judge_Replay_ok _ _ A0 l0.length c0 d0 l0 r72 r73 HP68 hd0 (ro69 _ hx0) (fun x9 h9 => ⟨ro69 _ (hm0 x9 h9).1, (hm0 x9 h9).2.1, ro69 _ (hm0 x9 h9).2.2.1, (hm0 x9 h9).2.2.2.1, (fun y1 k1 => ⟨ro69 _ ((hm0 x9 h9).2.2.2.2 y1 k1).1, ((hm0 x9 h9).2.2.2.2 y1 k1).2⟩)⟩) rfl (by omega) (by first | omega | exact Nat.le_of_ble_eq_true rfl | (simp only [List.length_take]; omega)) hr74) ?_
 rintro _ w75 ⟨A78, c79, rfl, HQ76⟩
 have H77 := bk70 _ _ HQ76
 have hb80 := H77.rowC (i := 0) rfl
 refine Mz rfl (Kz (.slice A78 r72.length c79) (Kz (.int .i64 r73) (Az rfl (Ar rfl (Mz rfl ?_)))))
 obtain ⟨⟨r86, r87⟩, hr88⟩ : ∃ q : (List PairD) × Int, r23_Replay l0 = q := ⟨_, rfl⟩
 obtain ⟨D81, HP82, ro83, bk84, rr85⟩ := Own.enter0 H77
 refine cl Try.call12 (r23_Replay_ok _ _ A0 l0.length c0 d0 l0 r86 r87 HP82 hd0 (ro83 _ hx0) (fun x9 h9 => ⟨ro83 _ (hm0 x9 h9).1, (hm0 x9 h9).2.1, ro83 _ (hm0 x9 h9).2.2.1, (hm0 x9 h9).2.2.2.1, (fun y1 k1 => ⟨ro83 _ ((hm0 x9 h9).2.2.2.2 y1 k1).1, ((hm0 x9 h9).2.2.2.2 y1 k1).2⟩)⟩) rfl (by omega) (by first | omega | (simp only [List.length_take, List.length_drop]; omega) | exact Nat.le_refl _) (by omega) hr88) ?_
 rintro _ w89 ⟨A92, c93, rfl, HQ90⟩
 have H91 := bk84 _ _ HQ90
 have hb94 := H91.rowC (i := 0) rfl
 refine Mz rfl (Kz (.slice A92 r86.length c93) (Kz (.int .i64 r87) (Az rfl (An rfl (Wp.seq (sr (Mz rfl (Mz rfl (fw (.bool (decide (¬ (r50 = r61)))) (Yl.bool (e := !(decide (r50 = r61))) yk decide_not.symm) (Mz rfl ?_))))))))))
 by_cases h95 : r50 = r61
 refine gw (.int .i64 r51) (dF (not_not_intro h95)) (Yl.move rfl) (gw (.int .i64 r62) (dF (not_not_intro h95)) (Yl.move rfl) (gw (.bool (decide (¬ (r51 = r62)))) (dF (not_not_intro h95)) (Yl.bool (e := !(decide (r51 = r62))) yk decide_not.symm) (fw (.bool (decide (¬ (r51 = r62)))) (Yl.pickF rfl (dF (not_not_intro h95)) rfl) (Mz rfl ?_))))
 by_cases h96 : r51 = r62
 refine gw (.int .i64 r73) (dF (not_not_intro h96)) (Yl.move rfl) (gw (.int .i64 r87) (dF (not_not_intro h96)) (Yl.move rfl) (gw (.bool (decide (¬ (r73 = r87)))) (dF (not_not_intro h96)) (Yl.bool (e := !(decide (r73 = r87))) yk decide_not.symm) (fw (.bool (decide (¬ (r73 = r87)))) (Yl.pickF rfl (dF (not_not_intro h96)) rfl) (Mz rfl ?_))))
 by_cases h97 : r73 = r87
 refine gw (.slice A78 r72.length c79) (dF (not_not_intro h97)) (Yl.move rfl) (gw (.slice A92 r86.length c93) (dF (not_not_intro h97)) (Yl.move rfl) ?_)
 obtain ⟨r103, hr104⟩ : ∃ q, r04_SameMap r72 r86 = q := ⟨_, rfl⟩
 obtain ⟨D98, HP99, ro100, bk101, rr102⟩ := Own.enter0 H91
 refine clG (dF (not_not_intro h97)) Try.call13 (r04_SameMap_ok _ _ A78 r72.length c79 r72 A92 r86.length c93 r86 r103 HP99 (rr102 _ 1 _ rfl row_rds) rfl (by omega) (rr102 _ 0 _ rfl row_rds) rfl (by omega) hr104) ?_
 rintro _ w105 ⟨rfl, HQ106⟩
 have H107 := bk101 _ _ HQ106
 refine gw (.bool (!r103)) (dF (not_not_intro h97)) yk (fw (.bool (!r103)) (Yl.pickF rfl (dF (not_not_intro h97)) rfl) (nt ?_))
 rcases Bool.eq_false_or_eq_true (r103) with h108 | h108
 refine jF (cn h108) (sk (sr (Mz rfl (Kz (.int .i64 ((r72.length : Nat) : Int)) (Mn rfl (bo ?_))))))
 have H112 := H107.pk [0, 1]
 obtain ⟨I116, hI117⟩ : ∃ q : (Nat × (List PairD)) → World → Prop, q = fun (i : Nat × (List PairD)) w' => Own w D w' [row A92 r86.length c93 (List.flatMap PairD.cells r86) 32 2, row A78 r72.length c79 (List.flatMap PairD.cells i.2) 32 2] ∧ (i.2.length = r72.length ∧ i.1 ≤ r72.length ∧ w23_JudgeTells_L1 r72.length = w23_JudgeTells_L1 (r72.length - i.1)) := ⟨_, rfl⟩
 have dm118 : ∀ {k109 : Nat} {l110 : List PairD} {w' : World}, I116 (k109, l110) w' ↔ Own w D w' [row A92 r86.length c93 (List.flatMap PairD.cells r86) 32 2, row A78 r72.length c79 (List.flatMap PairD.cells l110) 32 2] ∧ l110.length = r72.length ∧ k109 ≤ r72.length ∧ w23_JudgeTells_L1 r72.length = w23_JudgeTells_L1 (r72.length - k109) := by intros; subst hI117; exact Iff.rfl
 refine Wp.loop (fun i : Nat × (List PairD) => [(61, .int .i64 ((i.1 : Nat) : Int)), (60, .int .i64 ((r72.length : Nat) : Int)), (59, .slice A78 r72.length c79), (58, .bool (!r103)), (57, .bool (!r103)), (56, .bool r103), (55, .slice A92 r86.length c93), (54, .slice A78 r72.length c79), (53, .bool (decide (¬ (r73 = r87)))), (52, .bool (decide (¬ (r73 = r87)))), (51, .bool (decide (¬ (r73 = r87)))), (50, .int .i64 r87), (49, .int .i64 r73), (48, .bool (decide (¬ (r51 = r62)))), (47, .bool (decide (¬ (r51 = r62)))), (46, .bool (decide (¬ (r51 = r62)))), (45, .int .i64 r62), (44, .int .i64 r51), (43, .bool (decide (¬ (r50 = r61)))), (42, .bool (decide (¬ (r50 = r61)))), (41, .int .i64 r61), (40, .int .i64 r50), (11, .int .i64 r87), (10, .slice A92 r86.length c93), (39, .int .i64 r87), (38, .slice A92 r86.length c93), (35, .tuple #[.slice A92 r86.length c93, .int .i64 r87]), (37, .tuple #[.slice A92 r86.length c93, .int .i64 r87]), (36, .slice A0 l0.length c0), (9, .int .i64 r73), (8, .slice A78 r72.length c79), (34, .int .i64 r73), (33, .slice A78 r72.length c79), (30, .tuple #[.slice A78 r72.length c79, .int .i64 r73]), (32, .tuple #[.slice A78 r72.length c79, .int .i64 r73]), (31, .slice A0 l0.length c0), (7, .int .i64 r62), (6, .int .i64 r61), (29, .int .i64 r62), (28, .int .i64 r61), (25, .tuple #[.int .i64 r61, .int .i64 r62]), (27, .tuple #[.int .i64 r61, .int .i64 r62]), (26, .slice A0 l0.length c0), (5, .int .i64 r51), (4, .int .i64 r50), (24, .int .i64 r51), (23, .int .i64 r50), (20, .tuple #[.int .i64 r50, .int .i64 r51]), (22, .tuple #[.int .i64 r50, .int .i64 r51]), (21, .slice A0 l0.length c0), (19, .bool (decide (((k33 : Nat) : Int) < 2))), (2, .bool false), (18, .int .i64 ((k33 : Nat) : Int)), (3, .bool r26), (0, .slice A0 l0.length c0)]) I116 (fun i => r72.length - i.1) (0, r72) ⟨rfl, rfl, rfl, rfl, rfl, rfl, rfl, rfl, rfl, rfl, rfl, rfl, rfl, rfl, rfl, rfl, rfl, rfl, rfl, rfl, rfl, rfl, rfl, rfl, rfl, rfl, rfl, rfl, rfl, rfl, rfl, rfl, rfl, rfl, rfl, rfl, rfl, rfl, rfl, rfl, rfl, rfl, rfl, rfl, rfl, rfl, rfl, rfl, rfl, rfl, rfl, rfl, rfl, rfl, rfl, trivial⟩ (dm118.2 ⟨H112, by first | omega | (simp only [List.length_set]; omega) | (simp only [List.length_replicate]), by omega, rfl⟩) ?_
 rintro ⟨k109, l110⟩ w113 hf115
 show Wp _ _ _ [(61, .int .i64 ((k109 : Nat) : Int)), (60, .int .i64 ((r72.length : Nat) : Int)), (59, .slice A78 r72.length c79), (58, .bool (!r103)), (57, .bool (!r103)), (56, .bool r103), (55, .slice A92 r86.length c93), (54, .slice A78 r72.length c79), (53, .bool (decide (¬ (r73 = r87)))), (52, .bool (decide (¬ (r73 = r87)))), (51, .bool (decide (¬ (r73 = r87)))), (50, .int .i64 r87), (49, .int .i64 r73), (48, .bool (decide (¬ (r51 = r62)))), (47, .bool (decide (¬ (r51 = r62)))), (46, .bool (decide (¬ (r51 = r62)))), (45, .int .i64 r62), (44, .int .i64 r51), (43, .bool (decide (¬ (r50 = r61)))), (42, .bool (decide (¬ (r50 = r61)))), (41, .int .i64 r61), (40, .int .i64 r50), (11, .int .i64 r87), (10, .slice A92 r86.length c93), (39, .int .i64 r87), (38, .slice A92 r86.length c93), (35, .tuple #[.slice A92 r86.length c93, .int .i64 r87]), (37, .tuple #[.slice A92 r86.length c93, .int .i64 r87]), (36, .slice A0 l0.length c0), (9, .int .i64 r73), (8, .slice A78 r72.length c79), (34, .int .i64 r73), (33, .slice A78 r72.length c79), (30, .tuple #[.slice A78 r72.length c79, .int .i64 r73]), (32, .tuple #[.slice A78 r72.length c79, .int .i64 r73]), (31, .slice A0 l0.length c0), (7, .int .i64 r62), (6, .int .i64 r61), (29, .int .i64 r62), (28, .int .i64 r61), (25, .tuple #[.int .i64 r61, .int .i64 r62]), (27, .tuple #[.int .i64 r61, .int .i64 r62]), (26, .slice A0 l0.length c0), (5, .int .i64 r51), (4, .int .i64 r50), (24, .int .i64 r51), (23, .int .i64 r50), (20, .tuple #[.int .i64 r50, .int .i64 r51]), (22, .tuple #[.int .i64 r50, .int .i64 r51]), (21, .slice A0 l0.length c0), (19, .bool (decide (((k33 : Nat) : Int) < 2))), (2, .bool false), (18, .int .i64 ((k33 : Nat) : Int)), (3, .bool r26), (0, .slice A0 l0.length c0)] _ _
 obtain ⟨H114, hi120, hi121, hq119⟩ := dm118.1 hf115
 refine sr (Kz (.bool (decide (((k109 : Nat) : Int) < ((r72.length : Nat) : Int)))) (nt (Wp.seq ?_)))
 by_cases h122 : ((k109 : Nat) : Int) < ((r72.length : Nat) : Int)
 refine jT (dT h122) (sk (Wp.seq (bo (sr (Mz rfl (An rfl (Wp.region (Mz rfl (Mz rfl ?_)))))))))
 obtain ⟨x123, hx124⟩ := rds_at (ls := l110) (i := k109) PairD.len (by decide) (H114.rds (i := 1) rfl) (by first | omega | (simp; done) | (simp; omega))
 refine fw (.pointer (some ⟨ab A78, ao A78 + k109 * 2, none⟩)) (Yl.indexAddr (El27) rfl rfl ((H114.rds (i := 1) rfl).addr (i := k109) (by omega)) (by omega)) (Kz (.pointer (some ⟨ab A78, ao A78 + k109 * 2, none⟩)) ?_)
 have H125 := H114.pk [1, 0]
 refine WL.do0 (Do.storeRow (vs := [.string ⟨List.toArray ([122, 122])⟩]) (o := k109 * 2 + 0) (q := ao A78 + k109 * 2) H125 rfl (by omega) rfl Try.sizeOf9 rfl rfl (Nat.le_of_ble_eq_true rfl) (store_fits PairD.len hx124 (Nat.le_of_ble_eq_true rfl)) (flat_set (y := (PairD.mk ([122, 122]) x123.xValue)) PairD.len rfl (Nat.le_of_ble_eq_true rfl) hx124) ?_)
 intro w126 H127
 refine WL.nil (bN (Fin.then (Wp.region (fw (.int .i64 ((k109 + 1 : Nat) : Int)) (Yl.int (e := IntKind.i64.wrap (((k109 : Nat) : Int) + 1)) yk (by rw [IntWalk.i64_in _ (by omega)]; omega)) (Mz rfl (WL.nil ?_))))))
 have H128 := H127.pk [1, 0]
 exact Fin.round (k109 + 1, (List.set l110 k109 (PairD.mk ([122, 122]) x123.xValue))) ⟨rfl, rfl, rfl, rfl, rfl, rfl, rfl, rfl, rfl, rfl, rfl, rfl, rfl, rfl, rfl, rfl, rfl, rfl, rfl, rfl, rfl, rfl, rfl, rfl, rfl, rfl, rfl, rfl, rfl, rfl, rfl, rfl, rfl, rfl, rfl, rfl, rfl, rfl, rfl, rfl, rfl, rfl, rfl, rfl, rfl, rfl, rfl, rfl, rfl, rfl, rfl, rfl, rfl, rfl, rfl, trivial⟩ (dm118.2 ⟨H128, by first | omega | (simp only [List.length_set]; omega) | (simp only [List.length_replicate]), by omega, Eq.trans (hq119) (Eq.trans (congrArg (fun q => w23_JudgeTells_L1 q) (sub_at (n := r72.length) (i := k109) (by omega))) rfl)⟩) (by show r72.length - (k109 + 1) < r72.length - k109; omega)
 refine jF (dF h122) (Wp.exit (Fin.thenX ?_))
 have hL129 : w23_JudgeTells_L1 r72.length = () := et (hq119) (et (congrArg (fun q => w23_JudgeTells_L1 q) (sub_end (n := r72.length) (i := k109) (by omega))) rfl)
 refine Fin.thenX (Fin.blockX (bN (Fin.then (Wp.region (fw (.int .i64 ((k33 + 1 : Nat) : Int)) (Yl.int (e := IntKind.i64.wrap (((k33 : Nat) : Int) + 1)) yk (by rw [IntWalk.i64_in _ (by omega)]; omega)) (Mz rfl (WL.nil ?_)))))))
 have H130 := H114.pk []
 exact Fin.round (k33 + 1) ⟨rfl, rfl, rfl, rfl, trivial⟩ (dm41.2 ⟨H130, by omega, et (hq42) (et (congrArg (fun q => w23_JudgeTells_L0 l0 r26 q) (sub_at (n := 2) (i := k33) (by omega))) (et (bnd_of hr52) (et (bnd_of hr63) (et (bnd_of hr74) (et (bnd_of hr88) (et (ip h95) (et (ip h96) (et (ip h97) (et (bnd_of hr104) (et (ip h108) (bnd_of hL129)))))))))))⟩) (by show 2 - (k33 + 1) < 2 - k33; omega)
 refine jT (cn h108) (sr (An rfl (rt (tR (bR (tR (tR (bR (tR (rs ?_))))))))))
 have H131 := H107.pk []
 obtain rfl : _ = false := hr.symm.trans (et (bnd_of hr27) (et (iN h31) (lp_r (et (hq42) (et (congrArg (fun q => w23_JudgeTells_L0 l0 r26 q) (sub_at (n := 2) (i := k33) (by omega))) (et (bnd_of hr52) (et (bnd_of hr63) (et (bnd_of hr74) (et (bnd_of hr88) (et (ip h95) (et (ip h96) (et (ip h97) (et (bnd_of hr104) (ifF h108))))))))))))))
 exact ⟨rfl, H131⟩
 refine Sz (dT h97) (Sz (dT h97) (Sz (dT h97) (Sz (dT h97) (fw (.bool true) (Yl.pickT rfl (dT h97) rfl) (nt (jt (sr (An rfl (rt (tR (bR (tR (tR (bR (tR (rs ?_))))))))))))))))
 have H132 := H91.pk []
 obtain rfl : _ = false := hr.symm.trans (et (bnd_of hr27) (et (iN h31) (lp_r (et (hq42) (et (congrArg (fun q => w23_JudgeTells_L0 l0 r26 q) (sub_at (n := 2) (i := k33) (by omega))) (et (bnd_of hr52) (et (bnd_of hr63) (et (bnd_of hr74) (et (bnd_of hr88) (et (ip h95) (et (ip h96) (iN h97))))))))))))
 exact ⟨rfl, H132⟩
 refine Sz (dT h96) (Sz (dT h96) (Sz (dT h96) (fw (.bool true) (Yl.pickT rfl (dT h96) rfl) (Mz rfl (Sz rfl (Sz rfl (Sz rfl (Sz rfl (fw (.bool true) (Yl.pickT rfl rfl rfl) (nt (jt (sr (An rfl (rt (tR (bR (tR (tR (bR (tR (rs ?_)))))))))))))))))))))
 have H133 := H91.pk []
 obtain rfl : _ = false := hr.symm.trans (et (bnd_of hr27) (et (iN h31) (lp_r (et (hq42) (et (congrArg (fun q => w23_JudgeTells_L0 l0 r26 q) (sub_at (n := 2) (i := k33) (by omega))) (et (bnd_of hr52) (et (bnd_of hr63) (et (bnd_of hr74) (et (bnd_of hr88) (et (ip h95) (iN h96)))))))))))
 exact ⟨rfl, H133⟩
 refine Sz (dT h95) (Sz (dT h95) (Sz (dT h95) (fw (.bool true) (Yl.pickT rfl (dT h95) rfl) (Mz rfl (Sz rfl (Sz rfl (Sz rfl (fw (.bool true) (Yl.pickT rfl rfl rfl) (Mz rfl (Sz rfl (Sz rfl (Sz rfl (Sz rfl (fw (.bool true) (Yl.pickT rfl rfl rfl) (nt (jt (sr (An rfl (rt (tR (bR (tR (tR (bR (tR (rs ?_))))))))))))))))))))))))))
 have H134 := H91.pk []
 obtain rfl : _ = false := hr.symm.trans (et (bnd_of hr27) (et (iN h31) (lp_r (et (hq42) (et (congrArg (fun q => w23_JudgeTells_L0 l0 r26 q) (sub_at (n := 2) (i := k33) (by omega))) (et (bnd_of hr52) (et (bnd_of hr63) (et (bnd_of hr74) (et (bnd_of hr88) (iN h95))))))))))
 exact ⟨rfl, H134⟩
 refine jF (dF h44) (Wp.exit (Fin.thenX ?_))
 have hL135 : w23_JudgeTells_L0 l0 r26 2 = Sum.inl () := et (hq42) (et (congrArg (fun q => w23_JudgeTells_L0 l0 r26 q) (sub_end (n := 2) (i := k33) (by omega))) rfl)
 refine Fin.thenX (Fin.blockX (Fin.then (sr (Mz rfl (An rfl (rt (rs ?_)))))))
 have H136 := H37.pk []
 obtain rfl : _ = r26 := hr.symm.trans (et (bnd_of hr27) (et (iN h31) (lp_l hL135)))
 exact ⟨rfl, H136⟩
end Go.Proofs.Ytjcdgofegkngpaa
