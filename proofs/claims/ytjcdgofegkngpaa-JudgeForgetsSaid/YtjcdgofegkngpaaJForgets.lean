/-
 judge: the law JudgeForgets
-/
import Derived.Test.YtjcdgofegkngpaaJl
import Derived.Test.YtjcdgofegkngpaaWiX
namespace Go.Proofs.Ytjcdgofegkngpaa
open Go.RowKit
set_option linter.unusedVariables false
set_option linter.unusedSectionVars false
set_option linter.unusedSimpArgs false

def w23_JudgeForgets_L1 (x54 : SeenT) (l36 : List SeenT) (k38 : Nat) : List SeenT → Bool → Nat → Bool
  | [], b66, k67 => b66
  | x79 :: q68, b66, k67 => if b66 = true then w23_JudgeForgets_L1 x54 l36 k38 q68 true (k67 + 1) else if ((k67 : Nat) : Int) = ((k38 : Nat) : Int) then w23_JudgeForgets_L1 x54 l36 k38 q68 false (k67 + 1) else if x79.xClient = x54.xClient then w23_JudgeForgets_L1 x54 l36 k38 q68 (decide (((x79.xReq : Nat) : Int) = ((x54.xReq : Nat) : Int))) (k67 + 1) else w23_JudgeForgets_L1 x54 l36 k38 q68 false (k67 + 1)

def w23_JudgeForgets_L0 (l0 : List SeenT) (r26 : Bool) : List SeenT → List SeenT → Nat → (List SeenT)
  | [], l36, k38 => l36
  | x54 :: q39, l36, k38 => bnd (w23_JudgeForgets_L1 x54 l36 k38 l0 (decide (¬ (x54.xKind = 1))) 0) fun sLrbfLsL => if sLrbfLsL = true then w23_JudgeForgets_L0 l0 r26 q39 (l36 ++ [(SeenT.mk x54.xKind x54.xClient x54.xReq x54.xCode (Ll.mk x54.xOps.ls) (Ll.mk x54.xResults.ls))]) (k38 + 1) else w23_JudgeForgets_L0 l0 r26 q39 l36 (k38 + 1)

def w23_JudgeForgets (l0 : List SeenT) : Bool :=
 bnd (w23_live) fun yr26 => if ((l0.length : Nat) : Int) > 100 then yr26 else bnd (w23_JudgeForgets_L0 l0 yr26 l0 ([]) 0) fun sLrbfL => bnd (judge_Replay l0) fun yr119 => bnd (judge_Replay sLrbfL) fun yr133 => if yr26 = true then if yr119.2 = 0 then if yr133.2 = 0 then bnd (r04_SameMap yr119.1 yr133.1) fun yr151 => yr151 else false else true else false

set_option maxRecDepth 100000 in
set_option maxHeartbeats 4000000 in
theorem w23_JudgeForgets_ok (w : World) (D : Nat → Prop) (A0 : Option Addr) (n0 c0 : Nat) (d0 : List SeenD) (l0 : List SeenT) (r0 : Bool) (H : Own w D w []) (hd0 : List.map SeenD.abs d0 = l0) (hx0 : Ro w D fun w' => Rds w' 6 A0 n0 (List.flatMap SeenD.cells d0)) (hm0 : ∀ x ∈ d0, Ro w D (fun w' => Rds w' 6 x.xOps.A x.xOps.ls.length (List.flatMap OpD.cells x.xOps.ls)) ∧ (x.xOps.ls.length ≤ x.xOps.c ∧ x.xOps.ls.length ≤ 9223372036854775807) ∧ Ro w D (fun w' => Rds w' 3 x.xResults.A x.xResults.ls.length (List.flatMap ResultD.cells x.xResults.ls)) ∧ (x.xResults.ls.length ≤ x.xResults.c ∧ x.xResults.ls.length ≤ 9223372036854775807) ∧ (∀ y1 ∈ x.xResults.ls, Ro w D (fun w' => Rds w' 2 y1.xPairs.A y1.xPairs.ls.length (List.flatMap PairD.cells y1.xPairs.ls)) ∧ (y1.xPairs.ls.length ≤ y1.xPairs.c ∧ y1.xPairs.ls.length ≤ 9223372036854775807))) (hn0 : n0 = l0.length) (hl0 : l0.length * 80 ≤ 211106232532992) (hh0 : l0.length * 80 ≤ 140737488351232) (hr : w23_JudgeForgets l0 = r0) :
    Calls Try.prog 5 #[.slice A0 n0 c0] w (Ret fun v w' => v = .bool r0 ∧ Own w D w' []) := by
 subst hn0
 have hdl0 := abs_len hd0
 refine Calls.body (args := [.slice A0 l0.length c0]) Try.func5 rfl rfl rfl ?_
 show Wp _ _ _ [(0, .slice A0 l0.length c0)] _ _
 refine sr (Ar rfl ?_)
 obtain ⟨r26, hr27⟩ : ∃ q, w23_live = q := ⟨_, rfl⟩
 obtain ⟨D21, HP22, ro23, bk24, rr25⟩ := Own.enter0 H
 refine cl Try.call8 (w23_live_ok _ _ r26 HP22 hr27) ?_
 rintro _ w28 ⟨rfl, HQ29⟩
 have H30 := bk24 _ _ HQ29
 refine An rfl (Wp.seq (sr (Mz rfl (Kz (.int .i64 ((l0.length : Nat) : Int)) (Kz (.bool (decide (((l0.length : Nat) : Int) > 100))) (nt ?_))))))
 by_cases h31 : ((l0.length : Nat) : Int) > 100
 refine jT (dT h31) (sr (Mz rfl (An rfl (rt (tR (rs ?_))))))
 have H32 := H30.pk []
 obtain rfl : _ = r26 := hr.symm.trans (et (bnd_of hr27) (ip h31))
 exact ⟨rfl, H32⟩
 refine jF (dF h31) (sk (sr (An rfl (Wp.seq (sr (Mz rfl (Kz (.int .i64 ((l0.length : Nat) : Int)) (Mn rfl (bo ?_)))))))))
 have H33 : Own w D w28 [row none 0 0 (List.flatMap SeenD.cells ([])) 39 6] := H30.free (row_nil 39 6)
 have H40 := H33.pk [0]
 obtain ⟨I44, hI45⟩ : ∃ q : ((Option Addr) × Nat × (List SeenD) × (List SeenT) × Nat) → World → Prop, q = fun (i : (Option Addr) × Nat × (List SeenD) × (List SeenT) × Nat) w' => Own w D w' [row i.1 i.2.2.2.1.length i.2.1 (List.flatMap SeenD.cells i.2.2.1) 39 6] ∧ (List.map SeenD.abs i.2.2.1 = i.2.2.2.1 ∧ (∀ x : SeenD, x ∈ i.2.2.1 → Ro w D (fun w' => Rds w' 6 x.xOps.A x.xOps.ls.length (List.flatMap OpD.cells x.xOps.ls)) ∧ (x.xOps.ls.length ≤ x.xOps.c ∧ x.xOps.ls.length ≤ 9223372036854775807) ∧ Ro w D (fun w' => Rds w' 3 x.xResults.A x.xResults.ls.length (List.flatMap ResultD.cells x.xResults.ls)) ∧ (x.xResults.ls.length ≤ x.xResults.c ∧ x.xResults.ls.length ≤ 9223372036854775807) ∧ (∀ y1 ∈ x.xResults.ls, Ro w D (fun w' => Rds w' 2 y1.xPairs.A y1.xPairs.ls.length (List.flatMap PairD.cells y1.xPairs.ls)) ∧ (y1.xPairs.ls.length ≤ y1.xPairs.c ∧ y1.xPairs.ls.length ≤ 9223372036854775807))) ∧ i.2.2.2.2 ≤ l0.length ∧ i.2.2.2.1.length ≤ i.2.2.2.2 ∧ w23_JudgeForgets_L0 l0 r26 l0 ([]) 0 = w23_JudgeForgets_L0 l0 r26 (List.drop i.2.2.2.2 l0) i.2.2.2.1 i.2.2.2.2) := ⟨_, rfl⟩
 have dm46 : ∀ {A34 : Option Addr} {c35 : Nat} {d37 : List SeenD} {l36 : List SeenT} {k38 : Nat} {w' : World}, I44 (A34, c35, d37, l36, k38) w' ↔ Own w D w' [row A34 l36.length c35 (List.flatMap SeenD.cells d37) 39 6] ∧ List.map SeenD.abs d37 = l36 ∧ (∀ x : SeenD, x ∈ d37 → Ro w D (fun w' => Rds w' 6 x.xOps.A x.xOps.ls.length (List.flatMap OpD.cells x.xOps.ls)) ∧ (x.xOps.ls.length ≤ x.xOps.c ∧ x.xOps.ls.length ≤ 9223372036854775807) ∧ Ro w D (fun w' => Rds w' 3 x.xResults.A x.xResults.ls.length (List.flatMap ResultD.cells x.xResults.ls)) ∧ (x.xResults.ls.length ≤ x.xResults.c ∧ x.xResults.ls.length ≤ 9223372036854775807) ∧ (∀ y1 ∈ x.xResults.ls, Ro w D (fun w' => Rds w' 2 y1.xPairs.A y1.xPairs.ls.length (List.flatMap PairD.cells y1.xPairs.ls)) ∧ (y1.xPairs.ls.length ≤ y1.xPairs.c ∧ y1.xPairs.ls.length ≤ 9223372036854775807))) ∧ k38 ≤ l0.length ∧ l36.length ≤ k38 ∧ w23_JudgeForgets_L0 l0 r26 l0 ([]) 0 = w23_JudgeForgets_L0 l0 r26 (List.drop k38 l0) l36 k38 := by intros; subst hI45; exact Iff.rfl
 refine Wp.loop (fun i : (Option Addr) × Nat × (List SeenD) × (List SeenT) × Nat => [(4, .slice i.1 i.2.2.2.1.length i.2.1), (21, .int .i64 ((i.2.2.2.2 : Nat) : Int)), (20, .int .i64 ((l0.length : Nat) : Int)), (19, .slice A0 l0.length c0), (3, .bool r26), (2, .bool false), (0, .slice A0 l0.length c0)]) I44 (fun i => l0.length - i.2.2.2.2) (none, 0, [], [], 0) ⟨rfl, rfl, rfl, rfl, rfl, rfl, rfl, trivial⟩ (dm46.2 ⟨H40, (show List.map SeenD.abs ([]) = ([]) ∧ (∀ x : SeenD, x ∈ ([]) → Ro w D (fun w' => Rds w' 6 x.xOps.A x.xOps.ls.length (List.flatMap OpD.cells x.xOps.ls)) ∧ (x.xOps.ls.length ≤ x.xOps.c ∧ x.xOps.ls.length ≤ 9223372036854775807) ∧ Ro w D (fun w' => Rds w' 3 x.xResults.A x.xResults.ls.length (List.flatMap ResultD.cells x.xResults.ls)) ∧ (x.xResults.ls.length ≤ x.xResults.c ∧ x.xResults.ls.length ≤ 9223372036854775807) ∧ (∀ y1 ∈ x.xResults.ls, Ro w D (fun w' => Rds w' 2 y1.xPairs.A y1.xPairs.ls.length (List.flatMap PairD.cells y1.xPairs.ls)) ∧ (y1.xPairs.ls.length ≤ y1.xPairs.c ∧ y1.xPairs.ls.length ≤ 9223372036854775807))) ∧ 0 ≤ l0.length ∧ 0 ≤ 0 ∧ w23_JudgeForgets_L0 l0 r26 l0 ([]) 0 = w23_JudgeForgets_L0 l0 r26 (List.drop 0 l0) ([]) 0 from ⟨by exact rfl, by exact fun _ h => absurd h List.not_mem_nil, by omega, by omega, rfl⟩)⟩) ?_
 rintro ⟨A34, c35, d37, l36, k38⟩ w41 hf43
 show Wp _ _ _ [(4, .slice A34 l36.length c35), (21, .int .i64 ((k38 : Nat) : Int)), (20, .int .i64 ((l0.length : Nat) : Int)), (19, .slice A0 l0.length c0), (3, .bool r26), (2, .bool false), (0, .slice A0 l0.length c0)] _ _
 obtain ⟨H42, hi48, hi49, hi50, hi51, hq47⟩ := dm46.1 hf43
 have hl52 := abs_len hi48
 refine sr (Kz (.bool (decide (((k38 : Nat) : Int) < ((l0.length : Nat) : Int)))) (nt (Wp.seq ?_)))
 by_cases h53 : ((k38 : Nat) : Int) < ((l0.length : Nat) : Int)
 obtain ⟨x54, hx55⟩ := rds_at (ls := d0) (i := k38) SeenD.len (by decide) (H42.ro hx0) (by first | omega | (simp; done) | (simp; omega))
 have hX56 := abs_at hd0 hx55
 have hb57 := (hm0 _ (List.mem_of_getElem? hx55)).2.1
 have hb58 := (hm0 _ (List.mem_of_getElem? hx55)).2.2.2.1
 have hl59 : List.length (List.map ResultD.abs x54.xResults.ls) = x54.xResults.ls.length := List.length_map ..
 have hd60 := drop_at hX56
 refine jT (dT h53) (sk (Wp.seq (bo (sr (Mz rfl (fw (.pointer (some ⟨ab A0, ao A0 + k38 * 6, none⟩)) (Yl.indexAddr (El22) rfl rfl ((H42.ro hx0).addr (i := k38) (by omega)) (by omega)) (fw (.agg (SeenD.cells x54).toArray) (Yl.load rfl (Lds.agg (cs := (SeenD.cells x54)) Try.isAgg39 Try.sizeOf39 ((H42.ro hx0).elem SeenD.len hx55 (by decide)))) ?_)))))))
 refine npw [.int .i64 0, .int .i64 0, .int .u64 0, .int .i64 0, .slice none 0 0, .slice none 0 0] 39 H42 ?_
 intro g61 w62 H63
 refine Az rfl ?_
 refine sto (SeenD.cells x54) 0 H63 Try.sizeOf39 ?_
 intro w64 H65
 refine ns (Kz (.pointer (some ⟨g61, 0, none⟩)) (Lz (.int .i64 x54.xKind) H65 0 Try.isAgg3 (fw (.bool (decide (¬ (x54.xKind = 1)))) (Yl.bool (e := !(decide (x54.xKind = 1))) yk decide_not.symm) (An rfl (Wp.seq (sr (Mz rfl (Kz (.int .i64 ((l0.length : Nat) : Int)) (Mn rfl (bo ?_))))))))))
 have H69 := H65.pk [0, 1]
 obtain ⟨I73, hI74⟩ : ∃ q : (Bool × Nat) → World → Prop, q = fun (i : Bool × Nat) w' => Own w D w' [blk g61 (SeenD.cells x54) 39, row A34 l36.length c35 (List.flatMap SeenD.cells d37) 39 6] ∧ (i.2 ≤ l0.length ∧ w23_JudgeForgets_L1 (SeenD.abs x54) l36 k38 l0 (decide (¬ (x54.xKind = 1))) 0 = w23_JudgeForgets_L1 (SeenD.abs x54) l36 k38 (List.drop i.2 l0) i.1 i.2) := ⟨_, rfl⟩
 have dm75 : ∀ {b66 : Bool} {k67 : Nat} {w' : World}, I73 (b66, k67) w' ↔ Own w D w' [blk g61 (SeenD.cells x54) 39, row A34 l36.length c35 (List.flatMap SeenD.cells d37) 39 6] ∧ k67 ≤ l0.length ∧ w23_JudgeForgets_L1 (SeenD.abs x54) l36 k38 l0 (decide (¬ (x54.xKind = 1))) 0 = w23_JudgeForgets_L1 (SeenD.abs x54) l36 k38 (List.drop k67 l0) b66 k67 := by intros; subst hI74; exact Iff.rfl
 refine Wp.loop (fun i : Bool × Nat => [(7, .bool i.1), (31, .int .i64 ((i.2 : Nat) : Int)), (30, .int .i64 ((l0.length : Nat) : Int)), (29, .slice A0 l0.length c0), (28, .bool (decide (¬ (x54.xKind = 1)))), (27, .int .i64 x54.xKind), (26, .pointer (some ⟨g61, 0, none⟩)), (5, .int .i64 ((k38 : Nat) : Int)), (6, .pointer (some ⟨g61, 0, none⟩)), (25, .agg (SeenD.cells x54).toArray), (24, .pointer (some ⟨ab A0, ao A0 + k38 * 6, none⟩)), (23, .int .i64 ((k38 : Nat) : Int)), (22, .bool (decide (((k38 : Nat) : Int) < ((l0.length : Nat) : Int)))), (4, .slice A34 l36.length c35), (21, .int .i64 ((k38 : Nat) : Int)), (20, .int .i64 ((l0.length : Nat) : Int)), (19, .slice A0 l0.length c0), (3, .bool r26), (2, .bool false), (0, .slice A0 l0.length c0)]) I73 (fun i => l0.length - i.2) (decide (¬ (x54.xKind = 1)), 0) ⟨rfl, rfl, rfl, rfl, rfl, rfl, rfl, rfl, rfl, rfl, rfl, rfl, rfl, rfl, rfl, rfl, rfl, rfl, rfl, rfl, trivial⟩ (dm75.2 ⟨H69, by omega, rfl⟩) ?_
 rintro ⟨b66, k67⟩ w70 hf72
 show Wp _ _ _ [(7, .bool b66), (31, .int .i64 ((k67 : Nat) : Int)), (30, .int .i64 ((l0.length : Nat) : Int)), (29, .slice A0 l0.length c0), (28, .bool (decide (¬ (x54.xKind = 1)))), (27, .int .i64 x54.xKind), (26, .pointer (some ⟨g61, 0, none⟩)), (5, .int .i64 ((k38 : Nat) : Int)), (6, .pointer (some ⟨g61, 0, none⟩)), (25, .agg (SeenD.cells x54).toArray), (24, .pointer (some ⟨ab A0, ao A0 + k38 * 6, none⟩)), (23, .int .i64 ((k38 : Nat) : Int)), (22, .bool (decide (((k38 : Nat) : Int) < ((l0.length : Nat) : Int)))), (4, .slice A34 l36.length c35), (21, .int .i64 ((k38 : Nat) : Int)), (20, .int .i64 ((l0.length : Nat) : Int)), (19, .slice A0 l0.length c0), (3, .bool r26), (2, .bool false), (0, .slice A0 l0.length c0)] _ _
 obtain ⟨H71, hi77, hq76⟩ := dm75.1 hf72
 refine sr (Kz (.bool (decide (((k67 : Nat) : Int) < ((l0.length : Nat) : Int)))) (nt (Wp.seq ?_)))
 by_cases h78 : ((k67 : Nat) : Int) < ((l0.length : Nat) : Int)
 obtain ⟨x79, hx80⟩ := rds_at (ls := d0) (i := k67) SeenD.len (by decide) (H71.ro hx0) (by first | omega | (simp; done) | (simp; omega))
 have hX81 := abs_at hd0 hx80
 have hb82 := (hm0 _ (List.mem_of_getElem? hx80)).2.1
 have hb83 := (hm0 _ (List.mem_of_getElem? hx80)).2.2.2.1
 have hl84 : List.length (List.map ResultD.abs x79.xResults.ls) = x79.xResults.ls.length := List.length_map ..
 have hd85 := drop_at hX81
 refine jT (dT h78) (sk (Wp.seq (bo (sr (Mz rfl (fw (.pointer (some ⟨ab A0, ao A0 + k67 * 6, none⟩)) (Yl.indexAddr (El22) rfl rfl ((H71.ro hx0).addr (i := k67) (by omega)) (by omega)) (fw (.agg (SeenD.cells x79).toArray) (Yl.load rfl (Lds.agg (cs := (SeenD.cells x79)) Try.isAgg39 Try.sizeOf39 ((H71.ro hx0).elem SeenD.len hx80 (by decide)))) ?_)))))))
 refine npw [.int .i64 0, .int .i64 0, .int .u64 0, .int .i64 0, .slice none 0 0, .slice none 0 0] 39 H71 ?_
 intro g86 w87 H88
 refine Az rfl ?_
 refine sto (SeenD.cells x79) 0 H88 Try.sizeOf39 ?_
 intro w89 H90
 refine nt (Wp.region (Mz rfl (Mz rfl ?_)))
 rcases Bool.eq_false_or_eq_true (b66) with h91 | h91
 refine Sz h91 (Sz h91 (Sz h91 (Sz h91 (WL.skipU rfl rfl rfl (WL.skipU rfl rfl rfl (WL.skipU rfl rfl rfl (WL.skipU rfl rfl rfl (WL.skipU rfl rfl rfl (Sz h91 (Sz h91 (WL.skipU rfl rfl rfl (WL.skipU rfl rfl rfl (WL.skipU rfl rfl rfl (WL.skipU rfl rfl rfl (WL.skipU rfl rfl rfl (Sz h91 (fw (.bool true) (Yl.pickT rfl h91 rfl) (Az rfl (WL.nil (bN (Fin.then (Wp.region (fw (.int .i64 ((k67 + 1 : Nat) : Int)) (Yl.int (e := IntKind.i64.wrap (((k67 : Nat) : Int) + 1)) yk (by rw [IntWalk.i64_in _ (by omega)]; omega)) (Mz rfl (WL.nil ?_)))))))))))))))))))))))))
 have H92 := H90.pk [1, 2]
 exact Fin.round (true, k67 + 1) ⟨rfl, rfl, rfl, rfl, rfl, rfl, rfl, rfl, rfl, rfl, rfl, rfl, rfl, rfl, rfl, rfl, rfl, rfl, rfl, rfl, trivial⟩ (dm75.2 ⟨H92, (show (k67 + 1) ≤ l0.length ∧ w23_JudgeForgets_L1 (SeenD.abs x54) l36 k38 l0 (decide (¬ (x54.xKind = 1))) 0 = w23_JudgeForgets_L1 (SeenD.abs x54) l36 k38 (List.drop (k67 + 1) l0) true (k67 + 1) from ⟨by omega, et (hq76) (et (congrArg (fun q => w23_JudgeForgets_L1 (SeenD.abs x54) l36 k38 q b66 k67) hd85) (ip h91))⟩)⟩) (by show l0.length - (k67 + 1) < l0.length - k67; omega)
 refine WL.valG (v := .int .i64 ((k67 : Nat) : Int)) rfl rfl h91 rfl (Yl.move rfl) (WL.valG (v := .int .i64 ((k38 : Nat) : Int)) rfl rfl h91 rfl (Yl.move rfl) (WL.valG (v := .bool (decide (¬ (((k67 : Nat) : Int) = ((k38 : Nat) : Int))))) rfl rfl h91 rfl (Yl.bool (e := !(decide (((k67 : Nat) : Int) = ((k38 : Nat) : Int)))) yk decide_not.symm) (WL.valG (v := .bool (decide (¬ (((k67 : Nat) : Int) = ((k38 : Nat) : Int))))) rfl rfl h91 rfl (Yl.move rfl) ?_)))
 by_cases h93 : ((k67 : Nat) : Int) = ((k38 : Nat) : Int)
 refine Sk rfl rfl (dF (not_not_intro h93)) rfl (Sk rfl rfl (dF (not_not_intro h93)) rfl (Sk rfl rfl (dF (not_not_intro h93)) rfl (Sk rfl rfl (dF (not_not_intro h93)) rfl (Sk rfl rfl (dF (not_not_intro h93)) rfl (WL.valG (v := .bool false) rfl rfl h91 rfl (Yl.pickF rfl (dF (not_not_intro h93)) rfl) (WL.valG (v := .bool false) rfl rfl h91 rfl (Yl.move rfl) (Sz rfl (Sz rfl (Sz rfl (Sz rfl (Sz rfl (WL.valG (v := .bool false) rfl rfl h91 rfl (Yl.pickF rfl rfl rfl) (fw (.bool false) (Yl.pickF rfl h91 rfl) (Az rfl (WL.nil (bN (Fin.then (Wp.region (fw (.int .i64 ((k67 + 1 : Nat) : Int)) (Yl.int (e := IntKind.i64.wrap (((k67 : Nat) : Int) + 1)) yk (by rw [IntWalk.i64_in _ (by omega)]; omega)) (Mz rfl (WL.nil ?_)))))))))))))))))))))
 have H94 := H90.pk [1, 2]
 exact Fin.round (false, k67 + 1) ⟨rfl, rfl, rfl, rfl, rfl, rfl, rfl, rfl, rfl, rfl, rfl, rfl, rfl, rfl, rfl, rfl, rfl, rfl, rfl, rfl, trivial⟩ (dm75.2 ⟨H94, (show (k67 + 1) ≤ l0.length ∧ w23_JudgeForgets_L1 (SeenD.abs x54) l36 k38 l0 (decide (¬ (x54.xKind = 1))) 0 = w23_JudgeForgets_L1 (SeenD.abs x54) l36 k38 (List.drop (k67 + 1) l0) false (k67 + 1) from ⟨by omega, et (hq76) (et (congrArg (fun q => w23_JudgeForgets_L1 (SeenD.abs x54) l36 k38 q b66 k67) hd85) (et (ifF h91) (ip h93)))⟩)⟩) (by show l0.length - (k67 + 1) < l0.length - k67; omega)
 refine Gz (.pointer (some ⟨g86, 1, none⟩)) (dT h93) (Gl (.int .i64 x79.xClient) (dT h93) H90 0 Try.isAgg3 (Gz (.pointer (some ⟨g61, 1, none⟩)) (dT h93) (Gl (.int .i64 x54.xClient) (dT h93) H90 1 Try.isAgg3 (Gz (.bool (decide (x79.xClient = x54.xClient))) (dT h93) (WL.valG (v := .bool (decide (x79.xClient = x54.xClient))) rfl rfl h91 rfl (Yl.pickT rfl (dT h93) rfl) (WL.valG (v := .bool (decide (x79.xClient = x54.xClient))) rfl rfl h91 rfl (Yl.move rfl) ?_))))))
 by_cases h95 : x79.xClient = x54.xClient
 refine Gz (.pointer (some ⟨g86, 2, none⟩)) (dT h95) (Gl (.int .u64 ((x79.xReq : Nat) : Int)) (dT h95) H90 0 Try.isAgg35 (Gz (.pointer (some ⟨g61, 2, none⟩)) (dT h95) (Gl (.int .u64 ((x54.xReq : Nat) : Int)) (dT h95) H90 1 Try.isAgg35 (Gz (.bool (decide (((x79.xReq : Nat) : Int) = ((x54.xReq : Nat) : Int)))) (dT h95) (WL.valG (v := .bool (decide (((x79.xReq : Nat) : Int) = ((x54.xReq : Nat) : Int)))) rfl rfl h91 rfl (Yl.pickT rfl (dT h95) rfl) (fw (.bool (decide (((x79.xReq : Nat) : Int) = ((x54.xReq : Nat) : Int)))) (Yl.pickF rfl h91 rfl) (Az rfl (WL.nil (bN (Fin.then (Wp.region (fw (.int .i64 ((k67 + 1 : Nat) : Int)) (Yl.int (e := IntKind.i64.wrap (((k67 : Nat) : Int) + 1)) yk (by rw [IntWalk.i64_in _ (by omega)]; omega)) (Mz rfl (WL.nil ?_))))))))))))))
 have H96 := H90.pk [1, 2]
 exact Fin.round (decide (((x79.xReq : Nat) : Int) = ((x54.xReq : Nat) : Int)), k67 + 1) ⟨rfl, rfl, rfl, rfl, rfl, rfl, rfl, rfl, rfl, rfl, rfl, rfl, rfl, rfl, rfl, rfl, rfl, rfl, rfl, rfl, trivial⟩ (dm75.2 ⟨H96, by omega, et (hq76) (et (congrArg (fun q => w23_JudgeForgets_L1 (SeenD.abs x54) l36 k38 q b66 k67) hd85) (et (ifF h91) (et (iN h93) (ip h95))))⟩) (by show l0.length - (k67 + 1) < l0.length - k67; omega)
 refine Sz (dF h95) (Sz (dF h95) (Sz (dF h95) (Sz (dF h95) (Sz (dF h95) (WL.valG (v := .bool false) rfl rfl h91 rfl (Yl.pickF rfl (dF h95) rfl) (fw (.bool false) (Yl.pickF rfl h91 rfl) (Az rfl (WL.nil (bN (Fin.then (Wp.region (fw (.int .i64 ((k67 + 1 : Nat) : Int)) (Yl.int (e := IntKind.i64.wrap (((k67 : Nat) : Int) + 1)) yk (by rw [IntWalk.i64_in _ (by omega)]; omega)) (Mz rfl (WL.nil ?_))))))))))))))
 have H97 := H90.pk [1, 2]
 exact Fin.round (false, k67 + 1) ⟨rfl, rfl, rfl, rfl, rfl, rfl, rfl, rfl, rfl, rfl, rfl, rfl, rfl, rfl, rfl, rfl, rfl, rfl, rfl, rfl, trivial⟩ (dm75.2 ⟨H97, (show (k67 + 1) ≤ l0.length ∧ w23_JudgeForgets_L1 (SeenD.abs x54) l36 k38 l0 (decide (¬ (x54.xKind = 1))) 0 = w23_JudgeForgets_L1 (SeenD.abs x54) l36 k38 (List.drop (k67 + 1) l0) false (k67 + 1) from ⟨by omega, et (hq76) (et (congrArg (fun q => w23_JudgeForgets_L1 (SeenD.abs x54) l36 k38 q b66 k67) hd85) (et (ifF h91) (et (iN h93) (iN h95))))⟩)⟩) (by show l0.length - (k67 + 1) < l0.length - k67; omega)
 refine jF (dF h78) (Wp.exit (Fin.thenX ?_))
 have hL98 : w23_JudgeForgets_L1 (SeenD.abs x54) l36 k38 l0 (decide (¬ (x54.xKind = 1))) 0 = b66 := et (hq76) (et (congrArg (fun q => w23_JudgeForgets_L1 (SeenD.abs x54) l36 k38 q b66 k67) (drop_end (ls := l0) (i := k67) (by omega))) rfl)
 refine Fin.thenX (Fin.blockX (Fin.then (sr (Mn rfl ?_))))
 rcases Bool.eq_false_or_eq_true (b66) with h99 | h99
 refine jT h99 (Wp.region (Mz rfl (La (SeenD.cells x54) H71 0 Try.isAgg39 Try.sizeOf39 ?_)))
 refine nrw (SeenD.cells x54) 39 6 1 H71 ?_
 intro A100 w101 H102
 replace H102 := Own.reh (y := row A100 1 1 (List.flatMap SeenD.cells ([(SeenD.mk x54.xKind x54.xClient x54.xReq x54.xCode (Sv.mk x54.xOps.A x54.xOps.c x54.xOps.ls) (Sv.mk x54.xResults.A x54.xResults.c x54.xResults.ls))])) 39 6) rfl H102
 have H103 := H102.pk [2, 0, 1]
 refine WL.do rfl (Do.appendW (k := l36.length) (m := 1) (El22) H103 rfl rfl (src_of Try.underlying22 (H103.rds (i := 1) rfl) (flat_one SeenD.one ([(SeenD.mk x54.xKind x54.xClient x54.xReq x54.xCode (Sv.mk x54.xOps.A x54.xOps.c x54.xOps.ls) (Sv.mk x54.xResults.A x54.xResults.c x54.xResults.ls))]))) rfl (by omega) (s := List.length (l36 ++ [(SeenT.mk x54.xKind x54.xClient x54.xReq x54.xCode (Ll.mk x54.xOps.ls) (Ll.mk (List.map ResultD.abs x54.xResults.ls)))])) (by first | omega | (simp only [List.length_append, List.length_cons, List.length_nil] <;> omega)) (List.flatMap_append).symm ?_)
 intro A104 c105 w106 H107
 have hm108 : ∀ x : SeenD, x ∈ (d37 ++ [(SeenD.mk x54.xKind x54.xClient x54.xReq x54.xCode (Sv.mk x54.xOps.A x54.xOps.c x54.xOps.ls) (Sv.mk x54.xResults.A x54.xResults.c x54.xResults.ls))]) → Ro w D (fun w' => Rds w' 6 x.xOps.A x.xOps.ls.length (List.flatMap OpD.cells x.xOps.ls)) ∧ (x.xOps.ls.length ≤ x.xOps.c ∧ x.xOps.ls.length ≤ 9223372036854775807) ∧ Ro w D (fun w' => Rds w' 3 x.xResults.A x.xResults.ls.length (List.flatMap ResultD.cells x.xResults.ls)) ∧ (x.xResults.ls.length ≤ x.xResults.c ∧ x.xResults.ls.length ≤ 9223372036854775807) ∧ (∀ y1 ∈ x.xResults.ls, Ro w D (fun w' => Rds w' 2 y1.xPairs.A y1.xPairs.ls.length (List.flatMap PairD.cells y1.xPairs.ls)) ∧ (y1.xPairs.ls.length ≤ y1.xPairs.c ∧ y1.xPairs.ls.length ≤ 9223372036854775807)) := fun x9 h9 => Or.elim (List.mem_append.1 h9) (fun h9 => hi49 x9 h9) (fun h9 => (by rcases List.mem_cons.1 h9 with rfl | h9; exact ⟨(hm0 _ (List.mem_of_getElem? hx55)).1, (show x54.xOps.ls.length ≤ x54.xOps.c ∧ x54.xOps.ls.length ≤ 9223372036854775807 from by omega), (hm0 _ (List.mem_of_getElem? hx55)).2.2.1, (show x54.xResults.ls.length ≤ x54.xResults.c ∧ x54.xResults.ls.length ≤ 9223372036854775807 from by omega), (hm0 _ (List.mem_of_getElem? hx55)).2.2.2.2⟩; exact (absurd h9 List.not_mem_nil)))
 have hl109 : List.length (l36 ++ [(SeenT.mk x54.xKind x54.xClient x54.xReq x54.xCode (Ll.mk x54.xOps.ls) (Ll.mk (List.map ResultD.abs x54.xResults.ls)))]) = l36.length + 1 := by simp only [List.length_append, List.length_cons, List.length_nil]
 have hl110 := abs_len (abs_app (es := [(SeenD.mk x54.xKind x54.xClient x54.xReq x54.xCode (Sv.mk x54.xOps.A x54.xOps.c x54.xOps.ls) (Sv.mk x54.xResults.A x54.xResults.c x54.xResults.ls))]) (ms := [(SeenT.mk x54.xKind x54.xClient x54.xReq x54.xCode (Ll.mk x54.xOps.ls) (Ll.mk (List.map ResultD.abs x54.xResults.ls)))]) hi48 rfl)
 refine Az rfl (WL.nil (bN (Fin.then (Wp.region (fw (.int .i64 ((k38 + 1 : Nat) : Int)) (Yl.int (e := IntKind.i64.wrap (((k38 : Nat) : Int) + 1)) yk (by rw [IntWalk.i64_in _ (by omega)]; omega)) (Mz rfl (WL.nil ?_)))))))
 have H111 := H107.pk [0]
 exact Fin.round (A104, c105, (d37 ++ [(SeenD.mk x54.xKind x54.xClient x54.xReq x54.xCode (Sv.mk x54.xOps.A x54.xOps.c x54.xOps.ls) (Sv.mk x54.xResults.A x54.xResults.c x54.xResults.ls))]), (l36 ++ [(SeenT.mk x54.xKind x54.xClient x54.xReq x54.xCode (Ll.mk x54.xOps.ls) (Ll.mk (List.map ResultD.abs x54.xResults.ls)))]), k38 + 1) ⟨rfl, rfl, rfl, rfl, rfl, rfl, rfl, trivial⟩ (dm46.2 ⟨H111, by exact (abs_app (es := [(SeenD.mk x54.xKind x54.xClient x54.xReq x54.xCode (Sv.mk x54.xOps.A x54.xOps.c x54.xOps.ls) (Sv.mk x54.xResults.A x54.xResults.c x54.xResults.ls))]) (ms := [(SeenT.mk x54.xKind x54.xClient x54.xReq x54.xCode (Ll.mk x54.xOps.ls) (Ll.mk (List.map ResultD.abs x54.xResults.ls)))]) hi48 rfl), by exact hm108, by omega, by omega, et (hq47) (et (congrArg (fun q => w23_JudgeForgets_L0 l0 r26 q l36 k38) hd60) (et (bnd_of hL98) (ip h99)))⟩) (by show l0.length - (k38 + 1) < l0.length - k38; omega)
 refine jF h99 (Wp.skip (bN (Fin.then (Wp.region (fw (.int .i64 ((k38 + 1 : Nat) : Int)) (Yl.int (e := IntKind.i64.wrap (((k38 : Nat) : Int) + 1)) yk (by rw [IntWalk.i64_in _ (by omega)]; omega)) (Mz rfl (WL.nil ?_)))))))
 have H112 := H71.pk [1]
 exact Fin.round (A34, c35, d37, l36, k38 + 1) ⟨rfl, rfl, rfl, rfl, rfl, rfl, rfl, trivial⟩ (dm46.2 ⟨H112, by exact hi48, by exact hi49, by omega, by omega, et (hq47) (et (congrArg (fun q => w23_JudgeForgets_L0 l0 r26 q l36 k38) hd60) (et (bnd_of hL98) (ifF h99)))⟩) (by show l0.length - (k38 + 1) < l0.length - k38; omega)
 refine jF (dF h53) (Wp.exit (Fin.thenX ?_))
 have hL113 : w23_JudgeForgets_L0 l0 r26 l0 ([]) 0 = l36 := et (hq47) (et (congrArg (fun q => w23_JudgeForgets_L0 l0 r26 q l36 k38) (drop_end (ls := l0) (i := k38) (by omega))) rfl)
 refine Fin.thenX (Fin.blockX (Fin.then (sr (Mz rfl ?_))))
 obtain ⟨⟨r119, r120⟩, hr121⟩ : ∃ q : (List PairD) × Int, judge_Replay l0 = q := ⟨_, rfl⟩
 obtain ⟨D114, HP115, ro116, bk117, rr118⟩ := Own.enter0 H42
 refine cl Try.call11 (judge_Replay_ok _ _ A0 l0.length c0 d0 l0 r119 r120 HP115 hd0 (ro116 _ hx0) (fun x9 h9 => ⟨ro116 _ (hm0 x9 h9).1, (hm0 x9 h9).2.1, ro116 _ (hm0 x9 h9).2.2.1, (hm0 x9 h9).2.2.2.1, (fun y1 k1 => ⟨ro116 _ ((hm0 x9 h9).2.2.2.2 y1 k1).1, ((hm0 x9 h9).2.2.2.2 y1 k1).2⟩)⟩) rfl (by omega) (by first | omega | exact Nat.le_of_ble_eq_true rfl | (simp only [List.length_take]; omega)) hr121) ?_
 rintro _ w122 ⟨A125, c126, rfl, HQ123⟩
 have H124 := bk117 _ _ HQ123
 have hb127 := H124.rowC (i := 0) rfl
 refine Mz rfl (Kz (.slice A125 r119.length c126) (Kz (.int .i64 r120) (Az rfl (Ar rfl (Mz rfl ?_)))))
 obtain ⟨⟨r133, r134⟩, hr135⟩ : ∃ q : (List PairD) × Int, judge_Replay l36 = q := ⟨_, rfl⟩
 obtain ⟨D128, HP129, ro130, bk131, rr132⟩ := Own.enter0 H124
 refine cl Try.call11 (judge_Replay_ok _ _ A34 l36.length c35 d37 l36 r133 r134 HP129 hi48 (rr132 _ 1 _ rfl row_rds) (fun x9 h9 => ⟨ro130 _ (hi49 x9 h9).1, (hi49 x9 h9).2.1, ro130 _ (hi49 x9 h9).2.2.1, (hi49 x9 h9).2.2.2.1, (fun y1 k1 => ⟨ro130 _ ((hi49 x9 h9).2.2.2.2 y1 k1).1, ((hi49 x9 h9).2.2.2.2 y1 k1).2⟩)⟩) rfl (by omega) (by first | omega | exact Nat.le_of_ble_eq_true rfl | (simp only [List.length_take]; omega)) hr135) ?_
 rintro _ w136 ⟨A139, c140, rfl, HQ137⟩
 have H138 := bk131 _ _ HQ137
 have hb141 := H138.rowC (i := 0) rfl
 refine Mz rfl (Kz (.slice A139 r133.length c140) (Kz (.int .i64 r134) (Az rfl (An rfl (Wp.seq ?_)))))
 have H142 := H138.pk [0, 1]
 refine Wp.region (Mz rfl (Mz rfl ?_))
 rcases Bool.eq_false_or_eq_true (r26) with h143 | h143
 refine WL.valG (v := .int .i64 r120) rfl rfl h143 rfl (Yl.move rfl) (WL.valG (v := .bool (decide (¬ (r120 = 0)))) rfl rfl h143 rfl (Yl.bool (e := !(decide (r120 = 0))) yk decide_not.symm) (WL.valG (v := .bool (decide (¬ (r120 = 0)))) rfl rfl h143 rfl (Yl.move rfl) ?_))
 by_cases h144 : r120 = 0
 refine gw (.int .i64 r134) (dF (not_not_intro h144)) (Yl.move rfl) (gw (.bool (decide (r134 = 0))) (dF (not_not_intro h144)) yk (gw (.bool (decide (r134 = 0))) (dF (not_not_intro h144)) (Yl.move rfl) ?_))
 by_cases h145 : r134 = 0
 refine gw (.slice A125 r119.length c126) (dT h145) (Yl.move rfl) (gw (.slice A139 r133.length c140) (dT h145) (Yl.move rfl) ?_)
 obtain ⟨r151, hr152⟩ : ∃ q, r04_SameMap r119 r133 = q := ⟨_, rfl⟩
 obtain ⟨D146, HP147, ro148, bk149, rr150⟩ := Own.enter0 H142
 refine clG (dT h145) Try.call13 (r04_SameMap_ok _ _ A125 r119.length c126 r119 A139 r133.length c140 r133 r151 HP147 (rr150 _ 1 _ rfl row_rds) rfl (by omega) (rr150 _ 0 _ rfl row_rds) rfl (by omega) hr152) ?_
 rintro _ w153 ⟨rfl, HQ154⟩
 have H155 := bk149 _ _ HQ154
 refine gw (.bool r151) (dF (not_not_intro h144)) (Yl.pickT rfl (dT h145) rfl) (WL.valG (v := .bool r151) rfl rfl h143 rfl (Yl.pickF rfl (dF (not_not_intro h144)) rfl) (fw (.bool r151) (Yl.pickT rfl h143 rfl) (An rfl (rt (rs ?_)))))
 have H156 := H155.pk []
 obtain rfl : _ = r151 := hr.symm.trans (et (bnd_of hr27) (et (iN h31) (et (bnd_of hL113) (et (bnd_of hr121) (et (bnd_of hr135) (et (ip h143) (et (ip h144) (et (ip h145) (bnd_of hr152)))))))))
 exact ⟨rfl, H156⟩
 refine Sz (dF h145) (Sz (dF h145) (Sz (dF h145) (gw (.bool false) (dF (not_not_intro h144)) (Yl.pickF rfl (dF h145) rfl) (WL.valG (v := .bool false) rfl rfl h143 rfl (Yl.pickF rfl (dF (not_not_intro h144)) rfl) (fw (.bool false) (Yl.pickT rfl h143 rfl) (An rfl (rt (rs ?_))))))))
 have H157 := H142.pk []
 obtain rfl : _ = false := hr.symm.trans (et (bnd_of hr27) (et (iN h31) (et (bnd_of hL113) (et (bnd_of hr121) (et (bnd_of hr135) (et (ip h143) (et (ip h144) (iN h145))))))))
 exact ⟨rfl, H157⟩
 refine Sz (dT h144) (Sz (dT h144) (Sz (dT h144) (WL.skipU rfl rfl rfl (WL.skipU rfl rfl rfl (WL.skipU rfl rfl rfl (Sz (dT h144) (WL.valG (v := .bool true) rfl rfl h143 rfl (Yl.pickT rfl (dT h144) rfl) (fw (.bool true) (Yl.pickT rfl h143 rfl) (An rfl (rt (rs ?_)))))))))))
 have H158 := H142.pk []
 obtain rfl : _ = true := hr.symm.trans (et (bnd_of hr27) (et (iN h31) (et (bnd_of hL113) (et (bnd_of hr121) (et (bnd_of hr135) (et (ip h143) (iN h144)))))))
 exact ⟨rfl, H158⟩
 refine Sz h143 (Sz h143 (Sz h143 (WL.skipU rfl rfl rfl (WL.skipU rfl rfl rfl (WL.skipU rfl rfl rfl (WL.skipU rfl rfl rfl (WL.skipU rfl rfl rfl (WL.skipU rfl rfl rfl (WL.skipU rfl rfl rfl (Sz h143 (fw (.bool false) (Yl.pickF rfl h143 rfl) (An rfl (rt (rs ?_))))))))))))))
 have H159 := H142.pk []
 obtain rfl : _ = false := hr.symm.trans (et (bnd_of hr27) (et (iN h31) (et (bnd_of hL113) (et (bnd_of hr121) (et (bnd_of hr135) (ifF h143))))))
 exact ⟨rfl, H159⟩
end Go.Proofs.Ytjcdgofegkngpaa
