/-
 owner: what was told of an operation gathered.
-/
import Derived.Test.YtcjjblkgbfaapaaGaT
namespace Go.Proofs.Ytcjjblkgbfaapaa
open Go.RowKit
set_option linter.unusedVariables false
set_option linter.unusedSectionVars false
set_option linter.unusedSimpArgs false
def owner_gatherOp_L0 (p0 : OpD) : List ResultT → List PairD → (List PairD)
  | [], l31 => l31
  | x46 :: q33, l31 => owner_gatherOp_L0 p0 q33 (l31 ++ x46.xPairs.ls)
def owner_gatherOp (p0 : OpD) (l1 : List ResultT) : ResultT :=
 if p0.xKind = 4 then bnd (owner_gatherOp_L0 p0 l1 ([])) fun sLrtL => bnd (slices_SortStableFunc_api_Pair_api_Pair sLrtL) fun yr72 => ResultT.mk false ([]) (Ll.mk (List.take (Int.toNat (min (max p0.xMost 0) ((sLrtL.length : Nat) : Int))) yr72)) else if ((l1.length : Nat) : Int) = 0 then ResultT.mk false ([]) (Ll.mk ([])) else bnd (List.getD l1 0 default) fun yx101 => ResultT.mk yx101.xFound yx101.xValue (Ll.mk yx101.xPairs.ls)
set_option maxRecDepth 100000 in
theorem owner_gatherOp_ok (w : World) (D : Nat → Prop) (p0 : OpD) (A1 : Option Addr) (n1 c1 : Nat) (d1 : List ResultD) (l1 : List ResultT) (r0 : ResultT) (H : Own w D w []) (hd1 : List.map ResultD.abs d1 = l1) (hx1 : Ro w D fun w' => Rds w' 3 A1 n1 (List.flatMap ResultD.cells d1)) (hm1 : ∀ x ∈ d1, Ro w D (fun w' => Rds w' 2 x.xPairs.A x.xPairs.ls.length (List.flatMap PairD.cells x.xPairs.ls)) ∧ (x.xPairs.ls.length ≤ x.xPairs.c ∧ x.xPairs.ls.length ≤ 9223372036854775807)) (hn1 : n1 = l1.length) (hl1 : l1.length * 48 ≤ 211106232532992) (hh0 : tot l1 ≤ 100000000) (hr : owner_gatherOp p0 l1 = r0) :
    Calls Try.prog 45 #[.agg (OpD.cells p0).toArray, .slice A1 n1 c1] w (Ret fun v w' => ∃ (B0x0 : Option Addr) (b0x0 : Nat), v = .agg #[.bool r0.xFound, .string ⟨List.toArray r0.xValue⟩, .slice B0x0 r0.xPairs.ls.length b0x0] ∧ Own w D w' [row B0x0 r0.xPairs.ls.length b0x0 (List.flatMap PairD.cells r0.xPairs.ls) 58 2]) := by
 subst hn1
 have hdl1 := abs_len hd1
 refine Calls.body (args := [.agg (OpD.cells p0).toArray, .slice A1 l1.length c1]) Try.func45 rfl rfl rfl ?_
 show Wp _ _ _ [(0, .agg (OpD.cells p0).toArray), (1, .slice A1 l1.length c1)] _ _
 refine sr ?_
 refine npw (OpD.cells p0) 74 H ?_
 intro g21 w22 H23
 refine npw [.bool false, .string ⟨List.toArray ([])⟩, .slice none 0 0] 56 H23 ?_
 intro g24 w25 H26
 refine nt (Wp.seq (sr (Kz (.pointer (some ⟨g21, 0, none⟩)) (Lz (.int .i64 p0.xKind) H26 1 Try.isAgg3 (fw (.bool (decide (¬ (p0.xKind = 4)))) (Yl.bool (e := !(decide (p0.xKind = 4))) yk decide_not.symm) (nt ?_))))))
 by_cases h27 : p0.xKind = 4
 refine jF (dF (not_not_intro h27)) (sk (sr (An rfl (Wp.seq (sr (Mz rfl (Kz (.int .i64 ((l1.length : Nat) : Int)) (Mn rfl (bo ?_)))))))))
 have H28 : Own w D w25 [row none 0 0 (List.flatMap PairD.cells ([])) 58 2, blk g24 [.bool false, .string ⟨List.toArray ([])⟩, .slice none 0 0] 56, blk g21 (OpD.cells p0) 74] := H26.free (row_nil 58 2)
 have H34 := H28.pk [1, 2, 0]
 obtain ⟨I38, hI39⟩ : ∃ q : ((Option Addr) × Nat × (List PairD) × Nat) → World → Prop, q = fun (i : (Option Addr) × Nat × (List PairD) × Nat) w' => Own w D w' [blk g24 [.bool false, .string ⟨List.toArray ([])⟩, .slice none 0 0] 56, blk g21 (OpD.cells p0) 74, row i.1 i.2.2.1.length i.2.1 (List.flatMap PairD.cells i.2.2.1) 58 2] ∧ (i.2.2.2 ≤ l1.length ∧ i.2.2.1.length ≤ tot (List.take i.2.2.2 l1) ∧ tot (List.take i.2.2.2 l1) ≤ 100000000 ∧ owner_gatherOp_L0 p0 l1 ([]) = owner_gatherOp_L0 p0 (List.drop i.2.2.2 l1) i.2.2.1) := ⟨_, rfl⟩
 have dm40 : ∀ {A29 : Option Addr} {c30 : Nat} {l31 : List PairD} {k32 : Nat} {w' : World}, I38 (A29, c30, l31, k32) w' ↔ Own w D w' [blk g24 [.bool false, .string ⟨List.toArray ([])⟩, .slice none 0 0] 56, blk g21 (OpD.cells p0) 74, row A29 l31.length c30 (List.flatMap PairD.cells l31) 58 2] ∧ k32 ≤ l1.length ∧ l31.length ≤ tot (List.take k32 l1) ∧ tot (List.take k32 l1) ≤ 100000000 ∧ owner_gatherOp_L0 p0 l1 ([]) = owner_gatherOp_L0 p0 (List.drop k32 l1) l31 := by intros; subst hI39; exact Iff.rfl
 refine Wp.loop (fun i : (Option Addr) × Nat × (List PairD) × Nat => [(6, .slice i.1 i.2.2.1.length i.2.1), (27, .int .i64 ((i.2.2.2 : Nat) : Int)), (26, .int .i64 ((l1.length : Nat) : Int)), (25, .slice A1 l1.length c1), (4, .pointer (some ⟨g24, 0, none⟩)), (2, .pointer (some ⟨g21, 0, none⟩))]) I38 (fun i => l1.length - i.2.2.2) (none, 0, [], 0) ⟨rfl, rfl, rfl, rfl, rfl, rfl, trivial⟩ (dm40.2 ⟨H34, (show 0 ≤ l1.length ∧ 0 ≤ tot (List.take 0 l1) ∧ tot (List.take 0 l1) ≤ 100000000 ∧ owner_gatherOp_L0 p0 l1 ([]) = owner_gatherOp_L0 p0 (List.drop 0 l1) ([]) from ⟨by omega, by first | exact Nat.zero_le _ | (rw [List.length_append]; exact tot_step (by assumption) (by assumption)), by exact Nat.le_trans (tot_le _ _) hh0, rfl⟩)⟩) ?_
 rintro ⟨A29, c30, l31, k32⟩ w35 hf37
 show Wp _ _ _ [(6, .slice A29 l31.length c30), (27, .int .i64 ((k32 : Nat) : Int)), (26, .int .i64 ((l1.length : Nat) : Int)), (25, .slice A1 l1.length c1), (4, .pointer (some ⟨g24, 0, none⟩)), (2, .pointer (some ⟨g21, 0, none⟩))] _ _
 obtain ⟨H36, hi42, hi43, hi44, hq41⟩ := dm40.1 hf37
 refine sr (Kz (.bool (decide (((k32 : Nat) : Int) < ((l1.length : Nat) : Int)))) (nt (Wp.seq ?_)))
 by_cases h45 : ((k32 : Nat) : Int) < ((l1.length : Nat) : Int)
 obtain ⟨x46, hx47⟩ := rds_at (ls := d1) (i := k32) ResultD.len (by decide) (H36.ro hx1) (by first | omega | (simp; done) | (simp; omega))
 have hX48 := abs_at hd1 hx47
 have hb49 := (hm1 _ (List.mem_of_getElem? hx47)).2
 have hz50 : tot (List.take k32 l1) + x46.xPairs.ls.length ≤ 100000000 := tot_at hh0 hX48
 have hd51 := drop_at hX48
 refine jT (dT h45) (sk (Wp.seq (bo (sr (fw (.pointer (some ⟨ab A1, ao A1 + k32 * 3, none⟩)) (Yl.indexAddr (El49) rfl rfl ((H36.ro hx1).addr (i := k32) (by omega)) (by omega)) (fw (.agg (ResultD.cells x46).toArray) (Yl.load rfl (Lds.agg (cs := (ResultD.cells x46)) Try.isAgg56 Try.sizeOf56 ((H36.ro hx1).elem ResultD.len hx47 (by decide)))) ?_))))))
 refine npw [.bool false, .string ⟨List.toArray ([])⟩, .slice none 0 0] 56 H36 ?_
 intro g52 w53 H54
 refine sto (ResultD.cells x46) 0 H54 Try.sizeOf56 ?_
 intro w55 H56
 refine nt (Wp.region (Mz rfl (Kz (.pointer (some ⟨g52, 2, none⟩)) (Lz (.slice x46.xPairs.A x46.xPairs.ls.length x46.xPairs.c) H56 0 Try.isAgg54 ?_))))
 have H57 := H56.pk [3, 0, 1, 2]
 refine WL.do rfl (Do.appendW (k := l31.length) (m := x46.xPairs.ls.length) (El54) H57 rfl rfl (src_of Try.underlying54 (H57.ro (hm1 _ (List.mem_of_getElem? hx47)).1) (flat_one PairD.one x46.xPairs.ls)) rfl (by omega) (s := List.length (l31 ++ x46.xPairs.ls)) (by first | omega | (simp only [List.length_append, List.length_cons, List.length_nil] <;> omega)) (List.flatMap_append).symm ?_)
 intro A58 c59 w60 H61
 have hl62 : List.length (l31 ++ x46.xPairs.ls) = l31.length + x46.xPairs.ls.length := by simp only [List.length_append, List.length_cons, List.length_nil]
 refine Az rfl (WL.nil (bN (Fin.then ?_)))
 have H63 := H61.pk [0, 2, 3]
 refine Wp.region (fw (.int .i64 ((k32 + 1 : Nat) : Int)) (Yl.int (e := IntKind.i64.wrap (((k32 : Nat) : Int) + 1)) yk (by rw [IntWalk.i64_in _ (by omega)]; omega)) (Mz rfl (WL.nil ?_)))
 have H64 := H63.pk [1, 2, 0]
 exact Fin.round (A58, c59, (l31 ++ x46.xPairs.ls), k32 + 1) ⟨rfl, rfl, rfl, rfl, rfl, rfl, trivial⟩ (dm40.2 ⟨H64, by omega, by first | exact Nat.zero_le _ | (rw [List.length_append]; exact tot_step (by assumption) (by assumption)), by exact Nat.le_trans (tot_le _ _) hh0, et (hq41) (et (congrArg (fun q => owner_gatherOp_L0 p0 q l31) hd51) rfl)⟩) (by show l1.length - (k32 + 1) < l1.length - k32; omega)
 refine jF (dF h45) (Wp.exit (Fin.thenX ?_))
 have hL65 : owner_gatherOp_L0 p0 l1 ([]) = l31 := et (hq41) (et (congrArg (fun q => owner_gatherOp_L0 p0 q l31) (drop_end (ls := l1) (i := k32) (by omega))) rfl)
 refine Fin.thenX (Fin.blockX (Fin.then (sr (Mz rfl ?_))))
 have H66 := H36.pk [2, 0, 1]
 obtain ⟨r72, hr73⟩ : ∃ q, slices_SortStableFunc_api_Pair_api_Pair l31 = q := ⟨_, rfl⟩
 obtain ⟨D67, HP68, ro69, bk70, rr71⟩ := Own.enter1 H66
 refine cl Try.call61 (slices_SortStableFunc_api_Pair_api_Pair_ok _ _ A29 l31.length c30 l31 r72 HP68 rfl (by omega) hr73) ?_
 rintro _ w74 ⟨rfl, HQ75, hk77⟩
 have H76 := bk70 _ _ HQ75
 have hb78 := H76.rowC (i := 0) rfl
 replace hk77 : r72.length = l31.length := hk77
 refine ns (Kz (.pointer (some ⟨g21, 5, none⟩)) (Lz (.int .i64 p0.xMost) H76 2 Try.isAgg3 (fw (.int .i64 (max p0.xMost 0)) (Yl.int (e := if 0 > p0.xMost then 0 else p0.xMost) yk (by omega)) (Mz rfl (Kz (.int .i64 ((l31.length : Nat) : Int)) (fw (.int .i64 (min (max p0.xMost 0) ((l31.length : Nat) : Int))) (Yl.int (e := if ((l31.length : Nat) : Int) < max p0.xMost 0 then ((l31.length : Nat) : Int) else max p0.xMost 0) yk (by omega)) (An rfl (Wp.seq ?_))))))))
 have H79 := H76.pk [0, 1]
 refine Wp.region (Mz rfl (fw (.int .i64 ((Int.toNat (min (max p0.xMost 0) ((l31.length : Nat) : Int)) : Nat) : Int)) (Yl.int (e := min (max p0.xMost 0) ((l31.length : Nat) : Int)) (Yl.move rfl) (by omega)) (fw (.slice A29 (Int.toNat (min (max p0.xMost 0) ((l31.length : Nat) : Int))) c30) (Yl.cutTo (El54) rfl rfl (by omega)) ?_)))
 have hz85 : Int.toNat (min (max p0.xMost 0) ((l31.length : Nat) : Int)) = List.length (List.take (Int.toNat (min (max p0.xMost 0) ((l31.length : Nat) : Int))) r72) := (by first | rfl | omega | (simp only [List.length_append, List.length_cons, List.length_nil, List.length_take, List.length_drop, List.length_set, List.length_replicate, List.length_map] <;> omega))
 obtain ⟨D80, HP81, ro82, bk83, rr84⟩ := Own.enter0 H79
 refine cl Try.call53 (slices_Clone_api_Pair_api_Pair_ok _ _ A29 (Int.toNat (min (max p0.xMost 0) ((l31.length : Nat) : Int))) c30 (List.take (Int.toNat (min (max p0.xMost 0) ((l31.length : Nat) : Int))) r72) (List.take (Int.toNat (min (max p0.xMost 0) ((l31.length : Nat) : Int))) r72) HP81 (fun w9 h9 => Rds.toE (hi := Int.toNat (min (max p0.xMost 0) ((l31.length : Nat) : Int))) PairD.len ((rr84 _ 0 _ rfl row_rds) w9 h9) (by omega)) (by first | rfl | omega | (simp only [List.length_append, List.length_cons, List.length_nil, List.length_take, List.length_drop, List.length_set, List.length_replicate, List.length_map] <;> omega)) (by first | omega | (simp only [List.length_append, List.length_cons, List.length_nil, List.length_take, List.length_drop, List.length_set]; omega)) rfl) ?_
 rintro _ w86 ⟨A89, c90, rfl, HQ87⟩
 have H88 := bk83 _ _ HQ87
 have hb91 := H88.rowC (i := 0) rfl
 refine Kz (.agg #[.bool false, .string ⟨List.toArray ([])⟩, .slice A89 (List.length (List.take (Int.toNat (min (max p0.xMost 0) ((l31.length : Nat) : Int))) r72)) c90]) ?_
 have H92 := H88.pk [2, 0, 1]
 refine sto [.bool false, .string ⟨List.toArray ([])⟩, .slice A89 (List.length (List.take (Int.toNat (min (max p0.xMost 0) ((l31.length : Nat) : Int))) r72)) c90] 0 H92 Try.sizeOf56 ?_
 intro w93 H94
 refine nt (rt (Fin.res (resC rfl rfl (Lds.agg (cs := [.bool false, .string ⟨List.toArray ([])⟩, .slice A89 (List.length (List.take (Int.toNat (min (max p0.xMost 0) ((l31.length : Nat) : Int))) r72)) c90]) Try.isAgg56 Try.sizeOf56 ((H94.cls (i := 0) rfl).lit (k := 0) (m := 3) rfl))) ?_))
 have H95 := H94.pk [1]
 obtain rfl : _ = ResultT.mk false ([]) (Ll.mk (List.take (Int.toNat (min (max p0.xMost 0) ((l31.length : Nat) : Int))) r72)) := hr.symm.trans (et (ip h27) (et (bnd_of hL65) (bnd_of hr73)))
 exact ⟨A89, c90, rfl, H95⟩
 refine jT (dT h27) (Wp.seq (sr (Mz rfl (Kz (.int .i64 ((l1.length : Nat) : Int)) (Kz (.bool (decide (((l1.length : Nat) : Int) = 0))) (nt ?_))))))
 by_cases h96 : ((l1.length : Nat) : Int) = 0
 refine jT (dT h96) (sr (Kz (.agg #[.bool false, .string ⟨List.toArray ([])⟩, .slice none 0 0]) ?_))
 refine sto [.bool false, .string ⟨List.toArray ([])⟩, .slice none 0 0] 0 H26 Try.sizeOf56 ?_
 intro w97 H98
 refine nt (rt (tR (tR (Fin.res (resC rfl rfl (Lds.agg (cs := [.bool false, .string ⟨List.toArray ([])⟩, .slice none 0 0]) Try.isAgg56 Try.sizeOf56 ((H98.cls (i := 0) rfl).lit (k := 0) (m := 3) rfl))) ?_))))
 have H99 : Own w D w97 [row none 0 0 (List.flatMap PairD.cells ([])) 58 2, blk g24 [.bool false, .string ⟨List.toArray ([])⟩, .slice none 0 0] 56, blk g21 (OpD.cells p0) 74] := H98.free (row_nil 58 2)
 have H100 := H99.pk [0]
 obtain rfl : _ = ResultT.mk false ([]) (Ll.mk ([])) := hr.symm.trans (et (iN h27) (ip h96))
 exact ⟨none, 0, rfl, H100⟩
 refine jF (dF h96) (sk (sr (Mz rfl ?_)))
 obtain ⟨x101, hx102⟩ := rds_at (ls := d1) (i := 0) ResultD.len (by decide) (H26.ro hx1) (by first | omega | (simp; done) | (simp; omega))
 have hX103 := abs_at hd1 hx102
 have hb104 := (hm1 _ (List.mem_of_getElem? hx102)).2
 have hz105 : x101.xPairs.ls.length ≤ 100000000 := Nat.le_trans (Nat.le_add_left _ _) (tot_at hh0 hX103)
 refine fw (.pointer (some ⟨ab A1, ao A1 + 0 * 3, none⟩)) (Yl.indexAddr (El49) rfl rfl ((H26.ro hx1).addr (i := 0) (by omega)) (by omega)) (fw (.agg (ResultD.cells x101).toArray) (Yl.load rfl (Lds.agg (cs := (ResultD.cells x101)) Try.isAgg56 Try.sizeOf56 ((H26.ro hx1).elem ResultD.len hx102 (by decide)))) ?_)
 refine npw [.bool false, .string ⟨List.toArray ([])⟩, .slice none 0 0] 56 H26 ?_
 intro g106 w107 H108
 refine sto (ResultD.cells x101) 0 H108 Try.sizeOf56 ?_
 intro w109 H110
 refine ns (Kz (.pointer (some ⟨g106, 2, none⟩)) (Lz (.slice x101.xPairs.A x101.xPairs.ls.length x101.xPairs.c) H110 0 Try.isAgg54 ?_))
 obtain ⟨D111, HP112, ro113, bk114, rr115⟩ := Own.enter0 H110
 refine cl Try.call53 (slices_Clone_api_Pair_api_Pair_ok _ _ x101.xPairs.A x101.xPairs.ls.length x101.xPairs.c x101.xPairs.ls x101.xPairs.ls HP112 (ro113 _ (hm1 _ (List.mem_of_getElem? hx102)).1) rfl (by omega) rfl) ?_
 rintro _ w116 ⟨A119, c120, rfl, HQ117⟩
 have H118 := bk114 _ _ HQ117
 have hb121 := H118.rowC (i := 0) rfl
 refine Kz (.pointer (some ⟨g106, 2, none⟩)) ?_
 have H122 := H118.pk [1, 0, 2, 3]
 refine sto [.slice A119 x101.xPairs.ls.length c120] 2 H122 Try.sizeOf54 ?_
 intro w123 H124
 refine ns (La ([.bool x101.xFound, .string ⟨List.toArray x101.xValue⟩, .slice A119 x101.xPairs.ls.length c120]) H124 0 Try.isAgg56 Try.sizeOf56 ?_)
 have H125 := H124.pk [2, 0, 1, 3]
 refine sto [.bool x101.xFound, .string ⟨List.toArray x101.xValue⟩, .slice A119 x101.xPairs.ls.length c120] 0 H125 Try.sizeOf56 ?_
 intro w126 H127
 refine nt (rt (tR (Fin.res (resC rfl rfl (Lds.agg (cs := [.bool x101.xFound, .string ⟨List.toArray x101.xValue⟩, .slice A119 x101.xPairs.ls.length c120]) Try.isAgg56 Try.sizeOf56 ((H127.cls (i := 0) rfl).lit (k := 0) (m := 3) rfl))) ?_)))
 have H128 := H127.pk [2]
 obtain rfl : _ = ResultT.mk x101.xFound x101.xValue (Ll.mk x101.xPairs.ls) := hr.symm.trans (et (iN h27) (et (iN h96) (bnd_of (getD_of hX103))))
 exact ⟨A119, c120, rfl, H128⟩
end Go.Proofs.Ytcjjblkgbfaapaa
