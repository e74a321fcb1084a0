/-
 locks: released, asked for.
-/
import Derived.Test.YtggnajpokhaaiaaLkP
namespace Go.Proofs.Ytggnajpokhaaiaa
open Go.RowKit
set_option linter.unusedVariables false
set_option linter.unusedSectionVars false
set_option linter.unusedSimpArgs false
def locks_Table_Release (p0 : TableT) (p1 : Nat) : (List Nat) × (List Nat) × TableT :=
 bnd (locks_Table_drop p0 p1) fun yr26 => bnd (locks_Table_settle yr26 (changeT.mk (Ll.mk ([])) (Ll.mk ([])))) fun yr52 => (yr52.2.xgranted.ls, yr52.2.xdead.ls, yr52.1)
set_option maxRecDepth 100000 in
theorem locks_Table_Release_ok (w : World) (D : Nat → Prop) (g0 : Nat) (p0 : TableT) (A0x0 : Option Addr) (c0x0 : Nat) (d0x0 : List rowD) (p1 : Nat) (r0 : List Nat) (r1 : List Nat) (r2 : TableT) (H : Own w D w [blk g0 [.slice A0x0 p0.xrows.ls.length c0x0] 59, row A0x0 p0.xrows.ls.length c0x0 (List.flatMap rowD.cells d0x0) 72 6, sepL (List.flatMap rowD.own d0x0)]) (hd0x0 : List.map rowD.abs d0x0 = p0.xrows.ls) (hh0 : p0.xrows.ls.length ≤ 192) (hh1 : Hd p0.xrows.ls) (hh2 : Sound p0.xrows.ls) (hr : locks_Table_Release p0 p1 = (r0, r1, r2)) :
    Calls Try.prog 13 #[.pointer (some ⟨g0, 0, none⟩), .int .u64 ((p1 : Nat) : Int)] w (Ret fun v w' => ∃ (B0 : Option Addr) (b0 : Nat) (B1 : Option Addr) (b1 : Nat) (B2ox0 : Option Addr) (b2ox0 : Nat) (e2ox0 : List rowD), v = .tuple #[.slice B0 r0.length b0, .slice B1 r1.length b1] ∧ Own w D w' [row B0 r0.length b0 (List.flatMap (eN .u64) r0) 30 1, row B1 r1.length b1 (List.flatMap (eN .u64) r1) 30 1, blk g0 [.slice B2ox0 r2.xrows.ls.length b2ox0] 59, row B2ox0 r2.xrows.ls.length b2ox0 (List.flatMap rowD.cells e2ox0) 72 6, sepL (List.flatMap rowD.own e2ox0)] ∧ (List.map rowD.abs e2ox0 = r2.xrows.ls)) := by
 have hdl0x0 := abs_len hd0x0
 have hc0x0 := H.rowC (i := 1) rfl
 refine Calls.body (args := [.pointer (some ⟨g0, 0, none⟩), .int .u64 ((p1 : Nat) : Int)]) Try.func13 rfl rfl rfl ?_
 show Wp _ _ _ [(0, .pointer (some ⟨g0, 0, none⟩)), (1, .int .u64 ((p1 : Nat) : Int))] _ _
 refine sr (Az rfl (Ar rfl (Mz rfl (Mz rfl ?_))))
 obtain ⟨r26, hr27⟩ : ∃ q, locks_Table_drop p0 p1 = q := ⟨_, rfl⟩
 obtain ⟨D21, HP22, ro23, bk24, rr25⟩ := Own.enter3 H
 refine cl Try.call37 (locks_Table_drop_ok _ _ g0 p0 A0x0 c0x0 d0x0 p1 r26 HP22 hd0x0 (by first | omega | (dsimp only; omega)) hr27) ?_
 rintro _ w28 ⟨A31, c32, d33, rfl, HQ29, hd34, hk35⟩
 have H30 := bk24 _ _ HQ29
 have hl36 := abs_len hd34
 have hb37 := H30.rowC (i := 1) rfl
 replace hk35 : r26.xrows.ls.length ≤ p0.xrows.ls.length := hk35
 obtain ⟨hz38, hz39, hz40⟩ := drop_step (m := p0.xrows.ls) (by assumption) hr27
 replace hz39 : r26.xrows.ls.length ≤ 192 := hz39
 replace hz40 : Wt r26.xrows.ls ≤ 192 := hz40
 refine ns ?_
 refine npw [.slice none 0 0, .slice none 0 0] 65 H30 ?_
 intro g41 w42 H43
 refine ns (Mz rfl ?_)
 have H44 : Own w D w42 [row none 0 0 (List.flatMap (eN .u64) ([])) 30 1, blk g41 [.slice none 0 0, .slice none 0 0] 65, blk g0 [.slice A31 r26.xrows.ls.length c32] 59, row A31 r26.xrows.ls.length c32 (List.flatMap rowD.cells d33) 72 6, sepL (List.flatMap rowD.own d33)] := H43.free (row_nil 30 1)
 have H45 : Own w D w42 [row none 0 0 (List.flatMap (eN .u64) ([])) 30 1, row none 0 0 (List.flatMap (eN .u64) ([])) 30 1, blk g41 [.slice none 0 0, .slice none 0 0] 65, blk g0 [.slice A31 r26.xrows.ls.length c32] 59, row A31 r26.xrows.ls.length c32 (List.flatMap rowD.cells d33) 72 6, sepL (List.flatMap rowD.own d33)] := H44.free (row_nil 30 1)
 have H46 := H45.pk [3, 4, 5, 2, 1, 0]
 obtain ⟨⟨r52, r53⟩, hr54⟩ : ∃ q : TableT × changeT, locks_Table_settle r26 (changeT.mk (Ll.mk ([])) (Ll.mk ([]))) = q := ⟨_, rfl⟩
 obtain ⟨D47, HP48, ro49, bk50, rr51⟩ := Own.enter (L1 := [blk g0 [.slice A31 r26.xrows.ls.length c32] 59, row A31 r26.xrows.ls.length c32 (List.flatMap rowD.cells d33) 72 6, sepL (List.flatMap rowD.own d33), blk g41 [.slice none 0 0, .slice none 0 0] 65, row none 0 0 (List.flatMap (eN .u64) ([])) 30 1, row none 0 0 (List.flatMap (eN .u64) ([])) 30 1]) (L2 := []) H46
 refine cl Try.call27 (locks_Table_settle_ok _ _ g0 r26 A31 c32 d33 g41 (changeT.mk (Ll.mk ([])) (Ll.mk ([]))) none 0 none 0 r52 r53 HP48 hd34 (by assumption) (by first | omega | (dsimp only; omega)) (by first | omega | (dsimp only; omega) | exact Fit.wt (by assumption)) (by first | omega | (dsimp only; omega) | exact Nat.zero_le _) (by first | omega | (dsimp only; omega) | exact Nat.zero_le _) hr54) ?_
 rintro _ w55 ⟨A58, c59, d60, A62, c63, A64, c65, rfl, HQ56, hd61⟩
 have H57 := bk50 _ _ HQ56
 have hl66 := abs_len hd61
 have hb67 := H57.rowC (i := 1) rfl
 have hb68 := H57.rowC (i := 4) rfl
 have hb69 := H57.rowC (i := 5) rfl
 refine nt (Wp.seq ?_)
 have H71 := H57.drew
 refine Wp.drawnX [] (fun W => ∃ L', Own w D W ([blk g0 [.slice A58 r52.xrows.ls.length c59] 59, row A58 r52.xrows.ls.length c59 (List.flatMap rowD.cells d60) 72 6, sepL (List.flatMap rowD.own d60), blk g41 [.slice A62 r53.xgranted.ls.length c63, .slice A64 r53.xdead.ls.length c65] 65, row A62 r53.xgranted.ls.length c63 (List.flatMap (eN .u64) r53.xgranted.ls) 30 1, row A64 r53.xdead.ls.length c65 (List.flatMap (eN .u64) r53.xdead.ls) 30 1] ++ L')) (by kernel_rfl) (by kernel_rfl) (NoP.then NoP.base) ⟨_, H71⟩ ?_
 revert H71
 generalize World.drew w55 = w70
 intro H71
 refine GX.take (v := .pointer (some ⟨g41, 0, none⟩)) (rs := []) 0 rfl (by kernel_rfl) (fun _ _ => yk) (GX.take (v := .slice A62 r53.xgranted.ls.length c63) (rs := []) 1 rfl (by kernel_rfl) (fun _ ⟨_, H9⟩ => Yl.load rfl (Lds.one Try.isAgg37 (Cls.of (H9.cls (i := 3) rfl) rfl))) (GX.take (v := .pointer (some ⟨g41, 1, none⟩)) (rs := []) 2 rfl (by kernel_rfl) (fun _ _ => yk) (GX.take (v := .slice A64 r53.xdead.ls.length c65) (rs := []) 3 rfl (by kernel_rfl) (fun _ ⟨_, H9⟩ => Yl.load rfl (Lds.one Try.isAgg37 (Cls.of (H9.cls (i := 3) rfl) rfl))) (GX.take (v := .slice A62 r53.xgranted.ls.length c63) (rs := []) 4 rfl (by kernel_rfl) (fun _ _ => Yl.assign rfl) (GX.take (v := .slice A64 r53.xdead.ls.length c65) (rs := []) 5 rfl (by kernel_rfl) (fun _ _ => Yl.assign rfl) (GX.done (by kernel_rfl) (Fin.then (rt (Fin.res (res2 rfl rfl rfl) ?_)))))))))
 have H72 := H71.pk [4, 5, 0, 1, 2]
 have e : locks_Table_Release p0 p1 = (r53.xgranted.ls, r53.xdead.ls, r52) := et (bnd_of hr27) (bnd_of hr54)
 obtain ⟨rfl, rfl, rfl⟩ := pj3 (e.symm.trans hr)
 exact ⟨A62, c63, A64, c65, A58, c59, d60, rfl, H72, hd61⟩
def locks_Table_Ask (p0 : TableT) (p1 : Nat) (p2 : LockD) : Int × (List Nat) × (List Nat) × Int × TableT :=
 bnd (span_Check p2.xRange) fun yr29 => if yr29 = 0 then bnd (locks_Table_waiting p0 p1) fun yr42 => if yr42 = true then (0, [], [], 4, p0) else bnd (locks_Table_has p0 p1 p2) fun yr57 => if yr57 = true then (1, [], [], 0, p0) else bnd (locks_Table_count p0) fun yr72 => if yr72 ≥ 192 then (3, [], [], 0, p0) else bnd (locks_Table_holders p0 p1 p2) fun yr87 => if ((yr87.length : Nat) : Int) = 0 then bnd (locks_Table_grant p0 p1 p2 (changeT.mk (Ll.mk ([])) (Ll.mk ([])))) fun yr107 => bnd (locks_Table_settle yr107.1 yr107.2) fun yr136 => (1, yr136.2.xgranted.ls, yr136.2.xdead.ls, 0, yr136.1) else bnd (List.getD yr87 0 default) fun yx157 => if ((yx157 : Nat) : Int) < ((p1 : Nat) : Int) then (3, [], [], 0, p0) else bnd (locks_Table_find p0 p1) fun yr171 => if yr171.2 = true then bnd (List.getD p0.xrows.ls (Int.toNat yr171.1) default) fun yx180 => bnd (List.getD (List.set p0.xrows.ls (Int.toNat yr171.1) (rowT.mk yx180.xtxn (Ll.mk yx180.xheld.ls) true yx180.xwant)) (Int.toNat yr171.1) default) fun yx194 => (2, [], [], 0, TableT.mk (Ll.mk (List.set (List.set p0.xrows.ls (Int.toNat yr171.1) (rowT.mk yx180.xtxn (Ll.mk yx180.xheld.ls) true yx180.xwant)) (Int.toNat yr171.1) (rowT.mk yx194.xtxn (Ll.mk yx194.xheld.ls) yx194.xwaits p2)))) else bnd (List.getD (List.take (Int.toNat yr171.1) p0.xrows.ls ++ ((rowT.mk p1 (Ll.mk ([])) false (LockD.mk (RangeD.mk ([]) ([])) false)) :: List.drop (Int.toNat yr171.1) p0.xrows.ls)) (Int.toNat yr171.1) default) fun yx231 => bnd (List.getD (List.set (List.take (Int.toNat yr171.1) p0.xrows.ls ++ ((rowT.mk p1 (Ll.mk ([])) false (LockD.mk (RangeD.mk ([]) ([])) false)) :: List.drop (Int.toNat yr171.1) p0.xrows.ls)) (Int.toNat yr171.1) (rowT.mk yx231.xtxn (Ll.mk yx231.xheld.ls) true yx231.xwant)) (Int.toNat yr171.1) default) fun yx246 => (2, [], [], 0, TableT.mk (Ll.mk (List.set (List.set (List.take (Int.toNat yr171.1) p0.xrows.ls ++ ((rowT.mk p1 (Ll.mk ([])) false (LockD.mk (RangeD.mk ([]) ([])) false)) :: List.drop (Int.toNat yr171.1) p0.xrows.ls)) (Int.toNat yr171.1) (rowT.mk yx231.xtxn (Ll.mk yx231.xheld.ls) true yx231.xwant)) (Int.toNat yr171.1) (rowT.mk yx246.xtxn (Ll.mk yx246.xheld.ls) yx246.xwaits p2)))) else (0, [], [], 21, p0)
set_option maxRecDepth 100000 in
theorem locks_Table_Ask_ok (w : World) (D : Nat → Prop) (g0 : Nat) (p0 : TableT) (A0x0 : Option Addr) (c0x0 : Nat) (d0x0 : List rowD) (p1 : Nat) (p2 : LockD) (r0 : Int) (r1 : List Nat) (r2 : List Nat) (r3 : Int) (r4 : TableT) (H : Own w D w [blk g0 [.slice A0x0 p0.xrows.ls.length c0x0] 59, row A0x0 p0.xrows.ls.length c0x0 (List.flatMap rowD.cells d0x0) 72 6, sepL (List.flatMap rowD.own d0x0)]) (hd0x0 : List.map rowD.abs d0x0 = p0.xrows.ls) (hh0 : p0.xrows.ls.length ≤ 192) (hh1 : Hd p0.xrows.ls) (hh2 : Sound p0.xrows.ls) (hr : locks_Table_Ask p0 p1 p2 = (r0, r1, r2, r3, r4)) :
    Calls Try.prog 10 #[.pointer (some ⟨g0, 0, none⟩), .int .u64 ((p1 : Nat) : Int), .agg (LockD.cells p2).toArray] w (Ret fun v w' => ∃ (B1 : Option Addr) (b1 : Nat) (B2 : Option Addr) (b2 : Nat) (B4ox0 : Option Addr) (b4ox0 : Nat) (e4ox0 : List rowD), v = .tuple #[.int .i64 r0, .slice B1 r1.length b1, .slice B2 r2.length b2, .int .i64 r3] ∧ Own w D w' [row B1 r1.length b1 (List.flatMap (eN .u64) r1) 30 1, row B2 r2.length b2 (List.flatMap (eN .u64) r2) 30 1, blk g0 [.slice B4ox0 r4.xrows.ls.length b4ox0] 59, row B4ox0 r4.xrows.ls.length b4ox0 (List.flatMap rowD.cells e4ox0) 72 6, sepL (List.flatMap rowD.own e4ox0)] ∧ (List.map rowD.abs e4ox0 = r4.xrows.ls)) := by
 have hdl0x0 := abs_len hd0x0
 have hc0x0 := H.rowC (i := 1) rfl
 refine Calls.body (args := [.pointer (some ⟨g0, 0, none⟩), .int .u64 ((p1 : Nat) : Int), .agg (LockD.cells p2).toArray]) Try.func10 rfl rfl rfl ?_
 show Wp _ _ _ [(0, .pointer (some ⟨g0, 0, none⟩)), (1, .int .u64 ((p1 : Nat) : Int)), (2, .agg (LockD.cells p2).toArray)] _ _
 refine sr ?_
 refine npw (LockD.cells p2) 34 H ?_
 intro g21 w22 H23
 refine Az rfl (Az rfl (Az rfl (An rfl (Wp.seq (sr (Kz (.pointer (some ⟨g21, 0, none⟩)) (La (RangeD.cells p2.xRange) H23 0 Try.isAgg32 Try.sizeOf32 ?_)))))))
 obtain ⟨r29, hr30⟩ : ∃ q, span_Check p2.xRange = q := ⟨_, rfl⟩
 obtain ⟨D24, HP25, ro26, bk27, rr28⟩ := Own.enter0 H23
 refine cl Try.call21 (span_Check_ok _ _ p2.xRange r29 HP25 hr30) ?_
 rintro _ w31 ⟨rfl, HQ32⟩
 have H33 := bk27 _ _ HQ32
 refine fw (.bool (decide (¬ (r29 = 0)))) (Yl.bool (e := !(decide (r29 = 0))) yk decide_not.symm) (nt ?_)
 by_cases h34 : r29 = 0
 refine jF (dF (not_not_intro h34)) (sk (Wp.seq (sr (Mz rfl (Mz rfl ?_)))))
 have H35 := H33.pk [1, 0, 2, 3]
 have hb41 := H35.rowC (i := 2) rfl
 obtain ⟨r42, hr43⟩ : ∃ q, locks_Table_waiting p0 p1 = q := ⟨_, rfl⟩
 obtain ⟨D36, HP37, ro38, bk39, rr40⟩ := Own.enter1 H35
 refine cl Try.call22 (locks_Table_waiting_ok _ _ g0 p0 A0x0 c0x0 d0x0 p1 r42 HP37 hd0x0 (rr40 _ 1 _ rfl row_rds) (show p0.xrows.ls.length ≤ c0x0 ∧ p0.xrows.ls.length ≤ 9223372036854775807 from by omega) (fun x9 h9 => ⟨rr40 _ 2 _ rfl (sepL_mem (List.mem_flatMap.2 ⟨x9, h9, .head _⟩) row_rds), own_rd (φ := fun _ => _) H35 (i := 3) rfl (sepL_mem (List.mem_flatMap.2 ⟨x9, h9, .head _⟩) row_le2)⟩) (by first | omega | (dsimp only; omega)) hr43) ?_
 rintro _ w44 ⟨rfl, HQ45⟩
 have H46 := bk39 _ _ HQ45
 refine nt ?_
 rcases Bool.eq_false_or_eq_true (r42) with h47 | h47
 refine jT h47 (sr (Az rfl (Az rfl (Az rfl (An rfl (rt (tR (Fin.res (res4 rfl rfl rfl rfl rfl) ?_))))))))
 have H48 : Own w D w44 [row none 0 0 (List.flatMap (eN .u64) ([])) 30 1, blk g0 [.slice A0x0 p0.xrows.ls.length c0x0] 59, blk g21 (LockD.cells p2) 34, row A0x0 p0.xrows.ls.length c0x0 (List.flatMap rowD.cells d0x0) 72 6, sepL (List.flatMap rowD.own d0x0)] := H46.free (row_nil 30 1)
 have H49 : Own w D w44 [row none 0 0 (List.flatMap (eN .u64) ([])) 30 1, row none 0 0 (List.flatMap (eN .u64) ([])) 30 1, blk g0 [.slice A0x0 p0.xrows.ls.length c0x0] 59, blk g21 (LockD.cells p2) 34, row A0x0 p0.xrows.ls.length c0x0 (List.flatMap rowD.cells d0x0) 72 6, sepL (List.flatMap rowD.own d0x0)] := H48.free (row_nil 30 1)
 have H50 := H49.pk [1, 0, 2, 4, 5]
 have e : locks_Table_Ask p0 p1 p2 = (0, [], [], 4, p0) := et (bnd_of hr30) (et (ip h34) (et (bnd_of hr43) (ip h47)))
 obtain ⟨rfl, rfl, rfl, rfl, rfl⟩ := pj5 (e.symm.trans hr)
 exact ⟨none, 0, none, 0, A0x0, c0x0, d0x0, rfl, H50, hd0x0⟩
 refine jF h47 (sk (Wp.seq (sr (Mz rfl (Mz rfl (La (LockD.cells p2) H46 1 Try.isAgg34 Try.sizeOf34 ?_))))))
 have hb56 := H46.rowC (i := 2) rfl
 obtain ⟨r57, hr58⟩ : ∃ q, locks_Table_has p0 p1 p2 = q := ⟨_, rfl⟩
 obtain ⟨D51, HP52, ro53, bk54, rr55⟩ := Own.enter1 H46
 refine cl Try.call23 (locks_Table_has_ok _ _ g0 p0 A0x0 c0x0 d0x0 p1 p2 r57 HP52 hd0x0 (rr55 _ 1 _ rfl row_rds) (show p0.xrows.ls.length ≤ c0x0 ∧ p0.xrows.ls.length ≤ 9223372036854775807 from by omega) (fun x9 h9 => ⟨rr55 _ 2 _ rfl (sepL_mem (List.mem_flatMap.2 ⟨x9, h9, .head _⟩) row_rds), own_rd (φ := fun _ => _) H46 (i := 3) rfl (sepL_mem (List.mem_flatMap.2 ⟨x9, h9, .head _⟩) row_le2)⟩) (by first | omega | (dsimp only; omega)) hr58) ?_
 rintro _ w59 ⟨rfl, HQ60⟩
 have H61 := bk54 _ _ HQ60
 refine nt ?_
 rcases Bool.eq_false_or_eq_true (r57) with h62 | h62
 refine jT h62 (sr (Az rfl (Az rfl (Az rfl (An rfl (rt (tR (Fin.res (res4 rfl rfl rfl rfl rfl) ?_))))))))
 have H63 : Own w D w59 [row none 0 0 (List.flatMap (eN .u64) ([])) 30 1, blk g0 [.slice A0x0 p0.xrows.ls.length c0x0] 59, blk g21 (LockD.cells p2) 34, row A0x0 p0.xrows.ls.length c0x0 (List.flatMap rowD.cells d0x0) 72 6, sepL (List.flatMap rowD.own d0x0)] := H61.free (row_nil 30 1)
 have H64 : Own w D w59 [row none 0 0 (List.flatMap (eN .u64) ([])) 30 1, row none 0 0 (List.flatMap (eN .u64) ([])) 30 1, blk g0 [.slice A0x0 p0.xrows.ls.length c0x0] 59, blk g21 (LockD.cells p2) 34, row A0x0 p0.xrows.ls.length c0x0 (List.flatMap rowD.cells d0x0) 72 6, sepL (List.flatMap rowD.own d0x0)] := H63.free (row_nil 30 1)
 have H65 := H64.pk [1, 0, 2, 4, 5]
 have e : locks_Table_Ask p0 p1 p2 = (1, [], [], 0, p0) := et (bnd_of hr30) (et (ip h34) (et (bnd_of hr43) (et (ifF h47) (et (bnd_of hr58) (ip h62)))))
 obtain ⟨rfl, rfl, rfl, rfl, rfl⟩ := pj5 (e.symm.trans hr)
 exact ⟨none, 0, none, 0, A0x0, c0x0, d0x0, rfl, H65, hd0x0⟩
 refine jF h62 (sk (Wp.seq (sr (Mz rfl ?_))))
 have hb71 := H61.rowC (i := 2) rfl
 obtain ⟨r72, hr73⟩ : ∃ q, locks_Table_count p0 = q := ⟨_, rfl⟩
 obtain ⟨D66, HP67, ro68, bk69, rr70⟩ := Own.enter1 H61
 refine cl Try.call24 (locks_Table_count_ok _ _ g0 p0 A0x0 c0x0 d0x0 r72 HP67 hd0x0 (rr70 _ 1 _ rfl row_rds) (show p0.xrows.ls.length ≤ c0x0 ∧ p0.xrows.ls.length ≤ 9223372036854775807 from by omega) (fun x9 h9 => ⟨rr70 _ 2 _ rfl (sepL_mem (List.mem_flatMap.2 ⟨x9, h9, .head _⟩) row_rds), own_rd (φ := fun _ => _) H61 (i := 3) rfl (sepL_mem (List.mem_flatMap.2 ⟨x9, h9, .head _⟩) row_le2)⟩) (by first | omega | (dsimp only; omega)) hr73) ?_
 rintro _ w74 ⟨rfl, HQ75⟩
 have H76 := bk69 _ _ HQ75
 refine Kz (.bool (decide (r72 ≥ 192))) (nt ?_)
 by_cases h77 : r72 ≥ 192
 refine jT (dT h77) (sr (Az rfl (Az rfl (Az rfl (An rfl (rt (tR (Fin.res (res4 rfl rfl rfl rfl rfl) ?_))))))))
 have H78 : Own w D w74 [row none 0 0 (List.flatMap (eN .u64) ([])) 30 1, blk g0 [.slice A0x0 p0.xrows.ls.length c0x0] 59, blk g21 (LockD.cells p2) 34, row A0x0 p0.xrows.ls.length c0x0 (List.flatMap rowD.cells d0x0) 72 6, sepL (List.flatMap rowD.own d0x0)] := H76.free (row_nil 30 1)
 have H79 : Own w D w74 [row none 0 0 (List.flatMap (eN .u64) ([])) 30 1, row none 0 0 (List.flatMap (eN .u64) ([])) 30 1, blk g0 [.slice A0x0 p0.xrows.ls.length c0x0] 59, blk g21 (LockD.cells p2) 34, row A0x0 p0.xrows.ls.length c0x0 (List.flatMap rowD.cells d0x0) 72 6, sepL (List.flatMap rowD.own d0x0)] := H78.free (row_nil 30 1)
 have H80 := H79.pk [1, 0, 2, 4, 5]
 have e : locks_Table_Ask p0 p1 p2 = (3, [], [], 0, p0) := et (bnd_of hr30) (et (ip h34) (et (bnd_of hr43) (et (ifF h47) (et (bnd_of hr58) (et (ifF h62) (et (bnd_of hr73) (ip h77)))))))
 obtain ⟨rfl, rfl, rfl, rfl, rfl⟩ := pj5 (e.symm.trans hr)
 exact ⟨none, 0, none, 0, A0x0, c0x0, d0x0, rfl, H80, hd0x0⟩
 refine jF (dF h77) (sk (sr (Mz rfl (Mz rfl (La (LockD.cells p2) H76 1 Try.isAgg34 Try.sizeOf34 ?_)))))
 have hb86 := H76.rowC (i := 2) rfl
 obtain ⟨r87, hr88⟩ : ∃ q, locks_Table_holders p0 p1 p2 = q := ⟨_, rfl⟩
 obtain ⟨D81, HP82, ro83, bk84, rr85⟩ := Own.enter1 H76
 refine cl Try.call25 (locks_Table_holders_ok _ _ g0 p0 A0x0 c0x0 d0x0 p1 p2 r87 HP82 hd0x0 (rr85 _ 1 _ rfl row_rds) (show p0.xrows.ls.length ≤ c0x0 ∧ p0.xrows.ls.length ≤ 9223372036854775807 from by omega) (fun x9 h9 => ⟨rr85 _ 2 _ rfl (sepL_mem (List.mem_flatMap.2 ⟨x9, h9, .head _⟩) row_rds), own_rd (φ := fun _ => _) H76 (i := 3) rfl (sepL_mem (List.mem_flatMap.2 ⟨x9, h9, .head _⟩) row_le2)⟩) (by first | omega | (dsimp only; omega)) hr88) ?_
 rintro _ w89 ⟨A92, c93, rfl, HQ90⟩
 have H91 := bk84 _ _ HQ90
 have hb94 := H91.rowC (i := 0) rfl
 refine An rfl (Wp.seq (sr (Mz rfl (Kz (.int .i64 ((r87.length : Nat) : Int)) (Kz (.bool (decide (((r87.length : Nat) : Int) = 0))) (nt ?_))))))
 by_cases h95 : ((r87.length : Nat) : Int) = 0
 refine jT (dT h95) (sr ?_)
 refine npw [.slice none 0 0, .slice none 0 0] 65 H91 ?_
 intro g96 w97 H98
 refine ns (Mz rfl (Mz rfl (La (LockD.cells p2) H98 3 Try.isAgg34 Try.sizeOf34 ?_)))
 have H99 : Own w D w97 [row none 0 0 (List.flatMap (eN .u64) ([])) 30 1, blk g96 [.slice none 0 0, .slice none 0 0] 65, row A92 r87.length c93 (List.flatMap (eN .u64) r87) 30 1, blk g0 [.slice A0x0 p0.xrows.ls.length c0x0] 59, blk g21 (LockD.cells p2) 34, row A0x0 p0.xrows.ls.length c0x0 (List.flatMap rowD.cells d0x0) 72 6, sepL (List.flatMap rowD.own d0x0)] := H98.free (row_nil 30 1)
 have H100 : Own w D w97 [row none 0 0 (List.flatMap (eN .u64) ([])) 30 1, row none 0 0 (List.flatMap (eN .u64) ([])) 30 1, blk g96 [.slice none 0 0, .slice none 0 0] 65, row A92 r87.length c93 (List.flatMap (eN .u64) r87) 30 1, blk g0 [.slice A0x0 p0.xrows.ls.length c0x0] 59, blk g21 (LockD.cells p2) 34, row A0x0 p0.xrows.ls.length c0x0 (List.flatMap rowD.cells d0x0) 72 6, sepL (List.flatMap rowD.own d0x0)] := H99.free (row_nil 30 1)
 have H101 := H100.pk [4, 6, 7, 2, 1, 0, 3, 5]
 obtain ⟨⟨r107, r108⟩, hr109⟩ : ∃ q : TableT × changeT, locks_Table_grant p0 p1 p2 (changeT.mk (Ll.mk ([])) (Ll.mk ([]))) = q := ⟨_, rfl⟩
 obtain ⟨D102, HP103, ro104, bk105, rr106⟩ := Own.enter (L1 := [blk g0 [.slice A0x0 p0.xrows.ls.length c0x0] 59, row A0x0 p0.xrows.ls.length c0x0 (List.flatMap rowD.cells d0x0) 72 6, sepL (List.flatMap rowD.own d0x0), blk g96 [.slice none 0 0, .slice none 0 0] 65, row none 0 0 (List.flatMap (eN .u64) ([])) 30 1, row none 0 0 (List.flatMap (eN .u64) ([])) 30 1]) (L2 := [row A92 r87.length c93 (List.flatMap (eN .u64) r87) 30 1, blk g21 (LockD.cells p2) 34]) H101
 refine cl Try.call26 (locks_Table_grant_ok _ _ g0 p0 A0x0 c0x0 d0x0 p1 p2 g96 (changeT.mk (Ll.mk ([])) (Ll.mk ([]))) none 0 none 0 r107 r108 HP103 hd0x0 (by first | omega | (dsimp only; omega)) (by assumption) (by first | omega | (dsimp only; omega) | exact Nat.zero_le _) hr109) ?_
 rintro _ w110 ⟨A113, c114, d115, A117, c118, A119, c120, rfl, HQ111, hd116⟩
 have H112 := bk105 _ _ HQ111
 have hl121 := abs_len hd116
 have hb122 := H112.rowC (i := 1) rfl
 have hb123 := H112.rowC (i := 4) rfl
 have hb124 := H112.rowC (i := 5) rfl
 obtain ⟨hz125, hz126, hz127, hz128, hz129⟩ := ask_step (m := p0.xrows.ls) (by assumption) hr109
 replace hz126 : r107.xrows.ls.length ≤ 193 := hz126
 replace hz127 : Wt r107.xrows.ls ≤ 193 := hz127
 replace hz128 : r108.xgranted.ls = ([]) := hz128
 replace hz129 : r108.xdead.ls.length ≤ 0 + 193 := hz129
 have hl130 : r108.xgranted.ls.length = 0 := by rw [hz128]; rfl
 refine ns (Mz rfl ?_)
 obtain ⟨⟨r136, r137⟩, hr138⟩ : ∃ q : TableT × changeT, locks_Table_settle r107 r108 = q := ⟨_, rfl⟩
 obtain ⟨D131, HP132, ro133, bk134, rr135⟩ := Own.enter (L1 := [blk g0 [.slice A113 r107.xrows.ls.length c114] 59, row A113 r107.xrows.ls.length c114 (List.flatMap rowD.cells d115) 72 6, sepL (List.flatMap rowD.own d115), blk g96 [.slice A117 r108.xgranted.ls.length c118, .slice A119 r108.xdead.ls.length c120] 65, row A117 r108.xgranted.ls.length c118 (List.flatMap (eN .u64) r108.xgranted.ls) 30 1, row A119 r108.xdead.ls.length c120 (List.flatMap (eN .u64) r108.xdead.ls) 30 1]) (L2 := [row A92 r87.length c93 (List.flatMap (eN .u64) r87) 30 1, blk g21 (LockD.cells p2) 34]) H112
 refine cl Try.call27 (locks_Table_settle_ok _ _ g0 r107 A113 c114 d115 g96 r108 A117 c118 A119 c120 r136 r137 HP132 hd116 (by assumption) (by first | omega | (dsimp only; omega)) (by first | omega | (dsimp only; omega) | exact Fit.wt (by assumption)) (by first | omega | (dsimp only; omega) | exact Nat.zero_le _) (by first | omega | (dsimp only; omega) | exact Nat.zero_le _) hr138) ?_
 rintro _ w139 ⟨A142, c143, d144, A146, c147, A148, c149, rfl, HQ140, hd145⟩
 have H141 := bk134 _ _ HQ140
 have hl150 := abs_len hd145
 have hb151 := H141.rowC (i := 1) rfl
 have hb152 := H141.rowC (i := 4) rfl
 have hb153 := H141.rowC (i := 5) rfl
 refine nt (Wp.seq ?_)
 have H155 := H141.drew
 refine Wp.drawnX [] (fun W => ∃ L', Own w D W ([blk g0 [.slice A142 r136.xrows.ls.length c143] 59, row A142 r136.xrows.ls.length c143 (List.flatMap rowD.cells d144) 72 6, sepL (List.flatMap rowD.own d144), blk g96 [.slice A146 r137.xgranted.ls.length c147, .slice A148 r137.xdead.ls.length c149] 65, row A146 r137.xgranted.ls.length c147 (List.flatMap (eN .u64) r137.xgranted.ls) 30 1, row A148 r137.xdead.ls.length c149 (List.flatMap (eN .u64) r137.xdead.ls) 30 1, row A92 r87.length c93 (List.flatMap (eN .u64) r87) 30 1, blk g21 (LockD.cells p2) 34] ++ L')) (by kernel_rfl) (by kernel_rfl) (NoP.then (NoP.then NoP.base)) ⟨_, H155⟩ ?_
 revert H155
 generalize World.drew w139 = w154
 intro H155
 refine GX.take (v := .pointer (some ⟨g96, 0, none⟩)) (rs := []) 0 rfl (by kernel_rfl) (fun _ _ => yk) (GX.take (v := .slice A146 r137.xgranted.ls.length c147) (rs := []) 1 rfl (by kernel_rfl) (fun _ ⟨_, H9⟩ => Yl.load rfl (Lds.one Try.isAgg37 (Cls.of (H9.cls (i := 3) rfl) rfl))) (GX.take (v := .pointer (some ⟨g96, 1, none⟩)) (rs := []) 2 rfl (by kernel_rfl) (fun _ _ => yk) (GX.take (v := .slice A148 r137.xdead.ls.length c149) (rs := []) 3 rfl (by kernel_rfl) (fun _ ⟨_, H9⟩ => Yl.load rfl (Lds.one Try.isAgg37 (Cls.of (H9.cls (i := 3) rfl) rfl))) (GX.take (v := .int .i64 1) (rs := []) 4 rfl (by kernel_rfl) (fun _ _ => Yl.assign rfl) (GX.take (v := .slice A146 r137.xgranted.ls.length c147) (rs := []) 5 rfl (by kernel_rfl) (fun _ _ => Yl.assign rfl) (GX.take (v := .slice A148 r137.xdead.ls.length c149) (rs := []) 6 rfl (by kernel_rfl) (fun _ _ => Yl.assign rfl) (GX.take (v := .int .i64 0) (rs := []) 7 rfl (by kernel_rfl) (fun _ _ => Yl.assign rfl) (GX.done (by kernel_rfl) (Fin.then (rt (tR (Fin.res (res4 rfl rfl rfl rfl rfl) ?_))))))))))))
 have H156 := H155.pk [4, 5, 0, 1, 2]
 have e : locks_Table_Ask p0 p1 p2 = (1, r137.xgranted.ls, r137.xdead.ls, 0, r136) := et (bnd_of hr30) (et (ip h34) (et (bnd_of hr43) (et (ifF h47) (et (bnd_of hr58) (et (ifF h62) (et (bnd_of hr73) (et (iN h77) (et (bnd_of hr88) (et (ip h95) (et (bnd_of hr109) (bnd_of hr138)))))))))))
 obtain ⟨rfl, rfl, rfl, rfl, rfl⟩ := pj5 (e.symm.trans hr)
 exact ⟨A146, c147, A148, c149, A142, c143, d144, rfl, H156, hd145⟩
 refine jF (dF h95) (sk (Wp.seq (sr (Mz rfl ?_))))
 obtain ⟨x157, hx158⟩ := rds_at (ls := r87) (i := 0) eN_len (by decide) (H91.rds (i := 0) rfl) (by first | omega | (simp; done) | (simp; omega))
 refine fw (.pointer (some ⟨ab A92, ao A92 + 0 * 1, none⟩)) (Yl.indexAddr (El37) rfl rfl ((H91.rds (i := 0) rfl).addr (i := 0) (by omega)) (by omega)) (fw (.int .u64 ((x157 : Nat) : Int)) (Yl.load rfl (Lds.one Try.isAgg30 (((H91.rds (i := 0) rfl).elem eN_len hx158 (by decide)).at_ (k := 0) rfl))) (Mz rfl (Kz (.bool (decide (((x157 : Nat) : Int) < ((p1 : Nat) : Int)))) (nt ?_))))
 by_cases h159 : ((x157 : Nat) : Int) < ((p1 : Nat) : Int)
 refine jT (dT h159) (Wp.seq ?_)
 have H160 := H91.pk [1, 2, 3, 4]
 refine Wp.region (Az rfl (Az rfl (Az rfl (An rfl (rt (tR (Fin.res (res4 rfl rfl rfl rfl rfl) ?_)))))))
 have H161 : Own w D w89 [row none 0 0 (List.flatMap (eN .u64) ([])) 30 1, blk g0 [.slice A0x0 p0.xrows.ls.length c0x0] 59, blk g21 (LockD.cells p2) 34, row A0x0 p0.xrows.ls.length c0x0 (List.flatMap rowD.cells d0x0) 72 6, sepL (List.flatMap rowD.own d0x0)] := H160.free (row_nil 30 1)
 have H162 : Own w D w89 [row none 0 0 (List.flatMap (eN .u64) ([])) 30 1, row none 0 0 (List.flatMap (eN .u64) ([])) 30 1, blk g0 [.slice A0x0 p0.xrows.ls.length c0x0] 59, blk g21 (LockD.cells p2) 34, row A0x0 p0.xrows.ls.length c0x0 (List.flatMap rowD.cells d0x0) 72 6, sepL (List.flatMap rowD.own d0x0)] := H161.free (row_nil 30 1)
 have H163 := H162.pk [1, 0, 2, 4, 5]
 have e : locks_Table_Ask p0 p1 p2 = (3, [], [], 0, p0) := et (bnd_of hr30) (et (ip h34) (et (bnd_of hr43) (et (ifF h47) (et (bnd_of hr58) (et (ifF h62) (et (bnd_of hr73) (et (iN h77) (et (bnd_of hr88) (et (iN h95) (et (bnd_of (getD_of hx158)) (ip h159)))))))))))
 obtain ⟨rfl, rfl, rfl, rfl, rfl⟩ := pj5 (e.symm.trans hr)
 exact ⟨none, 0, none, 0, A0x0, c0x0, d0x0, rfl, H163, hd0x0⟩
 refine jF (dF h159) (sk (Wp.seq ?_))
 have H164 := H91.pk [1, 2, 3, 4]
 refine Wp.region (Mz rfl (Mz rfl ?_))
 refine WL.do rfl (Do.call Try.call28 rfl ?_ (fun _ _ k => k))
 refine Calls.body (args := [.pointer (some ⟨g0, 0, none⟩), .int .u64 ((p1 : Nat) : Int)]) Try.func28 rfl rfl rfl ?_
 show Wp _ _ _ [(0, .pointer (some ⟨g0, 0, none⟩)), (1, .int .u64 ((p1 : Nat) : Int))] _ _
 refine sr (Ar rfl (Mz rfl (Mz rfl ?_)))
 have hb170 := H164.rowC (i := 2) rfl
 obtain ⟨⟨r171, r172⟩, hr173⟩ : ∃ q : Int × Bool, locks_Table_find p0 p1 = q := ⟨_, rfl⟩
 obtain ⟨D165, HP166, ro167, bk168, rr169⟩ := Own.enter1 H164
 refine cl Try.call43 (locks_Table_find_ok _ _ g0 p0 A0x0 c0x0 d0x0 p1 r171 r172 HP166 hd0x0 (rr169 _ 1 _ rfl row_rds) (show p0.xrows.ls.length ≤ c0x0 ∧ p0.xrows.ls.length ≤ 9223372036854775807 from by omega) (fun x9 h9 => ⟨rr169 _ 2 _ rfl (sepL_mem (List.mem_flatMap.2 ⟨x9, h9, .head _⟩) row_rds), own_rd (φ := fun _ => _) H164 (i := 3) rfl (sepL_mem (List.mem_flatMap.2 ⟨x9, h9, .head _⟩) row_le2)⟩) (by first | omega | (dsimp only; omega)) hr173) ?_
 rintro _ w174 ⟨rfl, HQ175, hk177, hk178⟩
 have H176 := bk168 _ _ HQ175
 replace hk177 : 0 ≤ r171 ∧ r171 ≤ ((p0.xrows.ls.length : Nat) : Int) := hk177
 replace hk178 : Bool.toNat r172 = 0 ∨ r171 < ((p0.xrows.ls.length : Nat) : Int) := hk178
 refine Mz rfl (Kz (.int .i64 r171) (Kz (.bool r172) (Az rfl (An rfl (Wp.seq (sr (Mz rfl (Kz (.bool (!r172)) (nt ?_)))))))))
 rcases Bool.eq_false_or_eq_true (r172) with h179 | h179
 have h179t : Bool.toNat r172 = 1 := by rw [h179]; rfl
 refine jF (cn h179) (sk (sr (Mz rfl (Kz (.pointer (some ⟨g0, 0, none⟩)) (Kz (.pointer (some ⟨g0, 0, none⟩)) (Lz (.slice A0x0 p0.xrows.ls.length c0x0) H176 0 Try.isAgg57 (fw (.int .i64 ((Int.toNat r171 : Nat) : Int)) (Yl.int (e := r171) (Yl.move rfl) (by omega)) ?_)))))))
 obtain ⟨x180, hx181⟩ := rds_at (ls := d0x0) (i := Int.toNat r171) rowD.len (by decide) (H176.rds (i := 2) rfl) (by first | omega | (simp; done) | (simp; omega))
 have hX182 := abs_at hd0x0 hx181
 have hb183 : x180.xheld.ls.length ≤ x180.xheld.c ∧ x180.xheld.ls.length ≤ 9223372036854775807 := own_rd H176 (i := 3) rfl (φ := fun _ => _) (sepL_mem (List.mem_flatMap.2 ⟨x180, List.mem_of_getElem? hx181, .head _⟩) row_le2)
 have hz184 : x180.xheld.ls.length ≤ 1000000 := by have q9 : Hd p0.xrows.ls := (by first | exact hh1 | exact hd_ins hh1 (Nat.zero_le _)); exact q9 _ (List.mem_of_getElem? hX182)
 refine fw (.pointer (some ⟨ab A0x0, ao A0x0 + (Int.toNat r171) * 6, none⟩)) (Yl.indexAddr (El57) rfl rfl ((H176.rds (i := 2) rfl).addr (i := Int.toNat r171) (by omega)) (by omega)) (An rfl (rt (rs (An rfl (Wp.seq ?_)))))
 have H186 := H176.drew
 refine Wp.drawnX [] (fun W => ∃ L', Own w D W ([blk g0 [.slice A0x0 p0.xrows.ls.length c0x0] 59, blk g21 (LockD.cells p2) 34] ++ L')) (by kernel_rfl) (by kernel_rfl) (NoP.then NoP.base) ⟨_, H186⟩ ?_
 revert H186
 generalize World.drew w174 = w185
 intro H186
 refine GX.take (v := .pointer (some ⟨ab A0x0, ao A0x0 + (Int.toNat r171) * 6, none⟩)) (rs := []) 0 rfl (by kernel_rfl) (fun _ _ => Yl.move rfl) (GX.take (v := .pointer (some ⟨ab A0x0, ao A0x0 + (Int.toNat r171) * 6, none⟩)) (rs := []) 1 rfl (by kernel_rfl) (fun _ _ => Yl.move rfl) (GX.take (v := .agg (LockD.cells p2).toArray) (rs := []) 2 rfl (by kernel_rfl) (fun _ ⟨_, H9⟩ => Yl.load rfl (Lds.agg (cs := (LockD.cells p2)) Try.isAgg34 Try.sizeOf34 ((H9.cls (i := 1) rfl).lit (k := 0) (m := 3) rfl))) (GX.take (v := .pointer (some ⟨ab A0x0, ao A0x0 + (Int.toNat r171) * 6, none⟩)) (rs := []) 3 rfl (by kernel_rfl) (fun _ _ => yk) (GX.take (v := .pointer (some ⟨ab A0x0, ao A0x0 + (Int.toNat r171) * 6 + 2, none⟩)) (rs := []) 4 rfl (by kernel_rfl) (fun _ _ => yk) ?_))))
 have H187 := H186.pk [2, 0, 1, 3]
 refine GX.do0 5 rfl (by kernel_rfl) (Do.storeRow (vs := [.bool true]) (o := (Int.toNat r171) * 6 + 2) (q := ao A0x0 + (Int.toNat r171) * 6 + 2) H187 rfl (by omega) rfl Try.sizeOf4 rfl rfl (Nat.le_of_ble_eq_true rfl) (store_fits rowD.len hx181 (Nat.le_of_ble_eq_true rfl)) (flat_set (y := (rowD.mk x180.xtxn x180.xheld true x180.xwant)) rowD.len rfl (Nat.le_of_ble_eq_true rfl) hx181) ?_)
 intro w188 H189
 have H190 : Own w D w188 [row A0x0 p0.xrows.ls.length c0x0 (List.flatMap rowD.cells (List.set d0x0 (Int.toNat r171) (rowD.mk x180.xtxn x180.xheld true x180.xwant))) 72 6, blk g0 [.slice A0x0 p0.xrows.ls.length c0x0] 59, blk g21 (LockD.cells p2) 34, sepL (List.flatMap rowD.own (List.set d0x0 (Int.toNat r171) (rowD.mk x180.xtxn x180.xheld true x180.xwant)))] := by rw [flat_sameH (f := rowD.own) (y := (rowD.mk x180.xtxn x180.xheld true x180.xwant)) hx181 rfl]; exact H189
 have hl191 : List.length (List.set d0x0 (Int.toNat r171) (rowD.mk x180.xtxn x180.xheld true x180.xwant)) = List.length (List.set p0.xrows.ls (Int.toNat r171) (rowT.mk x180.xtxn (Ll.mk x180.xheld.ls) true x180.xwant)) := abs_len (map_set' hd0x0 rfl)
 have hl192 : List.length (List.set p0.xrows.ls (Int.toNat r171) (rowT.mk x180.xtxn (Ll.mk x180.xheld.ls) true x180.xwant)) = p0.xrows.ls.length := List.length_set
 have H193 := H190.pk [1, 2, 0, 3]
 refine ⟨.inr ⟨_, H193⟩, ?_⟩
 refine GX.take (v := .pointer (some ⟨ab A0x0, ao A0x0 + (Int.toNat r171) * 6, none⟩)) (rs := []) 6 rfl (by kernel_rfl) (fun _ _ => yk) (GX.take (v := .pointer (some ⟨ab A0x0, ao A0x0 + (Int.toNat r171) * 6 + 3, none⟩)) (rs := []) 7 rfl (by kernel_rfl) (fun _ _ => yk) ?_)
 obtain ⟨x194, hx195⟩ := rds_at (ls := (List.set d0x0 (Int.toNat r171) (rowD.mk x180.xtxn x180.xheld true x180.xwant))) (i := Int.toNat r171) rowD.len (by decide) (H193.rds (i := 2) rfl) (by first | omega | (simp; done) | (simp; omega))
 have hX196 := abs_at (map_set' hd0x0 rfl) hx195
 have hb197 : x194.xheld.ls.length ≤ x194.xheld.c ∧ x194.xheld.ls.length ≤ 9223372036854775807 := own_rd H193 (i := 3) rfl (φ := fun _ => _) (sepL_mem (List.mem_flatMap.2 ⟨x194, List.mem_of_getElem? hx195, .head _⟩) row_le2)
 have H198 := H193.pk [2, 0, 1, 3]
 refine GX.do0 8 rfl (by kernel_rfl) (Do.storeRow (vs := (LockD.cells p2)) (o := (Int.toNat r171) * 6 + 3) (q := ao A0x0 + (Int.toNat r171) * 6 + 3) H198 rfl (by omega) rfl Try.sizeOf34 rfl rfl (Nat.le_of_ble_eq_true rfl) (store_fits rowD.len hx195 (Nat.le_of_ble_eq_true rfl)) (flat_set (y := (rowD.mk x194.xtxn x194.xheld x194.xwaits p2)) rowD.len rfl (Nat.le_of_ble_eq_true rfl) hx195) ?_)
 intro w199 H200
 have H201 : Own w D w199 [row A0x0 p0.xrows.ls.length c0x0 (List.flatMap rowD.cells (List.set (List.set d0x0 (Int.toNat r171) (rowD.mk x180.xtxn x180.xheld true x180.xwant)) (Int.toNat r171) (rowD.mk x194.xtxn x194.xheld x194.xwaits p2))) 72 6, blk g0 [.slice A0x0 p0.xrows.ls.length c0x0] 59, blk g21 (LockD.cells p2) 34, sepL (List.flatMap rowD.own (List.set (List.set d0x0 (Int.toNat r171) (rowD.mk x180.xtxn x180.xheld true x180.xwant)) (Int.toNat r171) (rowD.mk x194.xtxn x194.xheld x194.xwaits p2)))] := by rw [flat_sameH (f := rowD.own) (y := (rowD.mk x194.xtxn x194.xheld x194.xwaits p2)) hx195 rfl]; exact H200
 have hl202 : List.length (List.set (List.set d0x0 (Int.toNat r171) (rowD.mk x180.xtxn x180.xheld true x180.xwant)) (Int.toNat r171) (rowD.mk x194.xtxn x194.xheld x194.xwaits p2)) = List.length (List.set (List.set p0.xrows.ls (Int.toNat r171) (rowT.mk x180.xtxn (Ll.mk x180.xheld.ls) true x180.xwant)) (Int.toNat r171) (rowT.mk x194.xtxn (Ll.mk x194.xheld.ls) x194.xwaits p2)) := abs_len (map_set' (map_set' hd0x0 rfl) rfl)
 have hl203 : List.length (List.set (List.set p0.xrows.ls (Int.toNat r171) (rowT.mk x180.xtxn (Ll.mk x180.xheld.ls) true x180.xwant)) (Int.toNat r171) (rowT.mk x194.xtxn (Ll.mk x194.xheld.ls) x194.xwaits p2)) = List.length (List.set p0.xrows.ls (Int.toNat r171) (rowT.mk x180.xtxn (Ll.mk x180.xheld.ls) true x180.xwant)) := List.length_set
 have H204 := H201.pk [1, 2, 0, 3]
 refine ⟨.inr ⟨_, H204⟩, ?_⟩
 refine GX.done (by kernel_rfl) (Fin.then (Wp.seq ?_))
 have H205 := H204.pk [0, 2, 3]
 refine Wp.region (Az rfl (Az rfl (Az rfl (An rfl (rt (Fin.res (res4 rfl rfl rfl rfl rfl) ?_))))))
 have H206 : Own w D w199 [row none 0 0 (List.flatMap (eN .u64) ([])) 30 1, blk g0 [.slice A0x0 p0.xrows.ls.length c0x0] 59, row A0x0 p0.xrows.ls.length c0x0 (List.flatMap rowD.cells (List.set (List.set d0x0 (Int.toNat r171) (rowD.mk x180.xtxn x180.xheld true x180.xwant)) (Int.toNat r171) (rowD.mk x194.xtxn x194.xheld x194.xwaits p2))) 72 6, sepL (List.flatMap rowD.own (List.set (List.set d0x0 (Int.toNat r171) (rowD.mk x180.xtxn x180.xheld true x180.xwant)) (Int.toNat r171) (rowD.mk x194.xtxn x194.xheld x194.xwaits p2)))] := H205.free (row_nil 30 1)
 have H207 : Own w D w199 [row none 0 0 (List.flatMap (eN .u64) ([])) 30 1, row none 0 0 (List.flatMap (eN .u64) ([])) 30 1, blk g0 [.slice A0x0 p0.xrows.ls.length c0x0] 59, row A0x0 p0.xrows.ls.length c0x0 (List.flatMap rowD.cells (List.set (List.set d0x0 (Int.toNat r171) (rowD.mk x180.xtxn x180.xheld true x180.xwant)) (Int.toNat r171) (rowD.mk x194.xtxn x194.xheld x194.xwaits p2))) 72 6, sepL (List.flatMap rowD.own (List.set (List.set d0x0 (Int.toNat r171) (rowD.mk x180.xtxn x180.xheld true x180.xwant)) (Int.toNat r171) (rowD.mk x194.xtxn x194.xheld x194.xwaits p2)))] := H206.free (row_nil 30 1)
 have hn208 : p0.xrows.ls.length = List.length (List.set (List.set p0.xrows.ls (Int.toNat r171) (rowT.mk x180.xtxn (Ll.mk x180.xheld.ls) true x180.xwant)) (Int.toNat r171) (rowT.mk x194.xtxn (Ll.mk x194.xheld.ls) x194.xwaits p2)) := by first | omega | (simp only [List.length_set]; done) | (simp only [List.length_set, List.length_append, List.length_cons, List.length_nil, List.length_take, List.length_drop, List.length_replicate]; omega)
 have H209 : Own w D w199 [row none 0 0 (List.flatMap (eN .u64) ([])) 30 1, row none 0 0 (List.flatMap (eN .u64) ([])) 30 1, blk g0 [.slice A0x0 (List.length (List.set (List.set p0.xrows.ls (Int.toNat r171) (rowT.mk x180.xtxn (Ll.mk x180.xheld.ls) true x180.xwant)) (Int.toNat r171) (rowT.mk x194.xtxn (Ll.mk x194.xheld.ls) x194.xwaits p2))) c0x0] 59, row A0x0 (List.length (List.set (List.set p0.xrows.ls (Int.toNat r171) (rowT.mk x180.xtxn (Ll.mk x180.xheld.ls) true x180.xwant)) (Int.toNat r171) (rowT.mk x194.xtxn (Ll.mk x194.xheld.ls) x194.xwaits p2))) c0x0 (List.flatMap rowD.cells (List.set (List.set d0x0 (Int.toNat r171) (rowD.mk x180.xtxn x180.xheld true x180.xwant)) (Int.toNat r171) (rowD.mk x194.xtxn x194.xheld x194.xwaits p2))) 72 6, sepL (List.flatMap rowD.own (List.set (List.set d0x0 (Int.toNat r171) (rowD.mk x180.xtxn x180.xheld true x180.xwant)) (Int.toNat r171) (rowD.mk x194.xtxn x194.xheld x194.xwaits p2)))] := by rw [← hn208]; exact H207
 have H210 := H209.pk [1, 0, 2, 3, 4]
 have e : locks_Table_Ask p0 p1 p2 = (2, [], [], 0, TableT.mk (Ll.mk (List.set (List.set p0.xrows.ls (Int.toNat r171) (rowT.mk x180.xtxn (Ll.mk x180.xheld.ls) true x180.xwant)) (Int.toNat r171) (rowT.mk x194.xtxn (Ll.mk x194.xheld.ls) x194.xwaits p2)))) := et (bnd_of hr30) (et (ip h34) (et (bnd_of hr43) (et (ifF h47) (et (bnd_of hr58) (et (ifF h62) (et (bnd_of hr73) (et (iN h77) (et (bnd_of hr88) (et (iN h95) (et (bnd_of (getD_of hx158)) (et (iN h159) (et (bnd_of hr173) (et (ip h179) (et (bnd_of (getD_of hX182)) (bnd_of (getD_of hX196))))))))))))))))
 obtain ⟨rfl, rfl, rfl, rfl, rfl⟩ := pj5 (e.symm.trans hr)
 exact ⟨none, 0, none, 0, A0x0, c0x0, (List.set (List.set d0x0 (Int.toNat r171) (rowD.mk x180.xtxn x180.xheld true x180.xwant)) (Int.toNat r171) (rowD.mk x194.xtxn x194.xheld x194.xwaits p2)), (by first | rfl | (rw [← hn208]; done) | (rw [← hn208]; rfl)), H210, (map_set' (map_set' hd0x0 rfl) rfl)⟩
 have h179t : Bool.toNat r172 = 0 := by rw [h179]; rfl
 refine jT (cn h179) (Wp.region (Mz rfl (Mz rfl (Kz (.pointer (some ⟨g0, 0, none⟩)) (Kz (.pointer (some ⟨g0, 0, none⟩)) (Lz (.slice A0x0 p0.xrows.ls.length c0x0) H176 0 Try.isAgg57 (Mz rfl (Mz rfl (Kz (.agg #[.int .u64 ((p1 : Nat) : Int), .slice none 0 0, .bool false, .string ⟨List.toArray ([])⟩, .string ⟨List.toArray ([])⟩, .bool false]) ?_)))))))))
 refine WL.do rfl (Do.newRowZ (cs := [.int .u64 ((p1 : Nat) : Int), .slice none 0 0, .bool false, .string ⟨List.toArray ([])⟩, .string ⟨List.toArray ([])⟩, .bool false]) (t := 72) (sz := 6) (m := 1) H176 rfl rfl (fun _ => by kernel_rfl) rfl ?_)
 intro A211 w212 H213
 replace H213 : Own w D w212 [rowz A211 1 (List.flatMap rowD.cells ([(rowD.mk p1 (Sv.mk none 0 ([])) false (LockD.mk (RangeD.mk ([]) ([])) false))])) 72 6, blk g0 [.slice A0x0 p0.xrows.ls.length c0x0] 59, blk g21 (LockD.cells p2) 34, row A0x0 p0.xrows.ls.length c0x0 (List.flatMap rowD.cells d0x0) 72 6, sepL (List.flatMap rowD.own d0x0)] := H213
 have H214 : Own w D w212 [row none 0 0 (List.flatMap LockD.cells ([])) 34 3, rowz A211 1 (List.flatMap rowD.cells ([(rowD.mk p1 (Sv.mk none 0 ([])) false (LockD.mk (RangeD.mk ([]) ([])) false))])) 72 6, blk g0 [.slice A0x0 p0.xrows.ls.length c0x0] 59, blk g21 (LockD.cells p2) 34, row A0x0 p0.xrows.ls.length c0x0 (List.flatMap rowD.cells d0x0) 72 6, sepL (List.flatMap rowD.own d0x0)] := H213.free (row_nil 34 3)
 have H215 := H214.pk [4, 1, 5, 0, 2, 3]
 obtain ⟨D216, HP217, ro218, bk219, rr220⟩ := Own.enter (L1 := [row A0x0 p0.xrows.ls.length c0x0 (List.flatMap rowD.cells d0x0) 72 6, rowz A211 1 (List.flatMap rowD.cells ([(rowD.mk p1 (Sv.mk none 0 ([])) false (LockD.mk (RangeD.mk ([]) ([])) false))])) 72 6, sepL (List.flatMap rowD.own d0x0), row none 0 0 (List.flatMap LockD.cells ([])) 34 3]) (L2 := [blk g0 [.slice A0x0 p0.xrows.ls.length c0x0] 59, blk g21 (LockD.cells p2) 34]) H215
 refine cl Try.call53 (rows_ins _ _ A0x0 p0.xrows.ls.length c0x0 d0x0 r171 A211 (rowD.mk p1 (Sv.mk none 0 ([])) false (LockD.mk (RangeD.mk ([]) ([])) false)) p0.xrows.ls (rowT.mk p1 (Ll.mk ([])) false (LockD.mk (RangeD.mk ([]) ([])) false)) HP217 (by omega) hd0x0 rfl (by omega) (by omega)) ?_
 rintro _ w221 ⟨A223, c224, rfl, HQ222⟩
 have H225 := bk219 _ _ HQ222
 have hl226 : List.length (List.take (Int.toNat r171) d0x0 ++ ((rowD.mk p1 (Sv.mk none 0 ([])) false (LockD.mk (RangeD.mk ([]) ([])) false)) :: List.drop (Int.toNat r171) d0x0)) = List.length (List.take (Int.toNat r171) p0.xrows.ls ++ ((rowT.mk p1 (Ll.mk ([])) false (LockD.mk (RangeD.mk ([]) ([])) false)) :: List.drop (Int.toNat r171) p0.xrows.ls)) := by exact abs_len (ins_abs (z := (rowT.mk p1 (Ll.mk ([])) false (LockD.mk (RangeD.mk ([]) ([])) false))) hd0x0 rfl)
 have hl227 : List.length (List.take (Int.toNat r171) p0.xrows.ls ++ ((rowT.mk p1 (Ll.mk ([])) false (LockD.mk (RangeD.mk ([]) ([])) false)) :: List.drop (Int.toNat r171) p0.xrows.ls)) = p0.xrows.ls.length + 1 := by simp only [List.length_append, List.length_take, List.length_cons, List.length_drop]; omega
 refine Kz (.pointer (some ⟨g0, 0, none⟩)) (Kz (.pointer (some ⟨g0, 0, none⟩)) ?_)
 have H228 := H225.pk [2, 0, 1, 3]
 refine sto [.slice A223 (List.length (List.take (Int.toNat r171) p0.xrows.ls ++ ((rowT.mk p1 (Ll.mk ([])) false (LockD.mk (RangeD.mk ([]) ([])) false)) :: List.drop (Int.toNat r171) p0.xrows.ls))) c224] 0 H228 Try.sizeOf57 ?_
 intro w229 H230
 refine ns (Mz rfl (Kz (.pointer (some ⟨g0, 0, none⟩)) (Kz (.pointer (some ⟨g0, 0, none⟩)) (Lz (.slice A223 (List.length (List.take (Int.toNat r171) p0.xrows.ls ++ ((rowT.mk p1 (Ll.mk ([])) false (LockD.mk (RangeD.mk ([]) ([])) false)) :: List.drop (Int.toNat r171) p0.xrows.ls))) c224) H230 0 Try.isAgg57 (fw (.int .i64 ((Int.toNat r171 : Nat) : Int)) (Yl.int (e := r171) (Yl.move rfl) (by omega)) ?_)))))
 obtain ⟨x231, hx232⟩ := rds_at (ls := (List.take (Int.toNat r171) d0x0 ++ ((rowD.mk p1 (Sv.mk none 0 ([])) false (LockD.mk (RangeD.mk ([]) ([])) false)) :: List.drop (Int.toNat r171) d0x0))) (i := Int.toNat r171) rowD.len (by decide) (H230.rds (i := 1) rfl) (by first | omega | (simp; done) | (simp; omega))
 have hX233 := abs_at (ins_abs (z := (rowT.mk p1 (Ll.mk ([])) false (LockD.mk (RangeD.mk ([]) ([])) false))) hd0x0 rfl) hx232
 have hb234 : x231.xheld.ls.length ≤ x231.xheld.c ∧ x231.xheld.ls.length ≤ 9223372036854775807 := own_rd H230 (i := 2) rfl (φ := fun _ => _) (sepL_mem (List.mem_flatMap.2 ⟨x231, List.mem_of_getElem? hx232, .head _⟩) row_le2)
 have hz235 : x231.xheld.ls.length ≤ 1000000 := by have q9 : Hd (List.take (Int.toNat r171) p0.xrows.ls ++ ((rowT.mk p1 (Ll.mk ([])) false (LockD.mk (RangeD.mk ([]) ([])) false)) :: List.drop (Int.toNat r171) p0.xrows.ls)) := (by first | exact hh1 | exact hd_ins hh1 (Nat.zero_le _)); exact q9 _ (List.mem_of_getElem? hX233)
 refine fw (.pointer (some ⟨ab A223, ao A223 + (Int.toNat r171) * 6, none⟩)) (Yl.indexAddr (El57) rfl rfl ((H230.rds (i := 1) rfl).addr (i := Int.toNat r171) (by omega)) (by omega)) (An rfl (rt (rs (An rfl (Wp.seq ?_)))))
 have H236 := H230.pk [0, 3, 1, 2]
 have H238 := H236.drew
 refine Wp.drawnX [] (fun W => ∃ L', Own w D W ([blk g0 [.slice A223 (List.length (List.take (Int.toNat r171) p0.xrows.ls ++ ((rowT.mk p1 (Ll.mk ([])) false (LockD.mk (RangeD.mk ([]) ([])) false)) :: List.drop (Int.toNat r171) p0.xrows.ls))) c224] 59, blk g21 (LockD.cells p2) 34] ++ L')) (by kernel_rfl) (by kernel_rfl) (NoP.then NoP.base) ⟨_, H238⟩ ?_
 revert H238
 generalize World.drew w229 = w237
 intro H238
 refine GX.take (v := .pointer (some ⟨ab A223, ao A223 + (Int.toNat r171) * 6, none⟩)) (rs := []) 0 rfl (by kernel_rfl) (fun _ _ => Yl.move rfl) (GX.take (v := .pointer (some ⟨ab A223, ao A223 + (Int.toNat r171) * 6, none⟩)) (rs := []) 1 rfl (by kernel_rfl) (fun _ _ => Yl.move rfl) (GX.take (v := .agg (LockD.cells p2).toArray) (rs := []) 2 rfl (by kernel_rfl) (fun _ ⟨_, H9⟩ => Yl.load rfl (Lds.agg (cs := (LockD.cells p2)) Try.isAgg34 Try.sizeOf34 ((H9.cls (i := 1) rfl).lit (k := 0) (m := 3) rfl))) (GX.take (v := .pointer (some ⟨ab A223, ao A223 + (Int.toNat r171) * 6, none⟩)) (rs := []) 3 rfl (by kernel_rfl) (fun _ _ => yk) (GX.take (v := .pointer (some ⟨ab A223, ao A223 + (Int.toNat r171) * 6 + 2, none⟩)) (rs := []) 4 rfl (by kernel_rfl) (fun _ _ => yk) ?_))))
 have H239 := H238.pk [2, 0, 1, 3]
 refine GX.do0 5 rfl (by kernel_rfl) (Do.storeRow (vs := [.bool true]) (o := (Int.toNat r171) * 6 + 2) (q := ao A223 + (Int.toNat r171) * 6 + 2) H239 rfl (by omega) rfl Try.sizeOf4 rfl rfl (Nat.le_of_ble_eq_true rfl) (store_fits rowD.len hx232 (Nat.le_of_ble_eq_true rfl)) (flat_set (y := (rowD.mk x231.xtxn x231.xheld true x231.xwant)) rowD.len rfl (Nat.le_of_ble_eq_true rfl) hx232) ?_)
 intro w240 H241
 have H242 : Own w D w240 [row A223 (List.length (List.take (Int.toNat r171) p0.xrows.ls ++ ((rowT.mk p1 (Ll.mk ([])) false (LockD.mk (RangeD.mk ([]) ([])) false)) :: List.drop (Int.toNat r171) p0.xrows.ls))) c224 (List.flatMap rowD.cells (List.set (List.take (Int.toNat r171) d0x0 ++ ((rowD.mk p1 (Sv.mk none 0 ([])) false (LockD.mk (RangeD.mk ([]) ([])) false)) :: List.drop (Int.toNat r171) d0x0)) (Int.toNat r171) (rowD.mk x231.xtxn x231.xheld true x231.xwant))) 72 6, blk g0 [.slice A223 (List.length (List.take (Int.toNat r171) p0.xrows.ls ++ ((rowT.mk p1 (Ll.mk ([])) false (LockD.mk (RangeD.mk ([]) ([])) false)) :: List.drop (Int.toNat r171) p0.xrows.ls))) c224] 59, blk g21 (LockD.cells p2) 34, sepL (List.flatMap rowD.own (List.set (List.take (Int.toNat r171) d0x0 ++ ((rowD.mk p1 (Sv.mk none 0 ([])) false (LockD.mk (RangeD.mk ([]) ([])) false)) :: List.drop (Int.toNat r171) d0x0)) (Int.toNat r171) (rowD.mk x231.xtxn x231.xheld true x231.xwant)))] := by rw [flat_sameH (f := rowD.own) (y := (rowD.mk x231.xtxn x231.xheld true x231.xwant)) hx232 rfl]; exact H241
 have hl243 : List.length (List.set (List.take (Int.toNat r171) d0x0 ++ ((rowD.mk p1 (Sv.mk none 0 ([])) false (LockD.mk (RangeD.mk ([]) ([])) false)) :: List.drop (Int.toNat r171) d0x0)) (Int.toNat r171) (rowD.mk x231.xtxn x231.xheld true x231.xwant)) = List.length (List.set (List.take (Int.toNat r171) p0.xrows.ls ++ ((rowT.mk p1 (Ll.mk ([])) false (LockD.mk (RangeD.mk ([]) ([])) false)) :: List.drop (Int.toNat r171) p0.xrows.ls)) (Int.toNat r171) (rowT.mk x231.xtxn (Ll.mk x231.xheld.ls) true x231.xwant)) := abs_len (map_set' (ins_abs (z := (rowT.mk p1 (Ll.mk ([])) false (LockD.mk (RangeD.mk ([]) ([])) false))) hd0x0 rfl) rfl)
 have hl244 : List.length (List.set (List.take (Int.toNat r171) p0.xrows.ls ++ ((rowT.mk p1 (Ll.mk ([])) false (LockD.mk (RangeD.mk ([]) ([])) false)) :: List.drop (Int.toNat r171) p0.xrows.ls)) (Int.toNat r171) (rowT.mk x231.xtxn (Ll.mk x231.xheld.ls) true x231.xwant)) = List.length (List.take (Int.toNat r171) p0.xrows.ls ++ ((rowT.mk p1 (Ll.mk ([])) false (LockD.mk (RangeD.mk ([]) ([])) false)) :: List.drop (Int.toNat r171) p0.xrows.ls)) := List.length_set
 have H245 := H242.pk [1, 2, 0, 3]
 refine ⟨.inr ⟨_, H245⟩, ?_⟩
 refine GX.take (v := .pointer (some ⟨ab A223, ao A223 + (Int.toNat r171) * 6, none⟩)) (rs := []) 6 rfl (by kernel_rfl) (fun _ _ => yk) (GX.take (v := .pointer (some ⟨ab A223, ao A223 + (Int.toNat r171) * 6 + 3, none⟩)) (rs := []) 7 rfl (by kernel_rfl) (fun _ _ => yk) ?_)
 obtain ⟨x246, hx247⟩ := rds_at (ls := (List.set (List.take (Int.toNat r171) d0x0 ++ ((rowD.mk p1 (Sv.mk none 0 ([])) false (LockD.mk (RangeD.mk ([]) ([])) false)) :: List.drop (Int.toNat r171) d0x0)) (Int.toNat r171) (rowD.mk x231.xtxn x231.xheld true x231.xwant))) (i := Int.toNat r171) rowD.len (by decide) (H245.rds (i := 2) rfl) (by first | omega | (simp; done) | (simp; omega))
 have hX248 := abs_at (map_set' (ins_abs (z := (rowT.mk p1 (Ll.mk ([])) false (LockD.mk (RangeD.mk ([]) ([])) false))) hd0x0 rfl) rfl) hx247
 have hb249 : x246.xheld.ls.length ≤ x246.xheld.c ∧ x246.xheld.ls.length ≤ 9223372036854775807 := own_rd H245 (i := 3) rfl (φ := fun _ => _) (sepL_mem (List.mem_flatMap.2 ⟨x246, List.mem_of_getElem? hx247, .head _⟩) row_le2)
 have H250 := H245.pk [2, 0, 1, 3]
 refine GX.do0 8 rfl (by kernel_rfl) (Do.storeRow (vs := (LockD.cells p2)) (o := (Int.toNat r171) * 6 + 3) (q := ao A223 + (Int.toNat r171) * 6 + 3) H250 rfl (by omega) rfl Try.sizeOf34 rfl rfl (Nat.le_of_ble_eq_true rfl) (store_fits rowD.len hx247 (Nat.le_of_ble_eq_true rfl)) (flat_set (y := (rowD.mk x246.xtxn x246.xheld x246.xwaits p2)) rowD.len rfl (Nat.le_of_ble_eq_true rfl) hx247) ?_)
 intro w251 H252
 have H253 : Own w D w251 [row A223 (List.length (List.take (Int.toNat r171) p0.xrows.ls ++ ((rowT.mk p1 (Ll.mk ([])) false (LockD.mk (RangeD.mk ([]) ([])) false)) :: List.drop (Int.toNat r171) p0.xrows.ls))) c224 (List.flatMap rowD.cells (List.set (List.set (List.take (Int.toNat r171) d0x0 ++ ((rowD.mk p1 (Sv.mk none 0 ([])) false (LockD.mk (RangeD.mk ([]) ([])) false)) :: List.drop (Int.toNat r171) d0x0)) (Int.toNat r171) (rowD.mk x231.xtxn x231.xheld true x231.xwant)) (Int.toNat r171) (rowD.mk x246.xtxn x246.xheld x246.xwaits p2))) 72 6, blk g0 [.slice A223 (List.length (List.take (Int.toNat r171) p0.xrows.ls ++ ((rowT.mk p1 (Ll.mk ([])) false (LockD.mk (RangeD.mk ([]) ([])) false)) :: List.drop (Int.toNat r171) p0.xrows.ls))) c224] 59, blk g21 (LockD.cells p2) 34, sepL (List.flatMap rowD.own (List.set (List.set (List.take (Int.toNat r171) d0x0 ++ ((rowD.mk p1 (Sv.mk none 0 ([])) false (LockD.mk (RangeD.mk ([]) ([])) false)) :: List.drop (Int.toNat r171) d0x0)) (Int.toNat r171) (rowD.mk x231.xtxn x231.xheld true x231.xwant)) (Int.toNat r171) (rowD.mk x246.xtxn x246.xheld x246.xwaits p2)))] := by rw [flat_sameH (f := rowD.own) (y := (rowD.mk x246.xtxn x246.xheld x246.xwaits p2)) hx247 rfl]; exact H252
 have hl254 : List.length (List.set (List.set (List.take (Int.toNat r171) d0x0 ++ ((rowD.mk p1 (Sv.mk none 0 ([])) false (LockD.mk (RangeD.mk ([]) ([])) false)) :: List.drop (Int.toNat r171) d0x0)) (Int.toNat r171) (rowD.mk x231.xtxn x231.xheld true x231.xwant)) (Int.toNat r171) (rowD.mk x246.xtxn x246.xheld x246.xwaits p2)) = List.length (List.set (List.set (List.take (Int.toNat r171) p0.xrows.ls ++ ((rowT.mk p1 (Ll.mk ([])) false (LockD.mk (RangeD.mk ([]) ([])) false)) :: List.drop (Int.toNat r171) p0.xrows.ls)) (Int.toNat r171) (rowT.mk x231.xtxn (Ll.mk x231.xheld.ls) true x231.xwant)) (Int.toNat r171) (rowT.mk x246.xtxn (Ll.mk x246.xheld.ls) x246.xwaits p2)) := abs_len (map_set' (map_set' (ins_abs (z := (rowT.mk p1 (Ll.mk ([])) false (LockD.mk (RangeD.mk ([]) ([])) false))) hd0x0 rfl) rfl) rfl)
 have hl255 : List.length (List.set (List.set (List.take (Int.toNat r171) p0.xrows.ls ++ ((rowT.mk p1 (Ll.mk ([])) false (LockD.mk (RangeD.mk ([]) ([])) false)) :: List.drop (Int.toNat r171) p0.xrows.ls)) (Int.toNat r171) (rowT.mk x231.xtxn (Ll.mk x231.xheld.ls) true x231.xwant)) (Int.toNat r171) (rowT.mk x246.xtxn (Ll.mk x246.xheld.ls) x246.xwaits p2)) = List.length (List.set (List.take (Int.toNat r171) p0.xrows.ls ++ ((rowT.mk p1 (Ll.mk ([])) false (LockD.mk (RangeD.mk ([]) ([])) false)) :: List.drop (Int.toNat r171) p0.xrows.ls)) (Int.toNat r171) (rowT.mk x231.xtxn (Ll.mk x231.xheld.ls) true x231.xwant)) := List.length_set
 have H256 := H253.pk [1, 2, 0, 3]
 refine ⟨.inr ⟨_, H256⟩, ?_⟩
 refine GX.done (by kernel_rfl) (Fin.then (Wp.seq ?_))
 have H257 := H256.pk [0, 2, 3]
 refine Wp.region (Az rfl (Az rfl (Az rfl (An rfl (rt (Fin.res (res4 rfl rfl rfl rfl rfl) ?_))))))
 have H258 : Own w D w251 [row none 0 0 (List.flatMap (eN .u64) ([])) 30 1, blk g0 [.slice A223 (List.length (List.take (Int.toNat r171) p0.xrows.ls ++ ((rowT.mk p1 (Ll.mk ([])) false (LockD.mk (RangeD.mk ([]) ([])) false)) :: List.drop (Int.toNat r171) p0.xrows.ls))) c224] 59, row A223 (List.length (List.take (Int.toNat r171) p0.xrows.ls ++ ((rowT.mk p1 (Ll.mk ([])) false (LockD.mk (RangeD.mk ([]) ([])) false)) :: List.drop (Int.toNat r171) p0.xrows.ls))) c224 (List.flatMap rowD.cells (List.set (List.set (List.take (Int.toNat r171) d0x0 ++ ((rowD.mk p1 (Sv.mk none 0 ([])) false (LockD.mk (RangeD.mk ([]) ([])) false)) :: List.drop (Int.toNat r171) d0x0)) (Int.toNat r171) (rowD.mk x231.xtxn x231.xheld true x231.xwant)) (Int.toNat r171) (rowD.mk x246.xtxn x246.xheld x246.xwaits p2))) 72 6, sepL (List.flatMap rowD.own (List.set (List.set (List.take (Int.toNat r171) d0x0 ++ ((rowD.mk p1 (Sv.mk none 0 ([])) false (LockD.mk (RangeD.mk ([]) ([])) false)) :: List.drop (Int.toNat r171) d0x0)) (Int.toNat r171) (rowD.mk x231.xtxn x231.xheld true x231.xwant)) (Int.toNat r171) (rowD.mk x246.xtxn x246.xheld x246.xwaits p2)))] := H257.free (row_nil 30 1)
 have H259 : Own w D w251 [row none 0 0 (List.flatMap (eN .u64) ([])) 30 1, row none 0 0 (List.flatMap (eN .u64) ([])) 30 1, blk g0 [.slice A223 (List.length (List.take (Int.toNat r171) p0.xrows.ls ++ ((rowT.mk p1 (Ll.mk ([])) false (LockD.mk (RangeD.mk ([]) ([])) false)) :: List.drop (Int.toNat r171) p0.xrows.ls))) c224] 59, row A223 (List.length (List.take (Int.toNat r171) p0.xrows.ls ++ ((rowT.mk p1 (Ll.mk ([])) false (LockD.mk (RangeD.mk ([]) ([])) false)) :: List.drop (Int.toNat r171) p0.xrows.ls))) c224 (List.flatMap rowD.cells (List.set (List.set (List.take (Int.toNat r171) d0x0 ++ ((rowD.mk p1 (Sv.mk none 0 ([])) false (LockD.mk (RangeD.mk ([]) ([])) false)) :: List.drop (Int.toNat r171) d0x0)) (Int.toNat r171) (rowD.mk x231.xtxn x231.xheld true x231.xwant)) (Int.toNat r171) (rowD.mk x246.xtxn x246.xheld x246.xwaits p2))) 72 6, sepL (List.flatMap rowD.own (List.set (List.set (List.take (Int.toNat r171) d0x0 ++ ((rowD.mk p1 (Sv.mk none 0 ([])) false (LockD.mk (RangeD.mk ([]) ([])) false)) :: List.drop (Int.toNat r171) d0x0)) (Int.toNat r171) (rowD.mk x231.xtxn x231.xheld true x231.xwant)) (Int.toNat r171) (rowD.mk x246.xtxn x246.xheld x246.xwaits p2)))] := H258.free (row_nil 30 1)
 have hn260 : List.length (List.take (Int.toNat r171) p0.xrows.ls ++ ((rowT.mk p1 (Ll.mk ([])) false (LockD.mk (RangeD.mk ([]) ([])) false)) :: List.drop (Int.toNat r171) p0.xrows.ls)) = List.length (List.set (List.set (List.take (Int.toNat r171) p0.xrows.ls ++ ((rowT.mk p1 (Ll.mk ([])) false (LockD.mk (RangeD.mk ([]) ([])) false)) :: List.drop (Int.toNat r171) p0.xrows.ls)) (Int.toNat r171) (rowT.mk x231.xtxn (Ll.mk x231.xheld.ls) true x231.xwant)) (Int.toNat r171) (rowT.mk x246.xtxn (Ll.mk x246.xheld.ls) x246.xwaits p2)) := by first | omega | (simp only [List.length_set]; done) | (simp only [List.length_set, List.length_append, List.length_cons, List.length_nil, List.length_take, List.length_drop, List.length_replicate]; omega)
 have H261 : Own w D w251 [row none 0 0 (List.flatMap (eN .u64) ([])) 30 1, row none 0 0 (List.flatMap (eN .u64) ([])) 30 1, blk g0 [.slice A223 (List.length (List.set (List.set (List.take (Int.toNat r171) p0.xrows.ls ++ ((rowT.mk p1 (Ll.mk ([])) false (LockD.mk (RangeD.mk ([]) ([])) false)) :: List.drop (Int.toNat r171) p0.xrows.ls)) (Int.toNat r171) (rowT.mk x231.xtxn (Ll.mk x231.xheld.ls) true x231.xwant)) (Int.toNat r171) (rowT.mk x246.xtxn (Ll.mk x246.xheld.ls) x246.xwaits p2))) c224] 59, row A223 (List.length (List.set (List.set (List.take (Int.toNat r171) p0.xrows.ls ++ ((rowT.mk p1 (Ll.mk ([])) false (LockD.mk (RangeD.mk ([]) ([])) false)) :: List.drop (Int.toNat r171) p0.xrows.ls)) (Int.toNat r171) (rowT.mk x231.xtxn (Ll.mk x231.xheld.ls) true x231.xwant)) (Int.toNat r171) (rowT.mk x246.xtxn (Ll.mk x246.xheld.ls) x246.xwaits p2))) c224 (List.flatMap rowD.cells (List.set (List.set (List.take (Int.toNat r171) d0x0 ++ ((rowD.mk p1 (Sv.mk none 0 ([])) false (LockD.mk (RangeD.mk ([]) ([])) false)) :: List.drop (Int.toNat r171) d0x0)) (Int.toNat r171) (rowD.mk x231.xtxn x231.xheld true x231.xwant)) (Int.toNat r171) (rowD.mk x246.xtxn x246.xheld x246.xwaits p2))) 72 6, sepL (List.flatMap rowD.own (List.set (List.set (List.take (Int.toNat r171) d0x0 ++ ((rowD.mk p1 (Sv.mk none 0 ([])) false (LockD.mk (RangeD.mk ([]) ([])) false)) :: List.drop (Int.toNat r171) d0x0)) (Int.toNat r171) (rowD.mk x231.xtxn x231.xheld true x231.xwant)) (Int.toNat r171) (rowD.mk x246.xtxn x246.xheld x246.xwaits p2)))] := by rw [← hn260]; exact H259
 have H262 := H261.pk [1, 0, 2, 3, 4]
 have e : locks_Table_Ask p0 p1 p2 = (2, [], [], 0, TableT.mk (Ll.mk (List.set (List.set (List.take (Int.toNat r171) p0.xrows.ls ++ ((rowT.mk p1 (Ll.mk ([])) false (LockD.mk (RangeD.mk ([]) ([])) false)) :: List.drop (Int.toNat r171) p0.xrows.ls)) (Int.toNat r171) (rowT.mk x231.xtxn (Ll.mk x231.xheld.ls) true x231.xwant)) (Int.toNat r171) (rowT.mk x246.xtxn (Ll.mk x246.xheld.ls) x246.xwaits p2)))) := et (bnd_of hr30) (et (ip h34) (et (bnd_of hr43) (et (ifF h47) (et (bnd_of hr58) (et (ifF h62) (et (bnd_of hr73) (et (iN h77) (et (bnd_of hr88) (et (iN h95) (et (bnd_of (getD_of hx158)) (et (iN h159) (et (bnd_of hr173) (et (ifF h179) (et (bnd_of (getD_of hX233)) (bnd_of (getD_of hX248))))))))))))))))
 obtain ⟨rfl, rfl, rfl, rfl, rfl⟩ := pj5 (e.symm.trans hr)
 exact ⟨none, 0, none, 0, A223, c224, (List.set (List.set (List.take (Int.toNat r171) d0x0 ++ ((rowD.mk p1 (Sv.mk none 0 ([])) false (LockD.mk (RangeD.mk ([]) ([])) false)) :: List.drop (Int.toNat r171) d0x0)) (Int.toNat r171) (rowD.mk x231.xtxn x231.xheld true x231.xwant)) (Int.toNat r171) (rowD.mk x246.xtxn x246.xheld x246.xwaits p2)), (by first | rfl | (rw [← hn260]; done) | (rw [← hn260]; rfl)), H262, (map_set' (map_set' (ins_abs (z := (rowT.mk p1 (Ll.mk ([])) false (LockD.mk (RangeD.mk ([]) ([])) false))) hd0x0 rfl) rfl) rfl)⟩
 refine jT (dT h34) (sr (Az rfl (Az rfl (Az rfl (An rfl (rt (tR (Fin.res (res4 rfl rfl rfl rfl rfl) ?_))))))))
 have H263 : Own w D w31 [row none 0 0 (List.flatMap (eN .u64) ([])) 30 1, blk g21 (LockD.cells p2) 34, blk g0 [.slice A0x0 p0.xrows.ls.length c0x0] 59, row A0x0 p0.xrows.ls.length c0x0 (List.flatMap rowD.cells d0x0) 72 6, sepL (List.flatMap rowD.own d0x0)] := H33.free (row_nil 30 1)
 have H264 : Own w D w31 [row none 0 0 (List.flatMap (eN .u64) ([])) 30 1, row none 0 0 (List.flatMap (eN .u64) ([])) 30 1, blk g21 (LockD.cells p2) 34, blk g0 [.slice A0x0 p0.xrows.ls.length c0x0] 59, row A0x0 p0.xrows.ls.length c0x0 (List.flatMap rowD.cells d0x0) 72 6, sepL (List.flatMap rowD.own d0x0)] := H263.free (row_nil 30 1)
 have H265 := H264.pk [1, 0, 3, 4, 5]
 have e : locks_Table_Ask p0 p1 p2 = (0, [], [], 21, p0) := et (bnd_of hr30) (iN h34)
 obtain ⟨rfl, rfl, rfl, rfl, rfl⟩ := pj5 (e.symm.trans hr)
 exact ⟨none, 0, none, 0, A0x0, c0x0, d0x0, rfl, H265, hd0x0⟩
end Go.Proofs.Ytggnajpokhaaiaa
