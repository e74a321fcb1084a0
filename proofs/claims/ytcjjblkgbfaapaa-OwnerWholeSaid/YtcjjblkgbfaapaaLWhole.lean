/-
 owner: the law OwnerWhole
-/
import Derived.Test.YtcjjblkgbfaapaaGe
import Derived.Test.YtcjjblkgbfaapaaWhP
namespace Go.Proofs.Ytcjjblkgbfaapaa
open Go.RowKit
set_option linter.unusedVariables false
set_option linter.unusedSectionVars false
set_option linter.unusedSimpArgs false
def w17_OwnerWhole_L1 (l0 : List OwnerD) (l84 : List PairD) (l87 : List (Ll ResultT)) (m90 : List (Int × Bool)) (x109 : PartT) : List PairD → List PairD → (List PairD)
  | [], l124 => l124
  | x139 :: q126, l124 => bnd (owner_Find l0 x139.xKey) fun yr153 => bnd (List.getD l0 (Int.toNat yr153.1) default) fun yx164 => if yx164.xShard = x109.xShard then w17_OwnerWhole_L1 l0 l84 l87 m90 x109 q126 (l124 ++ [x139]) else w17_OwnerWhole_L1 l0 l84 l87 m90 x109 q126 l124
def w17_OwnerWhole_L0 (l0 : List OwnerD) (l1 : List PairD) (l2 : List OpD) (r26 : Bool) (r36 : List PartT) (r55 : List PairD) (r56 : List ResultT) : List PartT → List PairD → List (Ll ResultT) → List (Int × Bool) → ((List PairD) × (List (Ll ResultT)) × (List (Int × Bool))) ⊕ Bool
  | [], l84, l87, m90 => Sum.inl (l84, l87, m90)
  | x109 :: q91, l84, l87, m90 => bnd (w17_OwnerWhole_L1 l0 l84 l87 m90 x109 l1 ([])) fun sLrbbbttLsL => bnd (op_Apply sLrbbbttLsL x109.xOps.ls) fun yr186 => if yr186.2.2 = 0 then bnd (mget m90 x109.xShard) fun yo209 => if Option.getD yo209 false = true then Sum.inr (false) else w17_OwnerWhole_L0 l0 l1 l2 r26 r36 r55 r56 q91 (l84 ++ yr186.1) (l87 ++ [(Ll.mk yr186.2.1)]) (mput m90 x109.xShard true) else Sum.inr (false)
def w17_OwnerWhole_L2 (l0 : List OwnerD) (l2 : List OpD) (r26 : Bool) (r36 : List PartT) (r55 : List PairD) (r56 : List ResultT) (l87 : List (Ll ResultT)) (m90 : List (Int × Bool)) : List PairD → List PairD → (List PairD)
  | [], l245 => l245
  | x260 :: q247, l245 => bnd (owner_Find l0 x260.xKey) fun yr275 => bnd (List.getD l0 (Int.toNat yr275.1) default) fun yx284 => bnd (mget m90 yx284.xShard) fun yo286 => if Option.getD yo286 false = true then w17_OwnerWhole_L2 l0 l2 r26 r36 r55 r56 l87 m90 q247 l245 else w17_OwnerWhole_L2 l0 l2 r26 r36 r55 r56 l87 m90 q247 (l245 ++ [x260])
def w17_OwnerWhole_L3 (r26 : Bool) (l245 : List PairD) : List PairD → Unit ⊕ Bool
  | [] => Sum.inl ()
  | x349 :: q338 => bnd (r04_Find l245 x349.xKey) fun yr362 => if yr362.2 = true then if yr362.1 ≠ x349.xValue then Sum.inr (false) else w17_OwnerWhole_L3 r26 l245 q338 else Sum.inr (false)
def w17_OwnerWhole (l0 : List OwnerD) (l1 : List PairD) (l2 : List OpD) : Bool :=
 bnd (w17_live) fun yr26 => bnd (owner_Cut l0 l2) fun yr36 => bnd (op_Apply l1 l2) fun yr55 => if yr36.2 = 0 then if yr55.2.2 = 0 then lp (w17_OwnerWhole_L0 l0 l1 l2 yr26 yr36.1 yr55.1 yr55.2.1 yr36.1 ([]) ([]) ([])) fun sLrbbbttL => bnd (w17_OwnerWhole_L2 l0 l2 yr26 yr36.1 yr55.1 yr55.2.1 sLrbbbttL.2.1 sLrbbbttL.2.2 l1 sLrbbbttL.1) fun sLrbbbttLaL => bnd (owner_Gather l2 yr36.1 sLrbbbttL.2.1) fun yr309 => if yr309.2 = 0 then bnd (r04_SameResults yr309.1 yr55.2.1) fun yr329 => if yr329 = true then if ((sLrbbbttLaL.length : Nat) : Int) = ((yr55.1.length : Nat) : Int) then lp (w17_OwnerWhole_L3 yr26 sLrbbbttLaL yr55.1) fun _ => yr26 else false else false else false else yr26 else yr26
set_option maxRecDepth 100000 in
theorem w17_OwnerWhole_ok (w : World) (D : Nat → Prop) (A0 : Option Addr) (n0 c0 : Nat) (l0 : List OwnerD) (A1 : Option Addr) (n1 c1 : Nat) (l1 : List PairD) (A2 : Option Addr) (n2 c2 : Nat) (l2 : List OpD) (r0 : Bool) (H : Own w D w []) (hx0 : Ro w D fun w' => Rds w' 2 A0 n0 (List.flatMap OwnerD.cells l0)) (hn0 : n0 = l0.length) (hl0 : l0.length * 24 ≤ 211106232532992) (hx1 : Ro w D fun w' => Rds w' 2 A1 n1 (List.flatMap PairD.cells l1)) (hn1 : n1 = l1.length) (hl1 : l1.length * 32 ≤ 211106232532992) (hx2 : Ro w D fun w' => Rds w' 6 A2 n2 (List.flatMap OpD.cells l2)) (hn2 : n2 = l2.length) (hl2 : l2.length * 80 ≤ 211106232532992) (hh0 : l0.length * 24 ≤ 140737488351232) (hh1 : l1.length * 32 ≤ 140737488351232) (hh2 : l2.length * 80 ≤ 140737488351232) (hr : w17_OwnerWhole l0 l1 l2 = r0) :
    Calls Try.prog 6 #[.slice A0 n0 c0, .slice A1 n1 c1, .slice A2 n2 c2] w (Ret fun v w' => v = .bool r0 ∧ Own w D w' []) := by
 subst hn0 hn1 hn2
 refine Calls.body (args := [.slice A0 l0.length c0, .slice A1 l1.length c1, .slice A2 l2.length c2]) Try.func6 rfl rfl rfl ?_
 show Wp _ _ _ [(0, .slice A0 l0.length c0), (1, .slice A1 l1.length c1), (2, .slice A2 l2.length c2)] _ _
 refine sr (Ar rfl ?_)
 obtain ⟨r26, hr27⟩ : ∃ q, w17_live = q := ⟨_, rfl⟩
 obtain ⟨D21, HP22, ro23, bk24, rr25⟩ := Own.enter0 H
 refine cl Try.call9 (w17_live_ok _ _ r26 HP22 hr27) ?_
 rintro _ w28 ⟨rfl, HQ29⟩
 have H30 := bk24 _ _ HQ29
 refine Ar rfl (Mz rfl (Mz rfl ?_))
 obtain ⟨⟨r36, r37⟩, hr38⟩ : ∃ q : (List PartT) × Int, owner_Cut l0 l2 = q := ⟨_, rfl⟩
 obtain ⟨D31, HP32, ro33, bk34, rr35⟩ := Own.enter0 H30
 refine cl Try.call26 (owner_Cut_ok _ _ A0 l0.length c0 l0 A2 l2.length c2 l2 r36 r37 HP32 (ro33 _ hx0) rfl (by omega) (ro33 _ hx2) rfl (by omega) hr38) ?_
 rintro _ w39 ⟨A42, c43, d44, rfl, HQ40, hd45⟩
 have H41 := bk34 _ _ HQ40
 have hl46 := abs_len hd45
 have hb47 := H41.rowC (i := 0) rfl
 have hz48 : owner_Check l0 = 0 ∨ ¬ (r37 = 0) := cut_chk hr38
 have hz49 : ¬ (r37 = 0) ∨ r36.length ≤ 5 := cut_small hr38
 refine Mz rfl (Kz (.slice A42 r36.length c43) (Kz (.int .i64 r37) (Az rfl (Ar rfl (Mz rfl (Mz rfl ?_))))))
 obtain ⟨⟨r55, r56, r57⟩, hr58⟩ : ∃ q : (List PairD) × (List ResultT) × Int, op_Apply l1 l2 = q := ⟨_, rfl⟩
 obtain ⟨D50, HP51, ro52, bk53, rr54⟩ := Own.enter0 H41
 refine cl Try.call27 (op_Apply_ok _ _ A1 l1.length c1 l1 A2 l2.length c2 l2 r55 r56 r57 HP51 (ro52 _ hx1) rfl (by omega) (ro52 _ hx2) rfl (by omega) (by first | omega | (simp only [List.length_cons, List.length_nil]; done) | (simp only [List.length_cons, List.length_nil, List.length_take, List.length_drop]; omega)) hr58) ?_
 rintro _ w59 ⟨A62, c63, A64, c65, d66, rfl, HQ60, hd67, hk68, hk69⟩
 have H61 := bk53 _ _ HQ60
 have hl70 := abs_len hd67
 have hb71 := H61.rowC (i := 0) rfl
 have hb72 := H61.rowC (i := 1) rfl
 replace hk68 : r55.length ≤ l1.length + l2.length := hk68
 replace hk69 : r56.length ≤ l2.length := hk69
 have hz73 : op_CheckMap l1 = 0 ∨ ¬ (r57 = 0) := app_chk hr58
 refine Mz rfl (Kz (.slice A62 r55.length c63) (Kz (.slice A64 r56.length c65) (Kz (.int .i64 r57) (Az rfl (Az rfl (An rfl (Wp.seq (sr (Mz rfl (fw (.bool (decide (¬ (r37 = 0)))) (Yl.bool (e := !(decide (r37 = 0))) yk decide_not.symm) (Mz rfl ?_)))))))))))
 by_cases h74 : r37 = 0
 refine gw (.int .i64 r57) (dF (not_not_intro h74)) (Yl.move rfl) (gw (.bool (decide (¬ (r57 = 0)))) (dF (not_not_intro h74)) (Yl.bool (e := !(decide (r57 = 0))) yk decide_not.symm) (fw (.bool (decide (¬ (r57 = 0)))) (Yl.pickF rfl (dF (not_not_intro h74)) rfl) (nt ?_)))
 by_cases h75 : r57 = 0
 refine jF (dF (not_not_intro h75)) (sk (sr (Ar rfl (Ar rfl ?_))))
 refine WL.do rfl (Do.makeMap (κ := Int) (ν := Bool) kI Value.bool H61 ?_)
 intro g76 w77 H78
 refine An rfl (Wp.seq (sr (Mz rfl (Kz (.int .i64 ((r36.length : Nat) : Int)) (Mn rfl (bo ?_))))))
 have H79 : Own w D w77 [row none 0 0 (List.flatMap PairD.cells ([])) 58 2, mapr g76 kI Value.bool ([]), row A62 r55.length c63 (List.flatMap PairD.cells r55) 58 2, row A64 r56.length c65 (List.flatMap ResultD.cells d66) 56 3, sepL (List.flatMap ResultD.own d66), row A42 r36.length c43 (List.flatMap PartD.cells d44) 47 3, sepL (List.flatMap PartD.own d44)] := H78.free (row_nil 58 2)
 have H80 : Own w D w77 [sepL (List.flatMap Row49D.own ([])), row none 0 0 (List.flatMap PairD.cells ([])) 58 2, mapr g76 kI Value.bool ([]), row A62 r55.length c63 (List.flatMap PairD.cells r55) 58 2, row A64 r56.length c65 (List.flatMap ResultD.cells d66) 56 3, sepL (List.flatMap ResultD.own d66), row A42 r36.length c43 (List.flatMap PartD.cells d44) 47 3, sepL (List.flatMap PartD.own d44)] := H79.sepNil
 have H81 : Own w D w77 [row none 0 0 (List.flatMap (Sv.enc (β := ResultD)) ([])) 49 1, sepL (List.flatMap Row49D.own ([])), row none 0 0 (List.flatMap PairD.cells ([])) 58 2, mapr g76 kI Value.bool ([]), row A62 r55.length c63 (List.flatMap PairD.cells r55) 58 2, row A64 r56.length c65 (List.flatMap ResultD.cells d66) 56 3, sepL (List.flatMap ResultD.own d66), row A42 r36.length c43 (List.flatMap PartD.cells d44) 47 3, sepL (List.flatMap PartD.own d44)] := H80.free (row_nil 49 1)
 have H92 := H81.pk [3, 4, 5, 6, 7, 8, 2, 0, 1]
 obtain ⟨I96, hI97⟩ : ∃ q : ((Option Addr) × Nat × (List PairD) × (Option Addr) × Nat × (List Row49D) × (List (Ll ResultT)) × Nat × (List (Int × Bool))) → World → Prop, q = fun (i : (Option Addr) × Nat × (List PairD) × (Option Addr) × Nat × (List Row49D) × (List (Ll ResultT)) × Nat × (List (Int × Bool))) w' => Own w D w' [mapr g76 kI Value.bool i.2.2.2.2.2.2.2.2, row A62 r55.length c63 (List.flatMap PairD.cells r55) 58 2, row A64 r56.length c65 (List.flatMap ResultD.cells d66) 56 3, sepL (List.flatMap ResultD.own d66), row A42 r36.length c43 (List.flatMap PartD.cells d44) 47 3, sepL (List.flatMap PartD.own d44), row i.1 i.2.2.1.length i.2.1 (List.flatMap PairD.cells i.2.2.1) 58 2, row i.2.2.2.1 i.2.2.2.2.2.2.1.length i.2.2.2.2.1 (List.flatMap (Sv.enc (β := ResultD)) i.2.2.2.2.2.1) 49 1, sepL (List.flatMap Row49D.own i.2.2.2.2.2.1)] ∧ (List.map Row49D.abs i.2.2.2.2.2.1 = i.2.2.2.2.2.2.1 ∧ i.2.2.2.2.2.2.2.1 ≤ r36.length ∧ i.2.2.2.2.2.2.1.length = i.2.2.2.2.2.2.2.1 ∧ i.2.2.2.2.2.2.1.length ≤ i.2.2.2.2.2.2.2.1 ∧ i.2.2.1.length ≤ dn l0 r55 (List.take i.2.2.2.2.2.2.2.1 r36) ∧ tt i.2.2.2.2.2.2.1 ≤ 120 * i.2.2.2.2.2.2.2.1 ∧ MI i.2.2.2.2.2.2.2.2 (List.take i.2.2.2.2.2.2.2.1 r36) ∧ w17_OwnerWhole_L0 l0 l1 l2 r26 r36 r55 r56 r36 ([]) ([]) ([]) = w17_OwnerWhole_L0 l0 l1 l2 r26 r36 r55 r56 (List.drop i.2.2.2.2.2.2.2.1 r36) i.2.2.1 i.2.2.2.2.2.2.1 i.2.2.2.2.2.2.2.2) := ⟨_, rfl⟩
 have dm98 : ∀ {A82 : Option Addr} {c83 : Nat} {l84 : List PairD} {A85 : Option Addr} {c86 : Nat} {d88 : List Row49D} {l87 : List (Ll ResultT)} {k89 : Nat} {m90 : List (Int × Bool)} {w' : World}, I96 (A82, c83, l84, A85, c86, d88, l87, k89, m90) w' ↔ Own w D w' [mapr g76 kI Value.bool m90, row A62 r55.length c63 (List.flatMap PairD.cells r55) 58 2, row A64 r56.length c65 (List.flatMap ResultD.cells d66) 56 3, sepL (List.flatMap ResultD.own d66), row A42 r36.length c43 (List.flatMap PartD.cells d44) 47 3, sepL (List.flatMap PartD.own d44), row A82 l84.length c83 (List.flatMap PairD.cells l84) 58 2, row A85 l87.length c86 (List.flatMap (Sv.enc (β := ResultD)) d88) 49 1, sepL (List.flatMap Row49D.own d88)] ∧ List.map Row49D.abs d88 = l87 ∧ k89 ≤ r36.length ∧ l87.length = k89 ∧ l87.length ≤ k89 ∧ l84.length ≤ dn l0 r55 (List.take k89 r36) ∧ tt l87 ≤ 120 * k89 ∧ MI m90 (List.take k89 r36) ∧ w17_OwnerWhole_L0 l0 l1 l2 r26 r36 r55 r56 r36 ([]) ([]) ([]) = w17_OwnerWhole_L0 l0 l1 l2 r26 r36 r55 r56 (List.drop k89 r36) l84 l87 m90 := by intros; subst hI97; exact Iff.rfl
 refine Wp.loop (fun i : (Option Addr) × Nat × (List PairD) × (Option Addr) × Nat × (List Row49D) × (List (Ll ResultT)) × Nat × (List (Int × Bool)) => [(6, .bool false), (13, .slice i.1 i.2.2.1.length i.2.1), (14, .slice i.2.2.2.1 i.2.2.2.2.2.2.1.length i.2.2.2.2.1), (60, .int .i64 ((i.2.2.2.2.2.2.2.1 : Nat) : Int)), (59, .int .i64 ((r36.length : Nat) : Int)), (58, .slice A42 r36.length c43), (15, .map (some g76)), (11, .slice A64 r56.length c65), (10, .slice A62 r55.length c63), (8, .slice A42 r36.length c43), (7, .bool r26), (0, .slice A0 l0.length c0), (1, .slice A1 l1.length c1), (2, .slice A2 l2.length c2)]) I96 (fun i => r36.length - i.2.2.2.2.2.2.2.1) (none, 0, [], none, 0, [], [], 0, []) ⟨rfl, rfl, rfl, rfl, rfl, rfl, rfl, rfl, rfl, rfl, rfl, rfl, rfl, rfl, trivial⟩ (dm98.2 ⟨H92, (show List.map Row49D.abs ([]) = ([]) ∧ 0 ≤ r36.length ∧ 0 = 0 ∧ 0 ≤ 0 ∧ 0 ≤ dn l0 r55 (List.take 0 r36) ∧ tt ([]) ≤ 120 * 0 ∧ MI ([]) (List.take 0 r36) ∧ w17_OwnerWhole_L0 l0 l1 l2 r26 r36 r55 r56 r36 ([]) ([]) ([]) = w17_OwnerWhole_L0 l0 l1 l2 r26 r36 r55 r56 (List.drop 0 r36) ([]) ([]) ([]) from ⟨by exact rfl, by omega, by omega, by omega, by first | exact Nat.zero_le _ | (rw [List.length_append]; assumption), by first | exact Nat.zero_le _ | (rw [tt_one]; omega), by first | exact mi_0 | exact mi_in (by assumption) (by assumption) rfl, rfl⟩)⟩) ?_
 rintro ⟨A82, c83, l84, A85, c86, d88, l87, k89, m90⟩ w93 hf95
 show Wp _ _ _ [(6, .bool false), (13, .slice A82 l84.length c83), (14, .slice A85 l87.length c86), (60, .int .i64 ((k89 : Nat) : Int)), (59, .int .i64 ((r36.length : Nat) : Int)), (58, .slice A42 r36.length c43), (15, .map (some g76)), (11, .slice A64 r56.length c65), (10, .slice A62 r55.length c63), (8, .slice A42 r36.length c43), (7, .bool r26), (0, .slice A0 l0.length c0), (1, .slice A1 l1.length c1), (2, .slice A2 l2.length c2)] _ _
 obtain ⟨H94, hi100, hi101, hi102, hi103, hi104, hi105, hi106, hq99⟩ := dm98.1 hf95
 have hl107 := abs_len hi100
 refine sr (Kz (.bool (decide (((k89 : Nat) : Int) < ((r36.length : Nat) : Int)))) (nt (Wp.seq ?_)))
 by_cases h108 : ((k89 : Nat) : Int) < ((r36.length : Nat) : Int)
 obtain ⟨x109, hx110⟩ := rds_at (ls := d44) (i := k89) PartD.len (by decide) (H94.rds (i := 4) rfl) (by first | omega | (simp; done) | (simp; omega))
 have hX111 := abs_at hd45 hx110
 have hb112 : x109.xOps.ls.length ≤ x109.xOps.c ∧ x109.xOps.ls.length ≤ 9223372036854775807 := own_rd H94 (i := 5) rfl (φ := fun _ => _) (sepL_mem (List.mem_flatMap.2 ⟨x109, List.mem_of_getElem? hx110, .head _⟩) row_le2)
 have hb113 : x109.xFrom.ls.length ≤ x109.xFrom.c ∧ x109.xFrom.ls.length ≤ 9223372036854775807 := own_rd H94 (i := 5) rfl (φ := fun _ => _) (sepL_mem (List.mem_flatMap.2 ⟨x109, List.mem_of_getElem? hx110, .tail _ (.head _)⟩) row_le2)
 have hz114 : x109.xOps.ls.length ≤ 24 := part_small (by assumption) (by omega) hX111
 have hd115 := drop_at hX111
 refine jT (dT h108) (sk (Wp.seq (bo (sr (fw (.pointer (some ⟨ab A42, ao A42 + k89 * 3, none⟩)) (Yl.indexAddr (El42) rfl rfl ((H94.rds (i := 4) rfl).addr (i := k89) (by omega)) (by omega)) (fw (.agg (PartD.cells x109).toArray) (Yl.load rfl (Lds.agg (cs := (PartD.cells x109)) Try.isAgg47 Try.sizeOf47 ((H94.rds (i := 4) rfl).elem PartD.len hx110 (by decide)))) ?_))))))
 refine npw [.int .i64 0, .slice none 0 0, .slice none 0 0] 47 H94 ?_
 intro g116 w117 H118
 refine sto (PartD.cells x109) 0 H118 Try.sizeOf47 ?_
 intro w119 H120
 refine ns (An rfl (Wp.seq (sr (Mz rfl (Kz (.int .i64 ((l1.length : Nat) : Int)) (Mn rfl (bo ?_)))))))
 have H121 : Own w D w119 [row none 0 0 (List.flatMap PairD.cells ([])) 58 2, blk g116 (PartD.cells x109) 47, mapr g76 kI Value.bool m90, row A62 r55.length c63 (List.flatMap PairD.cells r55) 58 2, row A64 r56.length c65 (List.flatMap ResultD.cells d66) 56 3, sepL (List.flatMap ResultD.own d66), row A42 r36.length c43 (List.flatMap PartD.cells d44) 47 3, sepL (List.flatMap PartD.own d44), row A82 l84.length c83 (List.flatMap PairD.cells l84) 58 2, row A85 l87.length c86 (List.flatMap (Sv.enc (β := ResultD)) d88) 49 1, sepL (List.flatMap Row49D.own d88)] := H120.free (row_nil 58 2)
 have H127 := H121.pk [1, 2, 3, 4, 5, 6, 7, 8, 9, 10, 0]
 obtain ⟨I131, hI132⟩ : ∃ q : ((Option Addr) × Nat × (List PairD) × Nat) → World → Prop, q = fun (i : (Option Addr) × Nat × (List PairD) × Nat) w' => Own w D w' [blk g116 (PartD.cells x109) 47, mapr g76 kI Value.bool m90, row A62 r55.length c63 (List.flatMap PairD.cells r55) 58 2, row A64 r56.length c65 (List.flatMap ResultD.cells d66) 56 3, sepL (List.flatMap ResultD.own d66), row A42 r36.length c43 (List.flatMap PartD.cells d44) 47 3, sepL (List.flatMap PartD.own d44), row A82 l84.length c83 (List.flatMap PairD.cells l84) 58 2, row A85 l87.length c86 (List.flatMap (Sv.enc (β := ResultD)) d88) 49 1, sepL (List.flatMap Row49D.own d88), row i.1 i.2.2.1.length i.2.1 (List.flatMap PairD.cells i.2.2.1) 58 2] ∧ (i.2.2.2 ≤ l1.length ∧ i.2.2.1.length ≤ i.2.2.2 ∧ i.2.2.1 = flS l0 x109.xShard (List.take i.2.2.2 l1) ∧ w17_OwnerWhole_L1 l0 l84 l87 m90 (PartD.abs x109) l1 ([]) = w17_OwnerWhole_L1 l0 l84 l87 m90 (PartD.abs x109) (List.drop i.2.2.2 l1) i.2.2.1) := ⟨_, rfl⟩
 have dm133 : ∀ {A122 : Option Addr} {c123 : Nat} {l124 : List PairD} {k125 : Nat} {w' : World}, I131 (A122, c123, l124, k125) w' ↔ Own w D w' [blk g116 (PartD.cells x109) 47, mapr g76 kI Value.bool m90, row A62 r55.length c63 (List.flatMap PairD.cells r55) 58 2, row A64 r56.length c65 (List.flatMap ResultD.cells d66) 56 3, sepL (List.flatMap ResultD.own d66), row A42 r36.length c43 (List.flatMap PartD.cells d44) 47 3, sepL (List.flatMap PartD.own d44), row A82 l84.length c83 (List.flatMap PairD.cells l84) 58 2, row A85 l87.length c86 (List.flatMap (Sv.enc (β := ResultD)) d88) 49 1, sepL (List.flatMap Row49D.own d88), row A122 l124.length c123 (List.flatMap PairD.cells l124) 58 2] ∧ k125 ≤ l1.length ∧ l124.length ≤ k125 ∧ l124 = flS l0 x109.xShard (List.take k125 l1) ∧ w17_OwnerWhole_L1 l0 l84 l87 m90 (PartD.abs x109) l1 ([]) = w17_OwnerWhole_L1 l0 l84 l87 m90 (PartD.abs x109) (List.drop k125 l1) l124 := by intros; subst hI132; exact Iff.rfl
 refine Wp.loop (fun i : (Option Addr) × Nat × (List PairD) × Nat => [(18, .slice i.1 i.2.2.1.length i.2.1), (66, .int .i64 ((i.2.2.2 : Nat) : Int)), (65, .int .i64 ((l1.length : Nat) : Int)), (64, .slice A1 l1.length c1), (17, .pointer (some ⟨g116, 0, none⟩)), (6, .bool false), (13, .slice A82 l84.length c83), (14, .slice A85 l87.length c86), (60, .int .i64 ((k89 : Nat) : Int)), (59, .int .i64 ((r36.length : Nat) : Int)), (58, .slice A42 r36.length c43), (15, .map (some g76)), (11, .slice A64 r56.length c65), (10, .slice A62 r55.length c63), (8, .slice A42 r36.length c43), (7, .bool r26), (0, .slice A0 l0.length c0), (1, .slice A1 l1.length c1), (2, .slice A2 l2.length c2)]) I131 (fun i => l1.length - i.2.2.2) (none, 0, [], 0) ⟨rfl, rfl, rfl, rfl, rfl, rfl, rfl, rfl, rfl, rfl, rfl, rfl, rfl, rfl, rfl, rfl, rfl, rfl, rfl, trivial⟩ (dm133.2 ⟨H127, (show 0 ≤ l1.length ∧ 0 ≤ 0 ∧ ([]) = flS l0 x109.xShard (List.take 0 l1) ∧ w17_OwnerWhole_L1 l0 l84 l87 m90 (PartD.abs x109) l1 ([]) = w17_OwnerWhole_L1 l0 l84 l87 m90 (PartD.abs x109) (List.drop 0 l1) ([]) from ⟨by omega, by omega, by first | exact fl_0 | exact fl_in (by assumption) (by assumption) (by assumption) (by assumption) (by assumption) | exact fl_out (by assumption) (by assumption) (by assumption) (by assumption) (by assumption), rfl⟩)⟩) ?_
 rintro ⟨A122, c123, l124, k125⟩ w128 hf130
 show Wp _ _ _ [(18, .slice A122 l124.length c123), (66, .int .i64 ((k125 : Nat) : Int)), (65, .int .i64 ((l1.length : Nat) : Int)), (64, .slice A1 l1.length c1), (17, .pointer (some ⟨g116, 0, none⟩)), (6, .bool false), (13, .slice A82 l84.length c83), (14, .slice A85 l87.length c86), (60, .int .i64 ((k89 : Nat) : Int)), (59, .int .i64 ((r36.length : Nat) : Int)), (58, .slice A42 r36.length c43), (15, .map (some g76)), (11, .slice A64 r56.length c65), (10, .slice A62 r55.length c63), (8, .slice A42 r36.length c43), (7, .bool r26), (0, .slice A0 l0.length c0), (1, .slice A1 l1.length c1), (2, .slice A2 l2.length c2)] _ _
 obtain ⟨H129, hi135, hi136, hi137, hq134⟩ := dm133.1 hf130
 refine sr (Kz (.bool (decide (((k125 : Nat) : Int) < ((l1.length : Nat) : Int)))) (nt (Wp.seq ?_)))
 by_cases h138 : ((k125 : Nat) : Int) < ((l1.length : Nat) : Int)
 obtain ⟨x139, hx140⟩ := rds_at (ls := l1) (i := k125) PairD.len (by decide) (H129.ro hx1) (by first | omega | (simp; done) | (simp; omega))
 have hz141 : 1 ≤ x139.xKey.length ∧ x139.xKey.length ≤ 12 := key_len (by omega) hx140
 have hd142 := drop_at hx140
 refine jT (dT h138) (sk (Wp.seq (bo (sr (fw (.pointer (some ⟨ab A1, ao A1 + k125 * 2, none⟩)) (Yl.indexAddr (El54) rfl rfl ((H129.ro hx1).addr (i := k125) (by omega)) (by omega)) (fw (.agg (PairD.cells x139).toArray) (Yl.load rfl (Lds.agg (cs := (PairD.cells x139)) Try.isAgg58 Try.sizeOf58 ((H129.ro hx1).elem PairD.len hx140 (by decide)))) ?_))))))
 refine npw [.string ⟨List.toArray ([])⟩, .string ⟨List.toArray ([])⟩] 58 H129 ?_
 intro g143 w144 H145
 refine sto (PairD.cells x139) 0 H145 Try.sizeOf58 ?_
 intro w146 H147
 refine ns (Mz rfl (Kz (.pointer (some ⟨g143, 0, none⟩)) (Lz (.string ⟨List.toArray x139.xKey⟩) H147 0 Try.isAgg9 ?_)))
 obtain ⟨⟨r153, r154⟩, hr155⟩ : ∃ q : Int × Int, owner_Find l0 x139.xKey = q := ⟨_, rfl⟩
 obtain ⟨D148, HP149, ro150, bk151, rr152⟩ := Own.enter0 H147
 refine cl Try.call10 (owner_Find_ok _ _ A0 l0.length c0 l0 x139.xKey r153 r154 HP149 (ro150 _ hx0) rfl (by omega) hr155) ?_
 rintro _ w156 ⟨rfl, HQ157, hk159, hk160, hk161⟩
 have H158 := bk151 _ _ HQ157
 replace hk159 : ¬ (r154 = 0) ∨ (0 ≤ r153 ∧ r153 < ((l0.length : Nat) : Int) ∧ l0.length ≤ 6) := hk159
 replace hk160 : ¬ (owner_Check l0 = 0) ∨ x139.xKey.length < 1 ∨ x139.xKey.length > 12 ∨ (0 ≤ r153 ∧ r153 < ((l0.length : Nat) : Int)) := hk160
 replace hk161 : ¬ (r154 = 0) ∨ owner_Check l0 = 0 := hk161
 refine Mz rfl (Kz (.int .i64 r153) (Kz (.int .i64 r154) (Az rfl (An rfl (Wp.seq ?_)))))
 have H163 := H158.drew
 refine Wp.drawnX [] (fun W => ∃ L', Own w D W ([blk g143 (PairD.cells x139) 58, blk g116 (PartD.cells x109) 47, mapr g76 kI Value.bool m90, row A62 r55.length c63 (List.flatMap PairD.cells r55) 58 2, row A64 r56.length c65 (List.flatMap ResultD.cells d66) 56 3, sepL (List.flatMap ResultD.own d66), row A42 r36.length c43 (List.flatMap PartD.cells d44) 47 3, sepL (List.flatMap PartD.own d44), row A82 l84.length c83 (List.flatMap PairD.cells l84) 58 2, row A85 l87.length c86 (List.flatMap (Sv.enc (β := ResultD)) d88) 49 1, sepL (List.flatMap Row49D.own d88), row A122 l124.length c123 (List.flatMap PairD.cells l124) 58 2] ++ L')) (by kernel_rfl) (by kernel_rfl) (NoP.then (NoP.block (NoP.then (NoP.then (NoP.block (NoP.then (NoP.block (NoP.then (NoP.then (NoP.block (NoP.then NoP.base))))))))))) ⟨_, H163⟩ ?_
 revert H163
 generalize World.drew w156 = w162
 intro H163
 refine GX.take (v := .slice A0 l0.length c0) (rs := []) 0 rfl (by kernel_rfl) (fun _ _ => Yl.move rfl) (GX.take (v := .int .i64 ((Int.toNat r153 : Nat) : Int)) (rs := []) 1 rfl (by kernel_rfl) (fun _ _ => Yl.int (e := r153) (Yl.move rfl) (by omega)) ?_)
 obtain ⟨x164, hx165⟩ := at_of (ls := l0) (i := Int.toNat r153) (by first | omega | (simp; done) | (simp; omega))
 refine GX.take (v := .pointer (some ⟨ab A0, ao A0 + (Int.toNat r153) * 2, none⟩)) (rs := []) 2 rfl (by kernel_rfl) (fun _ ⟨_, H9⟩ => Yl.indexAddr (El22) rfl rfl ((H9.ro hx0).addr (i := Int.toNat r153) (by omega)) (by omega)) (GX.take (v := .pointer (some ⟨ab A0, ao A0 + (Int.toNat r153) * 2 + 1, none⟩)) (rs := []) 3 rfl (by kernel_rfl) (fun _ _ => yk) (GX.take (v := .int .i64 x164.xShard) (rs := []) 4 rfl (by kernel_rfl) (fun _ ⟨_, H9⟩ => Yl.load rfl (Lds.one Try.isAgg3 (((H9.ro hx0).elem OwnerD.len hx165 (by decide)).at_ (k := 1) rfl))) (GX.take (v := .pointer (some ⟨g116, 0, none⟩)) (rs := []) 5 rfl (by kernel_rfl) (fun _ _ => yk) (GX.take (v := .int .i64 x109.xShard) (rs := []) 6 rfl (by kernel_rfl) (fun _ ⟨_, H9⟩ => Yl.load rfl (Lds.one Try.isAgg3 (Cls.of (H9.cls (i := 1) rfl) rfl))) (GX.take (v := .bool (decide (x164.xShard = x109.xShard))) (rs := []) 7 rfl (by kernel_rfl) (fun _ _ => yk) (GX.done (by kernel_rfl) (Fin.then ?_)))))))
 by_cases h166 : x164.xShard = x109.xShard
 refine jT (dT h166) (Wp.region (Mz rfl (La (PairD.cells x139) H163 0 Try.isAgg58 Try.sizeOf58 ?_)))
 refine nrw (PairD.cells x139) 58 2 1 H163 ?_
 intro A167 w168 H169
 replace H169 := Own.reh (y := row A167 1 1 (List.flatMap PairD.cells ([x139])) 58 2) rfl H169
 have H170 := H169.pk [12, 0, 1, 2, 3, 4, 5, 6, 7, 8, 9, 10, 11]
 refine WL.do rfl (Do.appendW (k := l124.length) (m := 1) (El54) H170 rfl rfl (src_of Try.underlying54 (H170.rds (i := 1) rfl) (flat_one PairD.one ([x139]))) rfl (by omega) (s := List.length (l124 ++ [x139])) (by first | omega | (simp only [List.length_append, List.length_cons, List.length_nil] <;> omega)) (List.flatMap_append).symm ?_)
 intro A171 c172 w173 H174
 have hl175 : List.length (l124 ++ [x139]) = l124.length + 1 := by simp only [List.length_append, List.length_cons, List.length_nil]
 refine Az rfl (WL.nil (bN (Fin.then ?_)))
 have H176 := H174.pk [0, 3, 4, 5, 6, 7, 8, 9, 10, 11, 12]
 refine Wp.region (fw (.int .i64 ((k125 + 1 : Nat) : Int)) (Yl.int (e := IntKind.i64.wrap (((k125 : Nat) : Int) + 1)) yk (by rw [IntWalk.i64_in _ (by omega)]; omega)) (Mz rfl (WL.nil ?_)))
 have H177 := H176.pk [1, 2, 3, 4, 5, 6, 7, 8, 9, 10, 0]
 exact Fin.round (A171, c172, (l124 ++ [x139]), k125 + 1) ⟨rfl, rfl, rfl, rfl, rfl, rfl, rfl, rfl, rfl, rfl, rfl, rfl, rfl, rfl, rfl, rfl, rfl, rfl, rfl, trivial⟩ (dm133.2 ⟨H177, by omega, by omega, by first | exact fl_0 | exact fl_in (by assumption) (by assumption) (by assumption) (by assumption) (by assumption) | exact fl_out (by assumption) (by assumption) (by assumption) (by assumption) (by assumption), et (hq134) (et (congrArg (fun q => w17_OwnerWhole_L1 l0 l84 l87 m90 (PartD.abs x109) q l124) hd142) (et (bnd_of hr155) (et (bnd_of (getD_of hx165)) (ip h166))))⟩) (by show l1.length - (k125 + 1) < l1.length - k125; omega)
 refine jF (dF h166) (Wp.skip (bN (Fin.then ?_)))
 have H178 := H163.pk [1, 2, 3, 4, 5, 6, 7, 8, 9, 10, 11]
 refine Wp.region (fw (.int .i64 ((k125 + 1 : Nat) : Int)) (Yl.int (e := IntKind.i64.wrap (((k125 : Nat) : Int) + 1)) yk (by rw [IntWalk.i64_in _ (by omega)]; omega)) (Mz rfl (WL.nil ?_)))
 have H179 := H178.pk [0, 1, 2, 3, 4, 5, 6, 7, 8, 9, 10]
 exact Fin.round (A122, c123, l124, k125 + 1) ⟨rfl, rfl, rfl, rfl, rfl, rfl, rfl, rfl, rfl, rfl, rfl, rfl, rfl, rfl, rfl, rfl, rfl, rfl, rfl, trivial⟩ (dm133.2 ⟨H179, by omega, by omega, by first | exact fl_0 | exact fl_in (by assumption) (by assumption) (by assumption) (by assumption) (by assumption) | exact fl_out (by assumption) (by assumption) (by assumption) (by assumption) (by assumption), et (hq134) (et (congrArg (fun q => w17_OwnerWhole_L1 l0 l84 l87 m90 (PartD.abs x109) q l124) hd142) (et (bnd_of hr155) (et (bnd_of (getD_of hx165)) (iN h166))))⟩) (by show l1.length - (k125 + 1) < l1.length - k125; omega)
 refine jF (dF h138) (Wp.exit (Fin.thenX ?_))
 have hL180 : w17_OwnerWhole_L1 l0 l84 l87 m90 (PartD.abs x109) l1 ([]) = l124 := et (hq134) (et (congrArg (fun q => w17_OwnerWhole_L1 l0 l84 l87 m90 (PartD.abs x109) q l124) (drop_end (ls := l1) (i := k125) (by omega))) rfl)
 refine Fin.thenX (Fin.blockX (Fin.then (sr (Mz rfl (Kz (.pointer (some ⟨g116, 1, none⟩)) (Lz (.slice x109.xOps.A x109.xOps.ls.length x109.xOps.c) H129 0 Try.isAgg41 ?_))))))
 obtain ⟨⟨r186, r187, r188⟩, hr189⟩ : ∃ q : (List PairD) × (List ResultT) × Int, op_Apply l124 x109.xOps.ls = q := ⟨_, rfl⟩
 obtain ⟨D181, HP182, ro183, bk184, rr185⟩ := Own.enter0 H129
 refine cl Try.call27 (op_Apply_ok _ _ A122 l124.length c123 l124 x109.xOps.A x109.xOps.ls.length x109.xOps.c x109.xOps.ls r186 r187 r188 HP182 (rr185 _ 10 _ rfl row_rds) rfl (by omega) (rr185 _ 6 _ rfl (sepL_mem (List.mem_flatMap.2 ⟨x109, List.mem_of_getElem? hx110, .head _⟩) row_rds)) rfl (by omega) (by first | omega | (simp only [List.length_cons, List.length_nil]; done) | (simp only [List.length_cons, List.length_nil, List.length_take, List.length_drop]; omega)) hr189) ?_
 rintro _ w190 ⟨A193, c194, A195, c196, d197, rfl, HQ191, hd198, hk199, hk200⟩
 have H192 := bk184 _ _ HQ191
 have hl201 := abs_len hd198
 have hb202 := H192.rowC (i := 0) rfl
 have hb203 := H192.rowC (i := 1) rfl
 replace hk199 : r186.length ≤ l124.length + x109.xOps.ls.length := hk199
 replace hk200 : r187.length ≤ x109.xOps.ls.length := hk200
 obtain ⟨hz204, hz205⟩ : l84.length + r186.length ≤ dn l0 r55 (List.take (k89 + 1) r36) ∧ dn l0 r55 (List.take (k89 + 1) r36) ≤ r55.length := grow (by assumption) (by omega) (by assumption) (by omega) hX111 (fl_all (by assumption) (by omega)) hr189 (by assumption)
 have hz206 : tot r187 ≤ 5 * x109.xOps.ls.length := app_tot hr189
 refine Mz rfl (Kz (.slice A193 r186.length c194) (Kz (.slice A195 r187.length c196) (Kz (.int .i64 r188) (Az rfl (Az rfl (An rfl (Wp.seq (Wp.seq ?_))))))))
 have H207 := H192.pk [0, 1, 2, 3, 4, 5, 6, 7, 8, 9, 10, 11, 12]
 refine Wp.region (Mz rfl (fw (.bool (decide (¬ (r188 = 0)))) (Yl.bool (e := !(decide (r188 = 0))) yk decide_not.symm) (Mz rfl ?_)))
 by_cases h208 : r188 = 0
 refine gw (.map (some g76)) (dF (not_not_intro h208)) (Yl.move rfl) (gw (.pointer (some ⟨g116, 0, none⟩)) (dF (not_not_intro h208)) yk (gw (.int .i64 x109.xShard) (dF (not_not_intro h208)) (Yl.load rfl (Lds.one Try.isAgg3 (Cls.of (H207.cls (i := 3) rfl) rfl))) ?_))
 obtain ⟨o209, ho210⟩ : ∃ q, mget m90 x109.xShard = q := ⟨_, rfl⟩
 refine gw (.bool (Option.getD o209 false)) (dF (not_not_intro h208)) (Yl.lookup (k := x109.xShard) (d0 := false) (i := 4) H207 rfl (eK_int Try.underlying3) Try.underlying64 (fun _ => by kernel_rfl) rfl rfl ho210) (fw (.bool (Option.getD o209 false)) (Yl.pickF rfl (dF (not_not_intro h208)) rfl) (Mz rfl ?_))
 rcases Bool.eq_false_or_eq_true (Option.getD o209 false) with h211 | h211
 refine Sz h211 (Sz h211 (Sz h211 (Sz h211 (fw (.bool true) (Yl.pickT rfl h211 rfl) (nt (jt (sr (An rfl (rt (tR (bR (tR (tR (bR (tR (rs ?_))))))))))))))))
 have H212 := H207.pk []
 obtain rfl : _ = false := hr.symm.trans (et (bnd_of hr27) (et (bnd_of hr38) (et (bnd_of hr58) (et (ip h74) (et (ip h75) (lp_r (et (hq99) (et (congrArg (fun q => w17_OwnerWhole_L0 l0 l1 l2 r26 r36 r55 r56 q l84 l87 m90) hd115) (et (bnd_of hL180) (et (bnd_of hr189) (et (ip h208) (et (bnd_of ho210) (ip h211)))))))))))))
 exact ⟨rfl, H212⟩
 refine Gz (.pointer (some ⟨g116, 1, none⟩)) h211 (Gl (.slice x109.xOps.A x109.xOps.ls.length x109.xOps.c) h211 H207 3 Try.isAgg41 (Gz (.int .i64 ((x109.xOps.ls.length : Nat) : Int)) h211 (Gz (.bool (decide (((x109.xOps.ls.length : Nat) : Int) > 24))) h211 (fw (.bool (decide (((x109.xOps.ls.length : Nat) : Int) > 24))) (Yl.pickF rfl h211 rfl) (nt ?_)))))
 have hb213 : (decide (((x109.xOps.ls.length : Nat) : Int) > 24)) = false := (dF (by omega))
 refine jF hb213 (sk (sr (Mz rfl (Kz (.pointer (some ⟨g116, 0, none⟩)) (Lz (.int .i64 x109.xShard) H207 3 Try.isAgg3 ?_)))))
 have H214 := H207.pk [4, 0, 1, 2, 3, 5, 6, 7, 8, 9, 10, 11, 12]
 refine WL.do0 (Do.mapUpdate (k := x109.xShard) (v := true) H214 (eK_int Try.underlying3) Try.underlying64 rfl rfl rfl ?_)
 intro w215 H216
 refine nt (Wp.seq ?_)
 have H217 := H216.pk [0, 1, 2, 3, 5, 6, 7, 8, 9, 10, 11, 12]
 refine Wp.region (Mz rfl (Mz rfl ?_))
 refine nrw [.slice A195 r187.length c196] 49 1 1 H217 ?_
 intro A218 w219 H220
 replace H220 := Own.reh (y := row A218 1 1 (List.flatMap (Sv.enc (β := ResultD)) ([(Sv.mk A195 c196 d197)])) 49 1) (congrArg (fun z9 => row A218 1 1 [.slice A195 z9 c196] 49 1) (abs_len hd198).symm) H220
 have H221 := H220.pk [11, 12, 3, 4, 0, 1, 2, 5, 6, 7, 8, 9, 10]
 refine WL.do rfl (Do.appendW (k := l87.length) (m := 1) (El43) H221 rfl rfl (src_of Try.underlying43 (H221.rds (i := 4) rfl) (flat_one (fun _ => one_of rfl) ([(Sv.mk A195 c196 d197)]))) rfl (by omega) (s := List.length (l87 ++ [(Ll.mk r187)])) (by first | omega | (simp only [List.length_append, List.length_cons, List.length_nil] <;> omega)) (List.flatMap_append).symm ?_)
 intro A222 c223 w224 H225
 have H226 := H225.pk [2, 0, 1, 3, 4, 5, 6, 7, 8, 9, 10, 11, 12]
 have H227 : Own w D w224 [row A195 d197.length c196 (List.flatMap ResultD.cells d197) 56 3, row A222 (List.length (l87 ++ [(Ll.mk r187)])) c223 (List.flatMap (Sv.enc (β := ResultD)) (d88 ++ [(Sv.mk A195 c196 d197)])) 49 1, sepL (List.flatMap Row49D.own d88), sepL (List.flatMap ResultD.own d197), row A218 1 1 (List.flatMap (Sv.enc (β := ResultD)) ([(Sv.mk A195 c196 d197)])) 49 1, mapr g76 kI Value.bool (mput m90 x109.xShard true), row A193 r186.length c194 (List.flatMap PairD.cells r186) 58 2, row A62 r55.length c63 (List.flatMap PairD.cells r55) 58 2, row A64 r56.length c65 (List.flatMap ResultD.cells d66) 56 3, sepL (List.flatMap ResultD.own d66), row A42 r36.length c43 (List.flatMap PartD.cells d44) 47 3, sepL (List.flatMap PartD.own d44), row A82 l84.length c83 (List.flatMap PairD.cells l84) 58 2] := Own.reh (y := row A195 d197.length c196 (List.flatMap ResultD.cells d197) 56 3) (congrArg (fun z9 => row A195 z9 c196 (List.flatMap ResultD.cells d197) 56 3) (abs_len hd198).symm) H226
 have H228 := H227.pk [2, 0, 3, 1, 4, 5, 6, 7, 8, 9, 10, 11, 12]
 have H229 : Own w D w224 [sepL (List.flatMap Row49D.own (d88 ++ [(Sv.mk A195 c196 d197)])), row A222 (List.length (l87 ++ [(Ll.mk r187)])) c223 (List.flatMap (Sv.enc (β := ResultD)) (d88 ++ [(Sv.mk A195 c196 d197)])) 49 1, row A218 1 1 (List.flatMap (Sv.enc (β := ResultD)) ([(Sv.mk A195 c196 d197)])) 49 1, mapr g76 kI Value.bool (mput m90 x109.xShard true), row A193 r186.length c194 (List.flatMap PairD.cells r186) 58 2, row A62 r55.length c63 (List.flatMap PairD.cells r55) 58 2, row A64 r56.length c65 (List.flatMap ResultD.cells d66) 56 3, sepL (List.flatMap ResultD.own d66), row A42 r36.length c43 (List.flatMap PartD.cells d44) 47 3, sepL (List.flatMap PartD.own d44), row A82 l84.length c83 (List.flatMap PairD.cells l84) 58 2] := H228.sepAdd (L2 := [row A195 d197.length c196 (List.flatMap ResultD.cells d197) 56 3, sepL (List.flatMap ResultD.own d197)]) (List.flatMap_append (f := Row49D.own) (xs := d88) (ys := [(Sv.mk A195 c196 d197)])).symm
 have hl230 : List.length (l87 ++ [(Ll.mk r187)]) = l87.length + 1 := by simp only [List.length_append, List.length_cons, List.length_nil]
 have hl231 := abs_len (abs_app (es := [(Sv.mk A195 c196 d197)]) (ms := [(Ll.mk r187)]) hi100 (congrArg (fun z9 => [Ll.mk z9]) hd198))
 refine An rfl ?_
 have H232 := H229.pk [0, 1, 3, 4, 5, 6, 7, 8, 9, 10]
 refine Wp.region (Mz rfl (Mz rfl ?_))
 have H233 := H232.pk [9, 0, 1, 2, 3, 4, 5, 6, 7, 8]
 refine WL.do rfl (Do.appendW (k := l84.length) (m := r186.length) (El54) H233 rfl rfl (src_of Try.underlying54 (H233.rds (i := 4) rfl) (flat_one PairD.one r186)) rfl (by omega) (s := List.length (l84 ++ r186)) (by first | omega | (simp only [List.length_append, List.length_cons, List.length_nil] <;> omega)) (List.flatMap_append).symm ?_)
 intro A234 c235 w236 H237
 have hl238 : List.length (l84 ++ r186) = l84.length + r186.length := by simp only [List.length_append, List.length_cons, List.length_nil]
 refine Az rfl (WL.nil (bN (Fin.then ?_)))
 have H239 := H237.pk [0, 1, 2, 3, 5, 6, 7, 8, 9]
 refine Wp.region (fw (.int .i64 ((k89 + 1 : Nat) : Int)) (Yl.int (e := IntKind.i64.wrap (((k89 : Nat) : Int) + 1)) yk (by rw [IntWalk.i64_in _ (by omega)]; omega)) (Mz rfl (WL.nil ?_)))
 have H240 := H239.pk [3, 4, 5, 6, 7, 8, 0, 2, 1]
 exact Fin.round (A234, c235, (l84 ++ r186), A222, c223, (d88 ++ [(Sv.mk A195 c196 d197)]), (l87 ++ [(Ll.mk r187)]), k89 + 1, (mput m90 x109.xShard true)) ⟨rfl, rfl, rfl, rfl, rfl, rfl, rfl, rfl, rfl, rfl, rfl, rfl, rfl, rfl, trivial⟩ (dm98.2 ⟨H240, by exact (abs_app (es := [(Sv.mk A195 c196 d197)]) (ms := [(Ll.mk r187)]) hi100 (congrArg (fun z9 => [Ll.mk z9]) hd198)), by omega, by omega, by omega, by first | exact Nat.zero_le _ | (rw [List.length_append]; assumption), by first | exact Nat.zero_le _ | (rw [tt_one]; omega), by first | exact mi_0 | exact mi_in (by assumption) (by assumption) rfl, et (hq99) (et (congrArg (fun q => w17_OwnerWhole_L0 l0 l1 l2 r26 r36 r55 r56 q l84 l87 m90) hd115) (et (bnd_of hL180) (et (bnd_of hr189) (et (ip h208) (et (bnd_of ho210) (ifF h211))))))⟩) (by show r36.length - (k89 + 1) < r36.length - k89; omega)
 refine Sz (dT h208) (Sz (dT h208) (Sz (dT h208) (Sz (dT h208) (fw (.bool true) (Yl.pickT rfl (dT h208) rfl) (Mz rfl (Sz rfl (Sz rfl (Sz rfl (Sz rfl (fw (.bool true) (Yl.pickT rfl rfl rfl) (nt (jt (sr (An rfl (rt (tR (bR (tR (tR (bR (tR (rs ?_))))))))))))))))))))))
 have H241 := H207.pk []
 obtain rfl : _ = false := hr.symm.trans (et (bnd_of hr27) (et (bnd_of hr38) (et (bnd_of hr58) (et (ip h74) (et (ip h75) (lp_r (et (hq99) (et (congrArg (fun q => w17_OwnerWhole_L0 l0 l1 l2 r26 r36 r55 r56 q l84 l87 m90) hd115) (et (bnd_of hL180) (et (bnd_of hr189) (iN h208)))))))))))
 exact ⟨rfl, H241⟩
 refine jF (dF h108) (Wp.exit (Fin.thenX ?_))
 have hL242 : w17_OwnerWhole_L0 l0 l1 l2 r26 r36 r55 r56 r36 ([]) ([]) ([]) = Sum.inl (l84, l87, m90) := et (hq99) (et (congrArg (fun q => w17_OwnerWhole_L0 l0 l1 l2 r26 r36 r55 r56 q l84 l87 m90) (drop_end (ls := r36) (i := k89) (by omega))) rfl)
 refine Fin.thenX (Fin.blockX (Fin.then (Wp.seq (sr (Mz rfl (Kz (.int .i64 ((l1.length : Nat) : Int)) (Mn rfl (bo ?_))))))))
 have H248 := H94.pk [0, 1, 2, 3, 4, 5, 7, 8, 6]
 obtain ⟨I252, hI253⟩ : ∃ q : ((Option Addr) × Nat × (List PairD) × Nat) → World → Prop, q = fun (i : (Option Addr) × Nat × (List PairD) × Nat) w' => Own w D w' [mapr g76 kI Value.bool m90, row A62 r55.length c63 (List.flatMap PairD.cells r55) 58 2, row A64 r56.length c65 (List.flatMap ResultD.cells d66) 56 3, sepL (List.flatMap ResultD.own d66), row A42 r36.length c43 (List.flatMap PartD.cells d44) 47 3, sepL (List.flatMap PartD.own d44), row A85 l87.length c86 (List.flatMap (Sv.enc (β := ResultD)) d88) 49 1, sepL (List.flatMap Row49D.own d88), row i.1 i.2.2.1.length i.2.1 (List.flatMap PairD.cells i.2.2.1) 58 2] ∧ (i.2.2.2 ≤ l1.length ∧ i.2.2.1.length ≤ l84.length + i.2.2.2 ∧ i.2.2.1.length ≤ dn l0 r55 r36 + nd l0 r36 (List.take i.2.2.2 l1) ∧ w17_OwnerWhole_L2 l0 l2 r26 r36 r55 r56 l87 m90 l1 l84 = w17_OwnerWhole_L2 l0 l2 r26 r36 r55 r56 l87 m90 (List.drop i.2.2.2 l1) i.2.2.1) := ⟨_, rfl⟩
 have dm254 : ∀ {A243 : Option Addr} {c244 : Nat} {l245 : List PairD} {k246 : Nat} {w' : World}, I252 (A243, c244, l245, k246) w' ↔ Own w D w' [mapr g76 kI Value.bool m90, row A62 r55.length c63 (List.flatMap PairD.cells r55) 58 2, row A64 r56.length c65 (List.flatMap ResultD.cells d66) 56 3, sepL (List.flatMap ResultD.own d66), row A42 r36.length c43 (List.flatMap PartD.cells d44) 47 3, sepL (List.flatMap PartD.own d44), row A85 l87.length c86 (List.flatMap (Sv.enc (β := ResultD)) d88) 49 1, sepL (List.flatMap Row49D.own d88), row A243 l245.length c244 (List.flatMap PairD.cells l245) 58 2] ∧ k246 ≤ l1.length ∧ l245.length ≤ l84.length + k246 ∧ l245.length ≤ dn l0 r55 r36 + nd l0 r36 (List.take k246 l1) ∧ w17_OwnerWhole_L2 l0 l2 r26 r36 r55 r56 l87 m90 l1 l84 = w17_OwnerWhole_L2 l0 l2 r26 r36 r55 r56 l87 m90 (List.drop k246 l1) l245 := by intros; subst hI253; exact Iff.rfl
 refine Wp.loop (fun i : (Option Addr) × Nat × (List PairD) × Nat => [(13, .slice i.1 i.2.2.1.length i.2.1), (125, .int .i64 ((i.2.2.2 : Nat) : Int)), (124, .int .i64 ((l1.length : Nat) : Int)), (123, .slice A1 l1.length c1), (6, .bool false), (14, .slice A85 l87.length c86), (15, .map (some g76)), (11, .slice A64 r56.length c65), (10, .slice A62 r55.length c63), (8, .slice A42 r36.length c43), (7, .bool r26), (0, .slice A0 l0.length c0), (2, .slice A2 l2.length c2)]) I252 (fun i => l1.length - i.2.2.2) (A82, c83, l84, 0) ⟨rfl, rfl, rfl, rfl, rfl, rfl, rfl, rfl, rfl, rfl, rfl, rfl, rfl, trivial⟩ (dm254.2 ⟨H248, by omega, by omega, by first | exact nd_0 (dn_all (by assumption) (by omega)) | exact nd_in (by assumption) (mi_all (by assumption) (by omega)) (by assumption) (by assumption) (by assumption) (by assumption) (by assumption) | exact nd_out (by assumption), rfl⟩) ?_
 rintro ⟨A243, c244, l245, k246⟩ w249 hf251
 show Wp _ _ _ [(13, .slice A243 l245.length c244), (125, .int .i64 ((k246 : Nat) : Int)), (124, .int .i64 ((l1.length : Nat) : Int)), (123, .slice A1 l1.length c1), (6, .bool false), (14, .slice A85 l87.length c86), (15, .map (some g76)), (11, .slice A64 r56.length c65), (10, .slice A62 r55.length c63), (8, .slice A42 r36.length c43), (7, .bool r26), (0, .slice A0 l0.length c0), (2, .slice A2 l2.length c2)] _ _
 obtain ⟨H250, hi256, hi257, hi258, hq255⟩ := dm254.1 hf251
 refine sr (Kz (.bool (decide (((k246 : Nat) : Int) < ((l1.length : Nat) : Int)))) (nt (Wp.seq ?_)))
 by_cases h259 : ((k246 : Nat) : Int) < ((l1.length : Nat) : Int)
 obtain ⟨x260, hx261⟩ := rds_at (ls := l1) (i := k246) PairD.len (by decide) (H250.ro hx1) (by first | omega | (simp; done) | (simp; omega))
 have hz262 : 1 ≤ x260.xKey.length ∧ x260.xKey.length ≤ 12 := key_len (by omega) hx261
 have hz263 : dn l0 r55 r36 + nd l0 r36 (List.take k246 l1) ≤ r55.length := dn_nd (by assumption) (by omega) (by assumption) (by omega) _
 have hd264 := drop_at hx261
 refine jT (dT h259) (sk (Wp.seq (bo (sr (fw (.pointer (some ⟨ab A1, ao A1 + k246 * 2, none⟩)) (Yl.indexAddr (El54) rfl rfl ((H250.ro hx1).addr (i := k246) (by omega)) (by omega)) (fw (.agg (PairD.cells x260).toArray) (Yl.load rfl (Lds.agg (cs := (PairD.cells x260)) Try.isAgg58 Try.sizeOf58 ((H250.ro hx1).elem PairD.len hx261 (by decide)))) ?_))))))
 refine npw [.string ⟨List.toArray ([])⟩, .string ⟨List.toArray ([])⟩] 58 H250 ?_
 intro g265 w266 H267
 refine sto (PairD.cells x260) 0 H267 Try.sizeOf58 ?_
 intro w268 H269
 refine ns (Mz rfl (Kz (.pointer (some ⟨g265, 0, none⟩)) (Lz (.string ⟨List.toArray x260.xKey⟩) H269 0 Try.isAgg9 ?_)))
 obtain ⟨⟨r275, r276⟩, hr277⟩ : ∃ q : Int × Int, owner_Find l0 x260.xKey = q := ⟨_, rfl⟩
 obtain ⟨D270, HP271, ro272, bk273, rr274⟩ := Own.enter0 H269
 refine cl Try.call10 (owner_Find_ok _ _ A0 l0.length c0 l0 x260.xKey r275 r276 HP271 (ro272 _ hx0) rfl (by omega) hr277) ?_
 rintro _ w278 ⟨rfl, HQ279, hk281, hk282, hk283⟩
 have H280 := bk273 _ _ HQ279
 replace hk281 : ¬ (r276 = 0) ∨ (0 ≤ r275 ∧ r275 < ((l0.length : Nat) : Int) ∧ l0.length ≤ 6) := hk281
 replace hk282 : ¬ (owner_Check l0 = 0) ∨ x260.xKey.length < 1 ∨ x260.xKey.length > 12 ∨ (0 ≤ r275 ∧ r275 < ((l0.length : Nat) : Int)) := hk282
 replace hk283 : ¬ (r276 = 0) ∨ owner_Check l0 = 0 := hk283
 refine Mz rfl (Kz (.int .i64 r275) (Kz (.int .i64 r276) (Az rfl (Ar rfl (Mz rfl (Mz rfl (fw (.int .i64 ((Int.toNat r275 : Nat) : Int)) (Yl.int (e := r275) (Yl.move rfl) (by omega)) ?_)))))))
 obtain ⟨x284, hx285⟩ := rds_at (ls := l0) (i := Int.toNat r275) OwnerD.len (by decide) (H280.ro hx0) (by first | omega | (simp; done) | (simp; omega))
 refine fw (.pointer (some ⟨ab A0, ao A0 + (Int.toNat r275) * 2, none⟩)) (Yl.indexAddr (El22) rfl rfl ((H280.ro hx0).addr (i := Int.toNat r275) (by omega)) (by omega)) (Kz (.pointer (some ⟨ab A0, ao A0 + (Int.toNat r275) * 2 + 1, none⟩)) (fw (.int .i64 x284.xShard) (Yl.load rfl (Lds.one Try.isAgg3 (((H280.ro hx0).elem OwnerD.len hx285 (by decide)).at_ (k := 1) rfl))) ?_))
 obtain ⟨o286, ho287⟩ : ∃ q, mget m90 x284.xShard = q := ⟨_, rfl⟩
 refine fw (.bool (Option.getD o286 false)) (Yl.lookup (k := x284.xShard) (d0 := false) (i := 1) H280 rfl (eK_int Try.underlying3) Try.underlying64 (fun _ => by kernel_rfl) rfl rfl ho287) (Kz (.bool (!(Option.getD o286 false))) (nt ?_))
 rcases Bool.eq_false_or_eq_true (Option.getD o286 false) with h288 | h288
 refine jF (cn h288) (Wp.skip (bN (Fin.then ?_)))
 have H289 := H280.pk [1, 2, 3, 4, 5, 6, 7, 8, 9]
 refine Wp.region (fw (.int .i64 ((k246 + 1 : Nat) : Int)) (Yl.int (e := IntKind.i64.wrap (((k246 : Nat) : Int) + 1)) yk (by rw [IntWalk.i64_in _ (by omega)]; omega)) (Mz rfl (WL.nil ?_)))
 have H290 := H289.pk [0, 1, 2, 3, 4, 5, 6, 7, 8]
 exact Fin.round (A243, c244, l245, k246 + 1) ⟨rfl, rfl, rfl, rfl, rfl, rfl, rfl, rfl, rfl, rfl, rfl, rfl, rfl, trivial⟩ (dm254.2 ⟨H290, by omega, by omega, by first | exact nd_0 (dn_all (by assumption) (by omega)) | exact nd_in (by assumption) (mi_all (by assumption) (by omega)) (by assumption) (by assumption) (by assumption) (by assumption) (by assumption) | exact nd_out (by assumption), et (hq255) (et (congrArg (fun q => w17_OwnerWhole_L2 l0 l2 r26 r36 r55 r56 l87 m90 q l245) hd264) (et (bnd_of hr277) (et (bnd_of (getD_of hx285)) (et (bnd_of ho287) (ip h288)))))⟩) (by show l1.length - (k246 + 1) < l1.length - k246; omega)
 refine jT (cn h288) (Wp.region (Mz rfl (La (PairD.cells x260) H280 0 Try.isAgg58 Try.sizeOf58 ?_)))
 refine nrw (PairD.cells x260) 58 2 1 H280 ?_
 intro A291 w292 H293
 replace H293 := Own.reh (y := row A291 1 1 (List.flatMap PairD.cells ([x260])) 58 2) rfl H293
 have H294 := H293.pk [10, 0, 1, 2, 3, 4, 5, 6, 7, 8, 9]
 refine WL.do rfl (Do.appendW (k := l245.length) (m := 1) (El54) H294 rfl rfl (src_of Try.underlying54 (H294.rds (i := 1) rfl) (flat_one PairD.one ([x260]))) rfl (by omega) (s := List.length (l245 ++ [x260])) (by first | omega | (simp only [List.length_append, List.length_cons, List.length_nil] <;> omega)) (List.flatMap_append).symm ?_)
 intro A295 c296 w297 H298
 have hl299 : List.length (l245 ++ [x260]) = l245.length + 1 := by simp only [List.length_append, List.length_cons, List.length_nil]
 refine Az rfl (WL.nil (bN (Fin.then ?_)))
 have H300 := H298.pk [0, 3, 4, 5, 6, 7, 8, 9, 10]
 refine Wp.region (fw (.int .i64 ((k246 + 1 : Nat) : Int)) (Yl.int (e := IntKind.i64.wrap (((k246 : Nat) : Int) + 1)) yk (by rw [IntWalk.i64_in _ (by omega)]; omega)) (Mz rfl (WL.nil ?_)))
 have H301 := H300.pk [1, 2, 3, 4, 5, 6, 7, 8, 0]
 exact Fin.round (A295, c296, (l245 ++ [x260]), k246 + 1) ⟨rfl, rfl, rfl, rfl, rfl, rfl, rfl, rfl, rfl, rfl, rfl, rfl, rfl, trivial⟩ (dm254.2 ⟨H301, by omega, by omega, by first | exact nd_0 (dn_all (by assumption) (by omega)) | exact nd_in (by assumption) (mi_all (by assumption) (by omega)) (by assumption) (by assumption) (by assumption) (by assumption) (by assumption) | exact nd_out (by assumption), et (hq255) (et (congrArg (fun q => w17_OwnerWhole_L2 l0 l2 r26 r36 r55 r56 l87 m90 q l245) hd264) (et (bnd_of hr277) (et (bnd_of (getD_of hx285)) (et (bnd_of ho287) (ifF h288)))))⟩) (by show l1.length - (k246 + 1) < l1.length - k246; omega)
 refine jF (dF h259) (Wp.exit (Fin.thenX ?_))
 have hL302 : w17_OwnerWhole_L2 l0 l2 r26 r36 r55 r56 l87 m90 l1 l84 = l245 := et (hq255) (et (congrArg (fun q => w17_OwnerWhole_L2 l0 l2 r26 r36 r55 r56 l87 m90 q l245) (drop_end (ls := l1) (i := k246) (by omega))) rfl)
 refine Fin.thenX (Fin.blockX (Fin.then (Wp.seq ?_)))
 have H303 := H250.pk [1, 2, 3, 4, 5, 6, 7, 8]
 refine Wp.region (Mz rfl (Mz rfl (Mz rfl ?_)))
 obtain ⟨⟨r309, r310⟩, hr311⟩ : ∃ q : (List ResultT) × Int, owner_Gather l2 r36 l87 = q := ⟨_, rfl⟩
 obtain ⟨D304, HP305, ro306, bk307, rr308⟩ := Own.enter0 H303
 refine cl Try.call23 (owner_Gather_ok _ _ A2 l2.length c2 l2 A42 r36.length c43 d44 r36 A85 l87.length c86 d88 l87 r309 r310 HP305 (ro306 _ hx2) rfl (by omega) hd45 (rr308 _ 3 _ rfl row_rds) (fun x9 h9 => ⟨rr308 _ 4 _ rfl (sepL_mem (List.mem_flatMap.2 ⟨x9, h9, .head _⟩) row_rds), own_rd (φ := fun _ => _) H303 (i := 4) rfl (sepL_mem (List.mem_flatMap.2 ⟨x9, h9, .head _⟩) row_le2), rr308 _ 4 _ rfl (sepL_mem (List.mem_flatMap.2 ⟨x9, h9, .tail _ (.head _)⟩) row_rds), own_rd (φ := fun _ => _) H303 (i := 4) rfl (sepL_mem (List.mem_flatMap.2 ⟨x9, h9, .tail _ (.head _)⟩) row_le2)⟩) rfl (by omega) hi100 (rr308 _ 5 _ rfl row_rds) (fun x9 h9 => ⟨rr308 _ 6 _ rfl (sepL_mem (List.mem_flatMap.2 ⟨x9, h9, .head _⟩) row_rds), own_rd (φ := fun _ => _) H303 (i := 6) rfl (sepL_mem (List.mem_flatMap.2 ⟨x9, h9, .head _⟩) row_le2), (fun y1 k1 => ⟨rr308 _ 6 _ rfl (sepL_mem (List.mem_flatMap.2 ⟨x9, h9, .tail _ (.head _)⟩) (sepL_mem (List.mem_flatMap.2 ⟨y1, k1, .head _⟩) row_rds)), own_rd (φ := fun _ => _) H303 (i := 6) rfl (sepL_mem (List.mem_flatMap.2 ⟨x9, h9, .tail _ (.head _)⟩) (sepL_mem (List.mem_flatMap.2 ⟨y1, k1, .head _⟩) row_le2))⟩)⟩) rfl (by omega) (by first | assumption | omega) hr311) ?_
 rintro _ w312 ⟨A315, c316, d317, rfl, HQ313, hd318⟩
 have H314 := bk307 _ _ HQ313
 have hl319 := abs_len hd318
 have hb320 := H314.rowC (i := 0) rfl
 have hz321 : r309.length ≤ l2.length := gO_len hr311
 refine Mz rfl (Kz (.slice A315 r309.length c316) (Kz (.int .i64 r310) (Az rfl (An rfl (Wp.seq (Wp.seq ?_))))))
 have H322 := H314.pk [0, 1, 2, 3, 4, 9]
 refine Wp.region (Mz rfl (fw (.bool (decide (¬ (r310 = 0)))) (Yl.bool (e := !(decide (r310 = 0))) yk decide_not.symm) (Mz rfl ?_)))
 by_cases h323 : r310 = 0
 refine gw (.slice A315 r309.length c316) (dF (not_not_intro h323)) (Yl.move rfl) (gw (.slice A64 r56.length c65) (dF (not_not_intro h323)) (Yl.move rfl) ?_)
 obtain ⟨r329, hr330⟩ : ∃ q, r04_SameResults r309 r56 = q := ⟨_, rfl⟩
 obtain ⟨D324, HP325, ro326, bk327, rr328⟩ := Own.enter0 H322
 refine clG (dF (not_not_intro h323)) Try.call25 (r04_SameResults_ok _ _ A315 r309.length c316 d317 r309 A64 r56.length c65 d66 r56 r329 HP325 hd318 (rr328 _ 0 _ rfl row_rds) (fun x9 h9 => ⟨rr328 _ 1 _ rfl (sepL_mem (List.mem_flatMap.2 ⟨x9, h9, .head _⟩) row_rds), own_rd (φ := fun _ => _) H322 (i := 1) rfl (sepL_mem (List.mem_flatMap.2 ⟨x9, h9, .head _⟩) row_le2)⟩) rfl (by omega) hd67 (rr328 _ 3 _ rfl row_rds) (fun x9 h9 => ⟨rr328 _ 4 _ rfl (sepL_mem (List.mem_flatMap.2 ⟨x9, h9, .head _⟩) row_rds), own_rd (φ := fun _ => _) H322 (i := 4) rfl (sepL_mem (List.mem_flatMap.2 ⟨x9, h9, .head _⟩) row_le2)⟩) rfl (by omega) hr330) ?_
 rintro _ w331 ⟨rfl, HQ332⟩
 have H333 := bk327 _ _ HQ332
 refine gw (.bool (!r329)) (dF (not_not_intro h323)) yk (fw (.bool (!r329)) (Yl.pickF rfl (dF (not_not_intro h323)) rfl) (Mz rfl ?_))
 rcases Bool.eq_false_or_eq_true (r329) with h334 | h334
 refine gw (.slice A243 l245.length c244) (cn h334) (Yl.move rfl) (Gz (.int .i64 ((l245.length : Nat) : Int)) (cn h334) (gw (.slice A62 r55.length c63) (cn h334) (Yl.move rfl) (Gz (.int .i64 ((r55.length : Nat) : Int)) (cn h334) (gw (.bool (decide (¬ (((l245.length : Nat) : Int) = ((r55.length : Nat) : Int))))) (cn h334) (Yl.bool (e := !(decide (((l245.length : Nat) : Int) = ((r55.length : Nat) : Int)))) yk decide_not.symm) (fw (.bool (decide (¬ (((l245.length : Nat) : Int) = ((r55.length : Nat) : Int))))) (Yl.pickF rfl (cn h334) rfl) (nt ?_))))))
 by_cases h335 : ((l245.length : Nat) : Int) = ((r55.length : Nat) : Int)
 refine jF (dF (not_not_intro h335)) (sk (Wp.seq (Wp.seq ?_)))
 have H336 := H333.pk [2, 5]
 refine Wp.region (Mz rfl (Kz (.int .i64 ((r55.length : Nat) : Int)) (Mn rfl (bo ?_))))
 have H339 := H336.pk [0, 1]
 obtain ⟨I343, hI344⟩ : ∃ q : Nat → World → Prop, q = fun (i : Nat) w' => Own w D w' [row A62 r55.length c63 (List.flatMap PairD.cells r55) 58 2, row A243 l245.length c244 (List.flatMap PairD.cells l245) 58 2] ∧ (i ≤ r55.length ∧ w17_OwnerWhole_L3 r26 l245 r55 = w17_OwnerWhole_L3 r26 l245 (List.drop i r55)) := ⟨_, rfl⟩
 have dm345 : ∀ {k337 : Nat} {w' : World}, I343 k337 w' ↔ Own w D w' [row A62 r55.length c63 (List.flatMap PairD.cells r55) 58 2, row A243 l245.length c244 (List.flatMap PairD.cells l245) 58 2] ∧ k337 ≤ r55.length ∧ w17_OwnerWhole_L3 r26 l245 r55 = w17_OwnerWhole_L3 r26 l245 (List.drop k337 r55) := by intros; subst hI344; exact Iff.rfl
 refine Wp.loop (fun i : Nat => [(6, .bool false), (173, .int .i64 ((i : Nat) : Int)), (172, .int .i64 ((r55.length : Nat) : Int)), (171, .slice A62 r55.length c63), (13, .slice A243 l245.length c244), (7, .bool r26)]) I343 (fun i => r55.length - i) 0 ⟨rfl, rfl, rfl, rfl, rfl, rfl, trivial⟩ (dm345.2 ⟨H339, by omega, rfl⟩) ?_
 rintro k337 w340 hf342
 show Wp _ _ _ [(6, .bool false), (173, .int .i64 ((k337 : Nat) : Int)), (172, .int .i64 ((r55.length : Nat) : Int)), (171, .slice A62 r55.length c63), (13, .slice A243 l245.length c244), (7, .bool r26)] _ _
 obtain ⟨H341, hi347, hq346⟩ := dm345.1 hf342
 refine sr (Kz (.bool (decide (((k337 : Nat) : Int) < ((r55.length : Nat) : Int)))) (nt (Wp.seq ?_)))
 by_cases h348 : ((k337 : Nat) : Int) < ((r55.length : Nat) : Int)
 obtain ⟨x349, hx350⟩ := rds_at (ls := r55) (i := k337) PairD.len (by decide) (H341.rds (i := 0) rfl) (by first | omega | (simp; done) | (simp; omega))
 have hd351 := drop_at hx350
 refine jT (dT h348) (sk (Wp.seq (bo (sr (fw (.pointer (some ⟨ab A62, ao A62 + k337 * 2, none⟩)) (Yl.indexAddr (El54) rfl rfl ((H341.rds (i := 0) rfl).addr (i := k337) (by omega)) (by omega)) (fw (.agg (PairD.cells x349).toArray) (Yl.load rfl (Lds.agg (cs := (PairD.cells x349)) Try.isAgg58 Try.sizeOf58 ((H341.rds (i := 0) rfl).elem PairD.len hx350 (by decide)))) ?_))))))
 refine npw [.string ⟨List.toArray ([])⟩, .string ⟨List.toArray ([])⟩] 58 H341 ?_
 intro g352 w353 H354
 refine sto (PairD.cells x349) 0 H354 Try.sizeOf58 ?_
 intro w355 H356
 refine ns (Mz rfl (Kz (.pointer (some ⟨g352, 0, none⟩)) (Lz (.string ⟨List.toArray x349.xKey⟩) H356 0 Try.isAgg9 ?_)))
 obtain ⟨⟨r362, r363⟩, hr364⟩ : ∃ q : (List UInt8) × Bool, r04_Find l245 x349.xKey = q := ⟨_, rfl⟩
 obtain ⟨D357, HP358, ro359, bk360, rr361⟩ := Own.enter0 H356
 refine cl Try.call28 (r04_Find_ok _ _ A243 l245.length c244 l245 x349.xKey r362 r363 HP358 (rr361 _ 2 _ rfl row_rds) rfl (by omega) hr364) ?_
 rintro _ w365 ⟨rfl, HQ366⟩
 have H367 := bk360 _ _ HQ366
 refine Mz rfl (Kz (.string ⟨List.toArray r362⟩) (Kz (.bool r363) (Az rfl (Ar rfl (Mz rfl (Kz (.bool (!r363)) (Mz rfl ?_)))))))
 rcases Bool.eq_false_or_eq_true (r363) with h368 | h368
 refine gw (.string ⟨List.toArray r362⟩) (cn h368) (Yl.move rfl) (Gz (.pointer (some ⟨g352, 1, none⟩)) (cn h368) (Gl (.string ⟨List.toArray x349.xValue⟩) (cn h368) H367 0 Try.isAgg9 (gw (.bool (decide (r362 ≠ x349.xValue))) (cn h368) (Yl.strNe rfl rfl) (fw (.bool (decide (r362 ≠ x349.xValue))) (Yl.pickF rfl (cn h368) rfl) (nt ?_)))))
 by_cases h369 : r362 ≠ x349.xValue
 refine jT (dT h369) (Wp.seq ?_)
 have H370 := H367.pk [1, 2]
 refine Wp.region (An rfl (rt (bR (tR (tR (bR (tR (rs ?_))))))))
 have H371 := H370.pk []
 obtain rfl : _ = false := hr.symm.trans (et (bnd_of hr27) (et (bnd_of hr38) (et (bnd_of hr58) (et (ip h74) (et (ip h75) (et (lp_l hL242) (et (bnd_of hL302) (et (bnd_of hr311) (et (ip h323) (et (bnd_of hr330) (et (ip h334) (et (ip h335) (lp_r (et (hq346) (et (congrArg (fun q => w17_OwnerWhole_L3 r26 l245 q) hd351) (et (bnd_of hr364) (et (ip h368) (ip h369))))))))))))))))))
 exact ⟨rfl, H371⟩
 refine jF (dF h369) (Wp.skip (bN (Fin.then ?_)))
 have H372 := H367.pk [1, 2]
 refine Wp.region (fw (.int .i64 ((k337 + 1 : Nat) : Int)) (Yl.int (e := IntKind.i64.wrap (((k337 : Nat) : Int) + 1)) yk (by rw [IntWalk.i64_in _ (by omega)]; omega)) (Mz rfl (WL.nil ?_)))
 have H373 := H372.pk [0, 1]
 exact Fin.round (k337 + 1) ⟨rfl, rfl, rfl, rfl, rfl, rfl, trivial⟩ (dm345.2 ⟨H373, by omega, et (hq346) (et (congrArg (fun q => w17_OwnerWhole_L3 r26 l245 q) hd351) (et (bnd_of hr364) (et (ip h368) (iN h369))))⟩) (by show r55.length - (k337 + 1) < r55.length - k337; omega)
 refine Sz (cn h368) (Sz (cn h368) (Sz (cn h368) (Sz (cn h368) (fw (.bool true) (Yl.pickT rfl (cn h368) rfl) (nt (jt (Wp.seq ?_)))))))
 have H374 := H367.pk [1, 2]
 refine Wp.region (An rfl (rt (bR (tR (tR (bR (tR (rs ?_))))))))
 have H375 := H374.pk []
 obtain rfl : _ = false := hr.symm.trans (et (bnd_of hr27) (et (bnd_of hr38) (et (bnd_of hr58) (et (ip h74) (et (ip h75) (et (lp_l hL242) (et (bnd_of hL302) (et (bnd_of hr311) (et (ip h323) (et (bnd_of hr330) (et (ip h334) (et (ip h335) (lp_r (et (hq346) (et (congrArg (fun q => w17_OwnerWhole_L3 r26 l245 q) hd351) (et (bnd_of hr364) (ifF h368)))))))))))))))))
 exact ⟨rfl, H375⟩
 refine jF (dF h348) (Wp.exit (Fin.thenX ?_))
 have hL376 : w17_OwnerWhole_L3 r26 l245 r55 = Sum.inl () := et (hq346) (et (congrArg (fun q => w17_OwnerWhole_L3 r26 l245 q) (drop_end (ls := r55) (i := k337) (by omega))) rfl)
 refine Fin.thenX (Fin.blockX (Fin.then (Wp.seq ?_)))
 have H377 := H341.pk []
 refine Wp.region (Mz rfl (An rfl (rt (rs ?_))))
 have H378 := H377.pk []
 obtain rfl : _ = r26 := hr.symm.trans (et (bnd_of hr27) (et (bnd_of hr38) (et (bnd_of hr58) (et (ip h74) (et (ip h75) (et (lp_l hL242) (et (bnd_of hL302) (et (bnd_of hr311) (et (ip h323) (et (bnd_of hr330) (et (ip h334) (et (ip h335) (lp_l hL376)))))))))))))
 exact ⟨rfl, H378⟩
 refine jT (dT h335) (Wp.seq ?_)
 have H379 := H333.pk [2, 5]
 refine Wp.region (An rfl (rt (tR (rs ?_))))
 have H380 := H379.pk []
 obtain rfl : _ = false := hr.symm.trans (et (bnd_of hr27) (et (bnd_of hr38) (et (bnd_of hr58) (et (ip h74) (et (ip h75) (et (lp_l hL242) (et (bnd_of hL302) (et (bnd_of hr311) (et (ip h323) (et (bnd_of hr330) (et (ip h334) (iN h335))))))))))))
 exact ⟨rfl, H380⟩
 refine Sz (cn h334) (Sz (cn h334) (Sz (cn h334) (Sz (cn h334) (Sz (cn h334) (fw (.bool true) (Yl.pickT rfl (cn h334) rfl) (nt (jt (Wp.seq ?_))))))))
 have H381 := H333.pk [2, 5]
 refine Wp.region (An rfl (rt (tR (rs ?_))))
 have H382 := H381.pk []
 obtain rfl : _ = false := hr.symm.trans (et (bnd_of hr27) (et (bnd_of hr38) (et (bnd_of hr58) (et (ip h74) (et (ip h75) (et (lp_l hL242) (et (bnd_of hL302) (et (bnd_of hr311) (et (ip h323) (et (bnd_of hr330) (ifF h334)))))))))))
 exact ⟨rfl, H382⟩
 refine Sz (dT h323) (Sz (dT h323) (Sz (dT h323) (Sz (dT h323) (fw (.bool true) (Yl.pickT rfl (dT h323) rfl) (Mz rfl (Sz rfl (Sz rfl (Sz rfl (Sz rfl (Sz rfl (fw (.bool true) (Yl.pickT rfl rfl rfl) (nt (jt (Wp.seq ?_))))))))))))))
 have H383 := H322.pk [2, 5]
 refine Wp.region (An rfl (rt (tR (rs ?_))))
 have H384 := H383.pk []
 obtain rfl : _ = false := hr.symm.trans (et (bnd_of hr27) (et (bnd_of hr38) (et (bnd_of hr58) (et (ip h74) (et (ip h75) (et (lp_l hL242) (et (bnd_of hL302) (et (bnd_of hr311) (iN h323)))))))))
 exact ⟨rfl, H384⟩
 refine jT (dT h75) (sr (Mz rfl (An rfl (rt (tR (rs ?_))))))
 have H385 := H61.pk []
 obtain rfl : _ = r26 := hr.symm.trans (et (bnd_of hr27) (et (bnd_of hr38) (et (bnd_of hr58) (et (ip h74) (iN h75)))))
 exact ⟨rfl, H385⟩
 refine Sz (dT h74) (Sz (dT h74) (fw (.bool true) (Yl.pickT rfl (dT h74) rfl) (nt (jt (sr (Mz rfl (An rfl (rt (tR (rs ?_))))))))))
 have H386 := H61.pk []
 obtain rfl : _ = r26 := hr.symm.trans (et (bnd_of hr27) (et (bnd_of hr38) (et (bnd_of hr58) (iN h74))))
 exact ⟨rfl, H386⟩
end Go.Proofs.Ytcjjblkgbfaapaa
