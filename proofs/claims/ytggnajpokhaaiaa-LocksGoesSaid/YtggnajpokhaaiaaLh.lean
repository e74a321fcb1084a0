/-
 locks: a table's clone.
-/
import Derived.Test.YtggnajpokhaaiaaLkC
namespace Go.Proofs.Ytggnajpokhaaiaa
open Go.RowKit
set_option linter.unusedVariables false
set_option linter.unusedSectionVars false
set_option linter.unusedSimpArgs false
def locks_Table_Clone (p0 : TableT) : TableT :=
 p0
set_option maxRecDepth 100000 in
theorem locks_Table_Clone_ok (w : World) (D : Nat → Prop) (g0 : Nat) (p0 : TableT) (A0x0 : Option Addr) (c0x0 : Nat) (d0x0 : List rowD) (r0 : TableT) (H : Own w D w [blk g0 [.slice A0x0 p0.xrows.ls.length c0x0] 59]) (hd0x0 : List.map rowD.abs d0x0 = p0.xrows.ls) (hx0x0 : Ro w D fun w' => Rds w' 6 A0x0 p0.xrows.ls.length (List.flatMap rowD.cells d0x0)) (hb0x0 : p0.xrows.ls.length ≤ c0x0 ∧ p0.xrows.ls.length ≤ 9223372036854775807) (hm0x0 : ∀ x ∈ d0x0, Ro w D (fun w' => Rds w' 3 x.xheld.A x.xheld.ls.length (List.flatMap LockD.cells x.xheld.ls)) ∧ (x.xheld.ls.length ≤ x.xheld.c ∧ x.xheld.ls.length ≤ 9223372036854775807)) (hh0 : p0.xrows.ls.length ≤ 1000000) (hh1 : Hd p0.xrows.ls) (hr : locks_Table_Clone p0 = r0) :
    Calls Try.prog 16 #[.pointer (some ⟨g0, 0, none⟩)] w (Ret fun v w' => ∃ (G0 : Nat) (B0nx0 : Option Addr) (b0nx0 : Nat) (e0nx0 : List rowD), v = .pointer (some ⟨G0, 0, none⟩) ∧ Own w D w' [blk G0 [.slice B0nx0 r0.xrows.ls.length b0nx0] 59, row B0nx0 r0.xrows.ls.length b0nx0 (List.flatMap rowD.cells e0nx0) 72 6, sepL (List.flatMap rowD.own e0nx0), blk g0 [.slice A0x0 p0.xrows.ls.length c0x0] 59] ∧ (List.map rowD.abs e0nx0 = r0.xrows.ls)) := by
 have hdl0x0 := abs_len hd0x0
 refine Calls.body (args := [.pointer (some ⟨g0, 0, none⟩)]) Try.func16 rfl rfl rfl ?_
 show Wp _ _ _ [(0, .pointer (some ⟨g0, 0, none⟩))] _ _
 refine sr (Ar rfl (Mz rfl (Kz (.pointer (some ⟨g0, 0, none⟩)) (Kz (.pointer (some ⟨g0, 0, none⟩)) (Lz (.slice A0x0 p0.xrows.ls.length c0x0) H 0 Try.isAgg57 ?_)))))
 obtain ⟨D21, HP22, ro23, bk24, rr25⟩ := Own.enter (L1 := []) (L2 := [blk g0 [.slice A0x0 p0.xrows.ls.length c0x0] 59]) H
 refine cl Try.call41 (clone_rows _ _ A0x0 _ c0x0 d0x0 p0.xrows.ls HP22 (ro23 _ hx0x0) hd0x0 rfl (by omega)) ?_
 rintro _ w26 ⟨B28, b29, rfl, HQ27⟩
 have H30 := bk24 _ _ HQ27
 refine Kz (.agg #[.slice B28 p0.xrows.ls.length b29]) ?_
 refine npw [.slice B28 p0.xrows.ls.length b29] 59 H30 ?_
 intro g31 w32 H33
 refine An rfl (Wp.seq (sr (Mz rfl (Kz (.pointer (some ⟨g31, 0, none⟩)) (Kz (.pointer (some ⟨g31, 0, none⟩)) (Lz (.slice B28 p0.xrows.ls.length b29) H33 0 Try.isAgg57 (Kz (.int .i64 ((p0.xrows.ls.length : Nat) : Int)) (Mn rfl (bo ?_)))))))))
 have H34 := H33.pk [2, 0, 1]
 have H35 := (H34.sepNil).pick [1, 2, 3, 0] (by decide) rfl
 refine Wp.loop (ι := Nat × (List rowD)) (fun i => [(17, .int .i64 ((i.1 : Nat) : Int)), (16, .int .i64 ((p0.xrows.ls.length : Nat) : Int)), (15, .slice B28 p0.xrows.ls.length b29), (14, .pointer (some ⟨g31, 0, none⟩)), (13, .pointer (some ⟨g31, 0, none⟩)), (12, .pointer (some ⟨g31, 0, none⟩)), (3, .pointer (some ⟨g31, 0, none⟩)), (11, .pointer (some ⟨g31, 0, none⟩)), (10, .agg #[.slice B28 p0.xrows.ls.length b29]), (9, .slice B28 p0.xrows.ls.length b29), (8, .slice A0x0 p0.xrows.ls.length c0x0), (7, .pointer (some ⟨g0, 0, none⟩)), (6, .pointer (some ⟨g0, 0, none⟩)), (5, .pointer (some ⟨g0, 0, none⟩)), (2, .pointer none), (0, .pointer (some ⟨g0, 0, none⟩))]) (fun (i : Nat × (List rowD)) w' => Own w D w' [blk g0 [.slice A0x0 p0.xrows.ls.length c0x0] 59, blk g31 [.slice B28 p0.xrows.ls.length b29] 59, row B28 p0.xrows.ls.length b29 (List.flatMap rowD.cells (i.2 ++ List.drop i.1 d0x0)) 72 6, sepL (List.flatMap rowD.own i.2)] ∧ (i.1 ≤ p0.xrows.ls.length ∧ i.2.length = i.1 ∧ List.map rowD.abs i.2 = List.map rowD.abs (List.take i.1 d0x0))) (fun i => p0.xrows.ls.length - i.1) (0, []) ⟨rfl, rfl, rfl, rfl, rfl, rfl, rfl, rfl, rfl, rfl, rfl, rfl, rfl, rfl, rfl, rfl, trivial⟩ ⟨H35, (show 0 ≤ p0.xrows.ls.length ∧ List.length ([]) = 0 ∧ List.map rowD.abs ([]) = List.map rowD.abs (List.take 0 d0x0) from ⟨by omega, rfl, rfl⟩)⟩ ?_
 rintro ⟨k, es⟩ w36 ⟨H37, hf38⟩
 show Wp _ _ _ [(17, .int .i64 ((k : Nat) : Int)), (16, .int .i64 ((p0.xrows.ls.length : Nat) : Int)), (15, .slice B28 p0.xrows.ls.length b29), (14, .pointer (some ⟨g31, 0, none⟩)), (13, .pointer (some ⟨g31, 0, none⟩)), (12, .pointer (some ⟨g31, 0, none⟩)), (3, .pointer (some ⟨g31, 0, none⟩)), (11, .pointer (some ⟨g31, 0, none⟩)), (10, .agg #[.slice B28 p0.xrows.ls.length b29]), (9, .slice B28 p0.xrows.ls.length b29), (8, .slice A0x0 p0.xrows.ls.length c0x0), (7, .pointer (some ⟨g0, 0, none⟩)), (6, .pointer (some ⟨g0, 0, none⟩)), (5, .pointer (some ⟨g0, 0, none⟩)), (2, .pointer none), (0, .pointer (some ⟨g0, 0, none⟩))] _ _
 replace hf38 : k ≤ p0.xrows.ls.length ∧ es.length = k ∧ List.map rowD.abs es = List.map rowD.abs (List.take k d0x0) := hf38
 obtain ⟨hk0, hes, hab⟩ := hf38
 refine sr (Kz (.bool (decide (((k : Nat) : Int) < ((p0.xrows.ls.length : Nat) : Int)))) (nt (Wp.seq ?_)))
 by_cases h39 : ((k : Nat) : Int) < ((p0.xrows.ls.length : Nat) : Int)
 refine jT (dT h39) (sk (Wp.seq (bo (sr (Mz rfl (An rfl ?_))))))
 obtain ⟨x40, hx41⟩ : ∃ q, d0x0[k]? = some q := ⟨_, List.getElem?_eq_getElem (by omega)⟩
 have hx42 : (es ++ List.drop k d0x0)[k]? = some x40 := at_mid9 (by omega) hx41
 have hb43 := (hm0x0 _ (List.mem_of_getElem? hx41)).2
 have hl44 : x40.xheld.ls.length ≤ 1000000 := by have q9 := hh1 _ (List.mem_of_getElem? (abs_at hd0x0 hx41)); exact Nat.le_trans (Nat.le_of_eq (by simp only [rowD.abs])) q9
 have H46 := H37.drew
 refine Wp.drawnX [16] (fun W => ∃ L', Own w D W ([blk g0 [.slice A0x0 p0.xrows.ls.length c0x0] 59, blk g31 [.slice B28 p0.xrows.ls.length b29] 59, row B28 p0.xrows.ls.length b29 (List.flatMap rowD.cells (es ++ List.drop k d0x0)) 72 6, sepL (List.flatMap rowD.own es)] ++ L')) (by kernel_rfl) (by kernel_rfl) (NoP.block (NoP.then (NoP.then (NoP.block (NoP.then NoP.base))))) ⟨_, H46⟩ ?_
 revert H46
 generalize World.drew w36 = w45
 intro H46
 refine GX.take (v := .pointer (some ⟨g31, 0, none⟩)) (rs := [[]]) 0 rfl (by kernel_rfl) (fun _ _ => Yl.move rfl) (GX.take (v := .pointer (some ⟨g31, 0, none⟩)) (rs := [[]]) 1 rfl (by kernel_rfl) (fun _ _ => yk) (GX.take (v := .pointer (some ⟨g31, 0, none⟩)) (rs := [[]]) 2 rfl (by kernel_rfl) (fun _ _ => yk) (GX.take (v := .slice B28 p0.xrows.ls.length b29) (rs := [[]]) 3 rfl (by kernel_rfl) (fun _ ⟨_, H9⟩ => Yl.load rfl (Lds.one Try.isAgg57 (Cls.of (H9.cls (i := 1) rfl) rfl))) (GX.take (v := .int .i64 ((k : Nat) : Int)) (rs := [[]]) 4 rfl (by kernel_rfl) (fun _ _ => Yl.move rfl) (GX.take (v := .pointer (some ⟨g31, 0, none⟩)) (rs := [[]]) 5 rfl (by kernel_rfl) (fun _ _ => Yl.move rfl) (GX.take (v := .pointer (some ⟨g31, 0, none⟩)) (rs := [[]]) 6 rfl (by kernel_rfl) (fun _ _ => yk) (GX.take (v := .pointer (some ⟨g31, 0, none⟩)) (rs := [[]]) 7 rfl (by kernel_rfl) (fun _ _ => yk) (GX.take (v := .slice B28 p0.xrows.ls.length b29) (rs := [[]]) 8 rfl (by kernel_rfl) (fun _ ⟨_, H9⟩ => Yl.load rfl (Lds.one Try.isAgg57 (Cls.of (H9.cls (i := 1) rfl) rfl))) (GX.take (v := .int .i64 ((k : Nat) : Int)) (rs := [[]]) 9 rfl (by kernel_rfl) (fun _ _ => Yl.move rfl) (GX.take (v := .pointer (some ⟨ab B28, ao B28 + k * 6, none⟩)) (rs := [[]]) 10 rfl (by kernel_rfl) (fun _ ⟨_, H9⟩ => Yl.indexAddr (El57) rfl rfl ((H9.rds (i := 2) rfl).addr (i := k) (by omega)) (by omega)) (GX.take (v := .pointer (some ⟨ab B28, ao B28 + k * 6 + 1, none⟩)) (rs := [[]]) 11 rfl (by kernel_rfl) (fun _ _ => yk) (GX.take (v := .slice x40.xheld.A x40.xheld.ls.length x40.xheld.c) (rs := [[]]) 12 rfl (by kernel_rfl) (fun _ ⟨_, H9⟩ => Yl.load rfl (Lds.one Try.isAgg46 (((H9.rds (i := 2) rfl).elem rowD.len hx42 (by decide)).at_ (k := 1) rfl))) ?_))))))))))))
 obtain ⟨D47, HP48, ro49, bk50, rr51⟩ := Own.enter (L1 := []) (L2 := [blk g0 [.slice A0x0 p0.xrows.ls.length c0x0] 59, blk g31 [.slice B28 p0.xrows.ls.length b29] 59, row B28 p0.xrows.ls.length b29 (List.flatMap rowD.cells (es ++ List.drop k d0x0)) 72 6, sepL (List.flatMap rowD.own es)]) H46
 refine GX.do 13 rfl (by kernel_rfl) (Do.call Try.call42 rfl (slices_Clone_api_Lock_api_Lock_ok _ _ x40.xheld.A x40.xheld.ls.length x40.xheld.c x40.xheld.ls x40.xheld.ls HP48 (ro49 _ (hm0x0 _ (List.mem_of_getElem? hx41)).1) rfl (by omega) rfl) ?_)
 rintro _ w52 ⟨B54, b55, rfl, HQ53⟩
 have H56 := bk50 _ _ HQ53
 have H57 := H56.pk [1, 2, 3, 4, 0]
 refine ⟨.inr ⟨_, H57⟩, ?_⟩
 refine GX.take (v := .pointer (some ⟨ab B28, ao B28 + k * 6, none⟩)) (rs := [[15]]) 14 rfl (by kernel_rfl) (fun _ ⟨_, H9⟩ => Yl.indexAddr (El57) rfl rfl ((H9.rds (i := 2) rfl).addr (i := k) (by omega)) (by omega)) (GX.take (v := .pointer (some ⟨ab B28, ao B28 + k * 6 + 1, none⟩)) (rs := [[]]) 15 rfl (by kernel_rfl) (fun _ _ => yk) ?_)
 have H58 := H57.pk [2, 0, 1, 3, 4]
 refine GX.do0 16 rfl (by kernel_rfl) (Do.storeRow (vs := [.slice B54 x40.xheld.ls.length b55]) (o := k * 6 + 1) (q := ao B28 + k * 6 + 1) H58 rfl (by omega) rfl Try.sizeOf46 rfl rfl (Nat.le_of_ble_eq_true rfl) (store_fits rowD.len hx42 (Nat.le_of_ble_eq_true rfl)) (flat_set (y := (rowD.mk x40.xtxn (Sv.mk B54 b55 x40.xheld.ls) x40.xwaits x40.xwant)) rowD.len rfl (Nat.le_of_ble_eq_true rfl) hx42) ?_)
 intro w59 H60
 refine ⟨.inl (by kernel_rfl), ?_⟩
 refine GX.done (by kernel_rfl) (bN (Fin.then (Wp.region (fw (.int .i64 ((k + 1 : Nat) : Int)) (Yl.int (e := IntKind.i64.wrap (((k : Nat) : Int) + 1)) yk (by rw [IntWalk.i64_in _ (by omega)]; omega)) (Mz rfl (WL.nil ?_))))))
 have H61 := H60.pk [4, 3, 1, 2, 0]
 have H63 : Own w D w59 [sepL (List.flatMap rowD.own (es ++ [(rowD.mk x40.xtxn (Sv.mk B54 b55 x40.xheld.ls) x40.xwaits x40.xwant)])), blk g0 [.slice A0x0 p0.xrows.ls.length c0x0] 59, blk g31 [.slice B28 p0.xrows.ls.length b29] 59, row B28 p0.xrows.ls.length b29 (List.flatMap rowD.cells (List.set (es ++ List.drop k d0x0) k (rowD.mk x40.xtxn (Sv.mk B54 b55 x40.xheld.ls) x40.xwaits x40.xwant))) 72 6] := own_snoc (f := rowD.own) (es := es) (y := (rowD.mk x40.xtxn (Sv.mk B54 b55 x40.xheld.ls) x40.xwaits x40.xwant)) H61
 have H62 := H63.pk [1, 2, 3, 0]
 rw [set_mid9 _ (by omega) (by omega)] at H62
 exact Fin.round (k + 1, es ++ [(rowD.mk x40.xtxn (Sv.mk B54 b55 x40.xheld.ls) x40.xwaits x40.xwant)]) ⟨rfl, rfl, rfl, rfl, rfl, rfl, rfl, rfl, rfl, rfl, rfl, rfl, rfl, rfl, rfl, rfl, trivial⟩ ⟨H62, (show (k + 1) ≤ p0.xrows.ls.length ∧ List.length (es ++ [(rowD.mk x40.xtxn (Sv.mk B54 b55 x40.xheld.ls) x40.xwaits x40.xwant)]) = (k + 1) ∧ List.map rowD.abs (es ++ [(rowD.mk x40.xtxn (Sv.mk B54 b55 x40.xheld.ls) x40.xwaits x40.xwant)]) = List.map rowD.abs (List.take (k + 1) d0x0) from ⟨by omega, by simp [hes], abs_snoc (f := rowD.abs) hab hx41 rfl⟩)⟩ (by show p0.xrows.ls.length - (k + 1) < p0.xrows.ls.length - k; omega)
 refine jF (dF h39) (Wp.exit (Fin.thenX (Fin.thenX (Fin.blockX (Fin.then (sr ?_))))))
 have he64 : List.map rowD.abs es = p0.xrows.ls := by rw [hab, List.take_of_length_le (by omega)]; exact hd0x0
 have H65 := H37
 rw [List.drop_eq_nil_of_le (by omega), List.append_nil] at H65
 have hl66 := abs_len he64
 refine Mz rfl (An rfl (rt (rs ?_)))
 have H67 := H65.pk [1, 2, 3, 0]
 obtain rfl : _ = p0 := hr.symm.trans rfl
 exact ⟨g31, B28, b29, es, rfl, H67, he64⟩
end Go.Proofs.Ytggnajpokhaaiaa
