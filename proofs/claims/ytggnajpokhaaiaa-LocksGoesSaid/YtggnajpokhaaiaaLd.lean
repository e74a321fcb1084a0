/-
 locks: settled.
-/
import Derived.Test.YtggnajpokhaaiaaLkO
namespace Go.Proofs.Ytggnajpokhaaiaa
open Go.RowKit
set_option linter.unusedVariables false
set_option linter.unusedSectionVars false
set_option linter.unusedSimpArgs false
def locks_Table_settle_L0 : Nat → List rowT → List Nat → List Nat → (List rowT) × (List Nat) × (List Nat)
  | 0, l23, l27, l30 => default
  | q31 + 1, l23, l27, l30 => bnd (locks_Table_next (TableT.mk (Ll.mk l23))) fun yr58 => if yr58.2 = true then bnd (locks_Table_grant (TableT.mk (Ll.mk l23)) yr58.1.xTxn yr58.1.xLock (changeT.mk (Ll.mk l27) (Ll.mk l30))) fun yr76 => locks_Table_settle_L0 q31 yr76.1.xrows.ls (yr76.2.xgranted.ls ++ [yr58.1.xTxn]) yr76.2.xdead.ls else (l23, l27, l30)
def locks_Table_settle (p0 : TableT) (p1 : changeT) : TableT × changeT :=
 bnd (locks_Table_settle_L0 ((Wt p0.xrows.ls) + 1) p0.xrows.ls p1.xgranted.ls p1.xdead.ls) fun sLrL => bnd (slices_Sort_uint64_uint64 sLrL.2.1) fun yr125 => bnd (slices_Sort_uint64_uint64 sLrL.2.2) fun yr138 => (TableT.mk (Ll.mk sLrL.1), changeT.mk (Ll.mk yr125) (Ll.mk yr138))
set_option maxRecDepth 100000 in
theorem locks_Table_settle_ok (w : World) (D : Nat → Prop) (g0 : Nat) (p0 : TableT) (A0x0 : Option Addr) (c0x0 : Nat) (d0x0 : List rowD) (g1 : Nat) (p1 : changeT) (A1x0 : Option Addr) (c1x0 : Nat) (A1x1 : Option Addr) (c1x1 : Nat) (r0 : TableT) (r1 : changeT) (H : Own w D w [blk g0 [.slice A0x0 p0.xrows.ls.length c0x0] 59, row A0x0 p0.xrows.ls.length c0x0 (List.flatMap rowD.cells d0x0) 72 6, sepL (List.flatMap rowD.own d0x0), blk g1 [.slice A1x0 p1.xgranted.ls.length c1x0, .slice A1x1 p1.xdead.ls.length c1x1] 65, row A1x0 p1.xgranted.ls.length c1x0 (List.flatMap (eN .u64) p1.xgranted.ls) 30 1, row A1x1 p1.xdead.ls.length c1x1 (List.flatMap (eN .u64) p1.xdead.ls) 30 1]) (hd0x0 : List.map rowD.abs d0x0 = p0.xrows.ls) (hh0 : Fit p0.xrows.ls) (hh1 : p0.xrows.ls.length ≤ 999999) (hh2 : Wt p0.xrows.ls ≤ 1000000) (hh3 : p1.xgranted.ls.length ≤ 1000) (hh4 : p1.xdead.ls.length ≤ 2000000) (hr : locks_Table_settle p0 p1 = (r0, r1)) :
    Calls Try.prog 27 #[.pointer (some ⟨g0, 0, none⟩), .pointer (some ⟨g1, 0, none⟩)] w (Ret fun v w' => ∃ (B0ox0 : Option Addr) (b0ox0 : Nat) (e0ox0 : List rowD) (B1ox0 : Option Addr) (b1ox0 : Nat) (B1ox1 : Option Addr) (b1ox1 : Nat), v = .tuple #[] ∧ Own w D w' [blk g0 [.slice B0ox0 r0.xrows.ls.length b0ox0] 59, row B0ox0 r0.xrows.ls.length b0ox0 (List.flatMap rowD.cells e0ox0) 72 6, sepL (List.flatMap rowD.own e0ox0), blk g1 [.slice B1ox0 r1.xgranted.ls.length b1ox0, .slice B1ox1 r1.xdead.ls.length b1ox1] 65, row B1ox0 r1.xgranted.ls.length b1ox0 (List.flatMap (eN .u64) r1.xgranted.ls) 30 1, row B1ox1 r1.xdead.ls.length b1ox1 (List.flatMap (eN .u64) r1.xdead.ls) 30 1] ∧ (List.map rowD.abs e0ox0 = r0.xrows.ls)) := by
 have hdl0x0 := abs_len hd0x0
 have hc0x0 := H.rowC (i := 1) rfl
 have hc1x0 := H.rowC (i := 4) rfl
 have hc1x1 := H.rowC (i := 5) rfl
 refine Calls.body (args := [.pointer (some ⟨g0, 0, none⟩), .pointer (some ⟨g1, 0, none⟩)]) Try.func27 rfl rfl rfl ?_
 show Wp _ _ _ [(0, .pointer (some ⟨g0, 0, none⟩)), (1, .pointer (some ⟨g1, 0, none⟩))] _ _
 refine Wp.seq (bo ?_)
 have H33 : Own w D w [blk g0 [.slice A0x0 p0.xrows.ls.length c0x0] 59, blk g1 [.slice A1x0 p1.xgranted.ls.length c1x0, .slice A1x1 p1.xdead.ls.length c1x1] 65, row A0x0 p0.xrows.ls.length c0x0 (List.flatMap rowD.cells d0x0) 72 6, sepL (List.flatMap rowD.own d0x0), row A1x0 p1.xgranted.ls.length c1x0 (List.flatMap (eN .u64) p1.xgranted.ls) 30 1, row A1x1 p1.xdead.ls.length c1x1 (List.flatMap (eN .u64) p1.xdead.ls) 30 1] := H.pk [0, 3, 1, 2, 4, 5]
 obtain ⟨I37, hI38⟩ : ∃ q : ((Option Addr) × Nat × (List rowD) × (List rowT) × (Option Addr) × Nat × (List Nat) × (Option Addr) × Nat × (List Nat) × Nat) → World → Prop, q = fun (i : (Option Addr) × Nat × (List rowD) × (List rowT) × (Option Addr) × Nat × (List Nat) × (Option Addr) × Nat × (List Nat) × Nat) w' => Own w D w' [blk g0 [.slice i.1 i.2.2.2.1.length i.2.1] 59, blk g1 [.slice i.2.2.2.2.1 i.2.2.2.2.2.2.1.length i.2.2.2.2.2.1, .slice i.2.2.2.2.2.2.2.1 i.2.2.2.2.2.2.2.2.2.1.length i.2.2.2.2.2.2.2.2.1] 65, row i.1 i.2.2.2.1.length i.2.1 (List.flatMap rowD.cells i.2.2.1) 72 6, sepL (List.flatMap rowD.own i.2.2.1), row i.2.2.2.2.1 i.2.2.2.2.2.2.1.length i.2.2.2.2.2.1 (List.flatMap (eN .u64) i.2.2.2.2.2.2.1) 30 1, row i.2.2.2.2.2.2.2.1 i.2.2.2.2.2.2.2.2.2.1.length i.2.2.2.2.2.2.2.2.1 (List.flatMap (eN .u64) i.2.2.2.2.2.2.2.2.2.1) 30 1] ∧ (List.map rowD.abs i.2.2.1 = i.2.2.2.1 ∧ Fit i.2.2.2.1 ∧ Hd i.2.2.2.1 ∧ i.2.2.2.1.length ≤ 999999 ∧ Wt i.2.2.2.1 ≤ 1000000 ∧ i.2.2.2.2.2.2.1.length + Wt i.2.2.2.1 ≤ 1001000 ∧ i.2.2.2.2.2.2.2.2.2.1.length + 1000000 * Wt i.2.2.2.1 ≤ 1000002000000 ∧ Wt i.2.2.2.1 < i.2.2.2.2.2.2.2.2.2.2 ∧ locks_Table_settle_L0 ((Wt p0.xrows.ls) + 1) p0.xrows.ls p1.xgranted.ls p1.xdead.ls = locks_Table_settle_L0 i.2.2.2.2.2.2.2.2.2.2 i.2.2.2.1 i.2.2.2.2.2.2.1 i.2.2.2.2.2.2.2.2.2.1) := ⟨_, rfl⟩
 have dm39 : ∀ {A21 : Option Addr} {c22 : Nat} {d24 : List rowD} {l23 : List rowT} {A25 : Option Addr} {c26 : Nat} {l27 : List Nat} {A28 : Option Addr} {c29 : Nat} {l30 : List Nat} {f32 : Nat} {w' : World}, I37 (A21, c22, d24, l23, A25, c26, l27, A28, c29, l30, f32) w' ↔ Own w D w' [blk g0 [.slice A21 l23.length c22] 59, blk g1 [.slice A25 l27.length c26, .slice A28 l30.length c29] 65, row A21 l23.length c22 (List.flatMap rowD.cells d24) 72 6, sepL (List.flatMap rowD.own d24), row A25 l27.length c26 (List.flatMap (eN .u64) l27) 30 1, row A28 l30.length c29 (List.flatMap (eN .u64) l30) 30 1] ∧ List.map rowD.abs d24 = l23 ∧ Fit l23 ∧ Hd l23 ∧ l23.length ≤ 999999 ∧ Wt l23 ≤ 1000000 ∧ l27.length + Wt l23 ≤ 1001000 ∧ l30.length + 1000000 * Wt l23 ≤ 1000002000000 ∧ Wt l23 < f32 ∧ locks_Table_settle_L0 ((Wt p0.xrows.ls) + 1) p0.xrows.ls p1.xgranted.ls p1.xdead.ls = locks_Table_settle_L0 f32 l23 l27 l30 := by intros; subst hI38; exact Iff.rfl
 refine Wp.loop (fun i : (Option Addr) × Nat × (List rowD) × (List rowT) × (Option Addr) × Nat × (List Nat) × (Option Addr) × Nat × (List Nat) × Nat => [(0, .pointer (some ⟨g0, 0, none⟩)), (1, .pointer (some ⟨g1, 0, none⟩))]) I37 (fun i => i.2.2.2.2.2.2.2.2.2.2) (A0x0, c0x0, d0x0, p0.xrows.ls, A1x0, c1x0, p1.xgranted.ls, A1x1, c1x1, p1.xdead.ls, (Wt p0.xrows.ls) + 1) ⟨rfl, rfl, trivial⟩ (dm39.2 ⟨H33, by exact hd0x0, by assumption, by exact Fit.hd (by assumption), by omega, by omega, by omega, by omega, by omega, rfl⟩) ?_
 rintro ⟨A21, c22, d24, l23, A25, c26, l27, A28, c29, l30, f32⟩ w34 hf36
 show Wp _ _ _ [(0, .pointer (some ⟨g0, 0, none⟩)), (1, .pointer (some ⟨g1, 0, none⟩))] _ _
 obtain ⟨H35, hi41, hi42, hi43, hi44, hi45, hi46, hi47, hi48, hq40⟩ := dm39.1 hf36
 have hl49 := abs_len hi41
 obtain ⟨f50, hf51⟩ : ∃ q, f32 = q + 1 := ⟨f32 - 1, by omega⟩
 subst hf51
 refine bo (sr (Mz rfl ?_))
 have hb57 := H35.rowC (i := 2) rfl
 obtain ⟨⟨r58, r59⟩, hr60⟩ : ∃ q : AskD × Bool, locks_Table_next (TableT.mk (Ll.mk l23)) = q := ⟨_, rfl⟩
 obtain ⟨D52, HP53, ro54, bk55, rr56⟩ := Own.enter1 H35
 refine cl Try.call51 (locks_Table_next_ok _ _ g0 (TableT.mk (Ll.mk l23)) A21 c22 d24 r58 r59 HP53 hi41 (rr56 _ 1 _ rfl row_rds) (show l23.length ≤ c22 ∧ l23.length ≤ 9223372036854775807 from by omega) (fun x9 h9 => ⟨rr56 _ 2 _ rfl (sepL_mem (List.mem_flatMap.2 ⟨x9, h9, .head _⟩) row_rds), own_rd (φ := fun _ => _) H35 (i := 3) rfl (sepL_mem (List.mem_flatMap.2 ⟨x9, h9, .head _⟩) row_le2)⟩) (by first | omega | (dsimp only; omega)) hr60) ?_
 rintro _ w61 ⟨rfl, HQ62⟩
 have H63 := bk55 _ _ HQ62
 refine Mz rfl (Kz (.agg (AskD.cells r58).toArray) (Kz (.bool r59) ?_))
 refine npw [.int .u64 0, .string ⟨List.toArray ([])⟩, .string ⟨List.toArray ([])⟩, .bool false] 51 H63 ?_
 intro g64 w65 H66
 refine sto (AskD.cells r58) 0 H66 Try.sizeOf51 ?_
 intro w67 H68
 refine An rfl (Wp.seq (sr (Mz rfl (Kz (.bool (!r59)) (nt ?_)))))
 rcases Bool.eq_false_or_eq_true (r59) with h69 | h69
 refine jF (cn h69) (sk (sr (Mz rfl (Kz (.pointer (some ⟨g64, 0, none⟩)) (Lz (.int .u64 ((r58.xTxn : Nat) : Int)) H68 0 Try.isAgg30 (Kz (.pointer (some ⟨g64, 1, none⟩)) (La (LockD.cells r58.xLock) H68 0 Try.isAgg34 Try.sizeOf34 (Mz rfl ?_))))))))
 have H70 := H68.pk [1, 3, 4, 2, 5, 6, 0]
 obtain ⟨⟨r76, r77⟩, hr78⟩ : ∃ q : TableT × changeT, locks_Table_grant (TableT.mk (Ll.mk l23)) r58.xTxn r58.xLock (changeT.mk (Ll.mk l27) (Ll.mk l30)) = q := ⟨_, rfl⟩
 obtain ⟨D71, HP72, ro73, bk74, rr75⟩ := Own.enter (L1 := [blk g0 [.slice A21 l23.length c22] 59, row A21 l23.length c22 (List.flatMap rowD.cells d24) 72 6, sepL (List.flatMap rowD.own d24), blk g1 [.slice A25 l27.length c26, .slice A28 l30.length c29] 65, row A25 l27.length c26 (List.flatMap (eN .u64) l27) 30 1, row A28 l30.length c29 (List.flatMap (eN .u64) l30) 30 1]) (L2 := [blk g64 (AskD.cells r58) 51]) H70
 refine cl Try.call26 (locks_Table_grant_ok _ _ g0 (TableT.mk (Ll.mk l23)) A21 c22 d24 r58.xTxn r58.xLock g1 (changeT.mk (Ll.mk l27) (Ll.mk l30)) A25 c26 A28 c29 r76 r77 HP72 hi41 (by first | omega | (dsimp only; omega)) (by assumption) (by first | omega | (dsimp only; omega) | exact Nat.zero_le _) hr78) ?_
 rintro _ w79 ⟨A82, c83, d84, A86, c87, A88, c89, rfl, HQ80, hd85⟩
 have H81 := bk74 _ _ HQ80
 have hl90 := abs_len hd85
 have hb91 := H81.rowC (i := 1) rfl
 have hb92 := H81.rowC (i := 4) rfl
 have hb93 := H81.rowC (i := 5) rfl
 have hs94 := settle_step (m := l23) (by assumption) (hr60.trans (congrArg (fun q => (_, q)) h69)) hr78
 obtain ⟨hz95, hz96, hz97, hz98⟩ := hs94
 replace hz96 : Wt r76.xrows.ls + 1 ≤ Wt l23 := hz96
 replace hz97 : r77.xgranted.ls = l27 := hz97
 replace hz98 : r77.xdead.ls.length ≤ l30.length + 1000000 := hz98
 have hl99 : r77.xgranted.ls.length = l27.length := by rw [hz97]
 have hl100 : r76.xrows.ls.length ≤ 999999 := hz95.len
 refine nt ?_
 have H102 := H81.drew
 refine Wp.drawnX [8, 11] (fun W => ∃ L', Own w D W ([blk g0 [.slice A82 r76.xrows.ls.length c83] 59, row A82 r76.xrows.ls.length c83 (List.flatMap rowD.cells d84) 72 6, sepL (List.flatMap rowD.own d84), blk g1 [.slice A86 r77.xgranted.ls.length c87, .slice A88 r77.xdead.ls.length c89] 65, row A86 r77.xgranted.ls.length c87 (List.flatMap (eN .u64) r77.xgranted.ls) 30 1, row A88 r77.xdead.ls.length c89 (List.flatMap (eN .u64) r77.xdead.ls) 30 1, blk g64 (AskD.cells r58) 51] ++ L')) (by kernel_rfl) (by kernel_rfl) (NoP.block (NoP.then (NoP.block (NoP.then NoP.base)))) ⟨_, H102⟩ ?_
 revert H102
 generalize World.drew w79 = w101
 intro H102
 refine GX.takeA (v := .pointer (some ⟨g1, 0, none⟩)) 0 rfl (by kernel_rfl) (fun _ => Yl.move rfl) (GX.take (v := .pointer (some ⟨g1, 0, none⟩)) (rs := [[4, 3, 2], []]) 1 rfl (by kernel_rfl) (fun _ _ => Yl.move rfl) (GX.take (v := .pointer (some ⟨g1, 0, none⟩)) (rs := [[4, 3], []]) 2 rfl (by kernel_rfl) (fun _ _ => yk) (GX.take (v := .pointer (some ⟨g1, 0, none⟩)) (rs := [[4], []]) 3 rfl (by kernel_rfl) (fun _ _ => yk) (GX.take (v := .slice A86 r77.xgranted.ls.length c87) (rs := [[], []]) 4 rfl (by kernel_rfl) (fun _ ⟨_, H9⟩ => Yl.load rfl (Lds.one Try.isAgg37 (Cls.of (H9.cls (i := 3) rfl) rfl))) (GX.take (v := .pointer (some ⟨g64, 0, none⟩)) (rs := [[7, 6], []]) 5 rfl (by kernel_rfl) (fun _ _ => yk) (GX.take (v := .int .u64 ((r58.xTxn : Nat) : Int)) (rs := [[7], []]) 6 rfl (by kernel_rfl) (fun _ ⟨_, H9⟩ => Yl.load rfl (Lds.one Try.isAgg30 (Cls.of (H9.cls (i := 6) rfl) rfl))) ?_))))))
 refine GX.do 7 rfl (by kernel_rfl) (Do.newRow (cs := [.int .u64 ((r58.xTxn : Nat) : Int)]) (t := 30) (sz := 1) (m := 1) H102 rfl rfl (fun _ => by kernel_rfl) rfl (by decide) ?_)
 intro A103 w104 H105
 replace H105 := Own.reh (y := row A103 1 1 (List.flatMap (eN .u64) ([r58.xTxn])) 30 1) rfl H105
 have H106 := H105.pk [1, 2, 3, 4, 5, 6, 7, 0]
 refine ⟨.inr ⟨_, H106⟩, ?_⟩
 have H107 := H106.pk [4, 0, 1, 2, 3, 5, 6, 7]
 refine GX.do 8 rfl (by kernel_rfl) (Do.appendW (k := r77.xgranted.ls.length) (m := 1) (El37) H107 rfl rfl (src_of Try.underlying37 (H107.rds (i := 7) rfl) (flat_one eN_one ([r58.xTxn]))) rfl (by omega) (s := List.length (r77.xgranted.ls ++ [r58.xTxn])) (by first | omega | (simp only [List.length_append, List.length_cons, List.length_nil] <;> omega)) (List.flatMap_append).symm ?_)
 intro A108 c109 w110 H111
 have hl112 : List.length (r77.xgranted.ls ++ [r58.xTxn]) = r77.xgranted.ls.length + 1 := by simp only [List.length_append, List.length_cons, List.length_nil]
 refine ⟨.inl (by kernel_rfl), ?_⟩
 refine GX.takeA (v := .pointer (some ⟨g1, 0, none⟩)) 9 rfl (by kernel_rfl) (fun _ => yk) (GX.takeA (v := .pointer (some ⟨g1, 0, none⟩)) 10 rfl (by kernel_rfl) (fun _ => yk) ?_)
 have H113 := H111.pk [4, 0, 1, 2, 3, 5, 6, 7]
 refine GX.do0 11 rfl (by kernel_rfl) (Do.store (vs := [.slice A108 (List.length (r77.xgranted.ls ++ [r58.xTxn])) c109]) (o := 0) H113 rfl rfl Try.sizeOf37 rfl rfl rfl rfl ?_)
 intro w114 H115
 refine ⟨.inl (by kernel_rfl), ?_⟩
 refine GX.done (by kernel_rfl) (bN ?_)
 have H116 := H115.pk [2, 0, 3, 4, 1, 5]
 exact Fin.round (A82, c83, d84, r76.xrows.ls, A108, c109, (r77.xgranted.ls ++ [r58.xTxn]), A88, c89, r77.xdead.ls, f50) ⟨rfl, rfl, trivial⟩ (dm39.2 ⟨H116, by exact hd85, by assumption, by exact Fit.hd (by assumption), by omega, by omega, by omega, by omega, by omega, et (hq40) (et (bnd_of hr60) (et (ip h69) (bnd_of hr78)))⟩) (by show f50 < f50 + 1; omega)
 refine jT (cn h69) (Wp.exit (Fin.thenX (Fin.blockO rfl ?_)))
 have hL117 : locks_Table_settle_L0 ((Wt p0.xrows.ls) + 1) p0.xrows.ls p1.xgranted.ls p1.xdead.ls = (l23, l27, l30) := et (hq40) (et (bnd_of hr60) (ifF h69))
 refine Fin.thenX (Fin.blockX (Fin.then (Wp.seq ?_)))
 have H118 := H68.pk [1, 2, 3, 4, 5, 6]
 refine Wp.region (Mz rfl (Kz (.pointer (some ⟨g1, 0, none⟩)) (Kz (.pointer (some ⟨g1, 0, none⟩)) (Lz (.slice A25 l27.length c26) H118 1 Try.isAgg37 ?_))))
 have H119 := H118.pk [4, 0, 1, 2, 3, 5]
 obtain ⟨r125, hr126⟩ : ∃ q, slices_Sort_uint64_uint64 l27 = q := ⟨_, rfl⟩
 obtain ⟨D120, HP121, ro122, bk123, rr124⟩ := Own.enter1 H119
 refine cl Try.call52 (slices_Sort_uint64_uint64_ok _ _ A25 l27.length c26 l27 r125 HP121 rfl (by omega) hr126) ?_
 rintro _ w127 ⟨rfl, HQ128, hk130⟩
 have H129 := bk123 _ _ HQ128
 have hb131 := H129.rowC (i := 0) rfl
 replace hk130 : r125.length = l27.length := hk130
 refine nt (Wp.region (Mz rfl (Kz (.pointer (some ⟨g1, 0, none⟩)) (Kz (.pointer (some ⟨g1, 1, none⟩)) (Lz (.slice A28 l30.length c29) H129 2 Try.isAgg37 ?_)))))
 have H132 := H129.pk [5, 0, 1, 2, 3, 4]
 obtain ⟨r138, hr139⟩ : ∃ q, slices_Sort_uint64_uint64 l30 = q := ⟨_, rfl⟩
 obtain ⟨D133, HP134, ro135, bk136, rr137⟩ := Own.enter1 H132
 refine cl Try.call52 (slices_Sort_uint64_uint64_ok _ _ A28 l30.length c29 l30 r138 HP134 rfl (by omega) hr139) ?_
 rintro _ w140 ⟨rfl, HQ141, hk143⟩
 have H142 := bk136 _ _ HQ141
 have hb144 := H142.rowC (i := 0) rfl
 replace hk143 : r138.length = l30.length := hk143
 refine WL.nil (Fin.res0 (res0 rfl) ?_)
 have hn145 : l27.length = r125.length := by first | omega | (simp only [List.length_set]; done) | (simp only [List.length_set, List.length_append, List.length_cons, List.length_nil, List.length_take, List.length_drop, List.length_replicate]; omega)
 have H146 : Own w D w140 [row A28 l30.length c29 (List.flatMap (eN .u64) r138) 30 1, row A25 r125.length c26 (List.flatMap (eN .u64) r125) 30 1, blk g0 [.slice A21 l23.length c22] 59, blk g1 [.slice A25 r125.length c26, .slice A28 l30.length c29] 65, row A21 l23.length c22 (List.flatMap rowD.cells d24) 72 6, sepL (List.flatMap rowD.own d24)] := by rw [← hn145]; exact H142
 have hn147 : l30.length = r138.length := by first | omega | (simp only [List.length_set]; done) | (simp only [List.length_set, List.length_append, List.length_cons, List.length_nil, List.length_take, List.length_drop, List.length_replicate]; omega)
 have H148 : Own w D w140 [row A28 r138.length c29 (List.flatMap (eN .u64) r138) 30 1, row A25 r125.length c26 (List.flatMap (eN .u64) r125) 30 1, blk g0 [.slice A21 l23.length c22] 59, blk g1 [.slice A25 r125.length c26, .slice A28 r138.length c29] 65, row A21 l23.length c22 (List.flatMap rowD.cells d24) 72 6, sepL (List.flatMap rowD.own d24)] := by rw [← hn147]; exact H146
 have H149 := H148.pk [2, 4, 5, 3, 1, 0]
 have e : locks_Table_settle p0 p1 = (TableT.mk (Ll.mk l23), changeT.mk (Ll.mk r125) (Ll.mk r138)) := et (bnd_of hL117) (et (bnd_of hr126) (bnd_of hr139))
 obtain ⟨rfl, rfl⟩ := pj2 (e.symm.trans hr)
 exact ⟨A21, c22, d24, A25, c26, A28, c29, (by first | rw [← hn145] | skip; first | rw [← hn147] | skip; first | done | rfl), H149, hi41⟩
end Go.Proofs.Ytggnajpokhaaiaa
