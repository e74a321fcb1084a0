/-
 locks: the document's answers: what is settled.
-/
import Derived.Test.YtggnajpokhaaiaaLkE
namespace Go.Proofs.Ytggnajpokhaaiaa
open Go.RowKit
set_option linter.unusedVariables false
set_option linter.unusedSectionVars false
set_option linter.unusedSimpArgs false
def r16_Table_settle_L1 (r114 : TableDT) (r98 : List Nat) : List Nat → List Nat → (List Nat)
  | [], l131 => l131
  | x145 :: q133, l131 => bnd (r16_Add l131 x145) fun yr154 => r16_Table_settle_L1 r114 r98 q133 yr154
def r16_Table_settle_L0 : Nat → List Nat → List Nat → List HeldD → List HeldD → Unit ⊕ ((List Nat) × (List Nat) × TableDT)
  | 0, l24, l27, l30, l33 => Sum.inl default
  | q34 + 1, l24, l27, l30, l33 => bnd (r16_Table_next (TableDT.mk (Ll.mk l30) (Ll.mk l33))) fun yr58 => if yr58.2 = true then bnd (r16_without l33 yr58.1.xTxn) fun yr78 => bnd (r16_Add l27 yr58.1.xTxn) fun yr98 => bnd (r16_Table_grant (TableDT.mk (Ll.mk l30) (Ll.mk yr78)) yr58.1) fun yr113 => bnd (r16_Table_settle_L1 yr113.2 yr98 yr113.1 l24) fun sLrLsbtbbbL => r16_Table_settle_L0 q34 sLrLsbtbbbL yr98 yr113.2.xH.ls yr113.2.xW.ls else Sum.inr (l27, l24, TableDT.mk (Ll.mk l30) (Ll.mk l33))
def r16_Table_settle (p0 : TableDT) (l1 : List Nat) : (List Nat) × (List Nat) × TableDT :=
 lp (r16_Table_settle_L0 (p0.xW.ls.length + 1) l1 ([]) p0.xH.ls p0.xW.ls) fun _ => default
set_option maxRecDepth 100000 in
theorem r16_Table_settle_ok (w : World) (D : Nat → Prop) (g0 : Nat) (p0 : TableDT) (A0x0 : Option Addr) (c0x0 : Nat) (A0x1 : Option Addr) (c0x1 : Nat) (A1 : Option Addr) (n1 c1 : Nat) (l1 : List Nat) (r0 : List Nat) (r1 : List Nat) (r2 : TableDT) (H : Own w D w [blk g0 [.slice A0x0 p0.xH.ls.length c0x0, .slice A0x1 p0.xW.ls.length c0x1] 29, row A0x0 p0.xH.ls.length c0x0 (List.flatMap HeldD.cells p0.xH.ls) 73 4, row A0x1 p0.xW.ls.length c0x1 (List.flatMap HeldD.cells p0.xW.ls) 73 4, row A1 n1 c1 (List.flatMap (eN .u64) l1) 30 1]) (hn1 : n1 = l1.length) (hl1 : l1.length * 8 ≤ 211106232532992) (hh0 : p0.xH.ls.length + p0.xW.ls.length ≤ 400) (hh1 : l1.length ≤ 400) (hr : r16_Table_settle p0 l1 = (r0, r1, r2)) :
    Calls Try.prog 35 #[.pointer (some ⟨g0, 0, none⟩), .slice A1 n1 c1] w (Ret fun v w' => ∃ (B0 : Option Addr) (b0 : Nat) (B1 : Option Addr) (b1 : Nat) (B2ox0 : Option Addr) (b2ox0 : Nat) (B2ox1 : Option Addr) (b2ox1 : Nat), v = .tuple #[.slice B0 r0.length b0, .slice B1 r1.length b1] ∧ Own w D w' [row B0 r0.length b0 (List.flatMap (eN .u64) r0) 30 1, row B1 r1.length b1 (List.flatMap (eN .u64) r1) 30 1, blk g0 [.slice B2ox0 r2.xH.ls.length b2ox0, .slice B2ox1 r2.xW.ls.length b2ox1] 29, row B2ox0 r2.xH.ls.length b2ox0 (List.flatMap HeldD.cells r2.xH.ls) 73 4, row B2ox1 r2.xW.ls.length b2ox1 (List.flatMap HeldD.cells r2.xW.ls) 73 4]) := by
 subst hn1
 have hc0x0 := H.rowC (i := 1) rfl
 have hc0x1 := H.rowC (i := 2) rfl
 have hc1 := H.rowC (i := 3) rfl
 refine Calls.body (args := [.pointer (some ⟨g0, 0, none⟩), .slice A1 l1.length c1]) Try.func35 rfl rfl rfl ?_
 show Wp _ _ _ [(0, .pointer (some ⟨g0, 0, none⟩)), (1, .slice A1 l1.length c1)] _ _
 refine sr (Az rfl (Ar rfl (An rfl (bo ?_))))
 have H21 : Own w D w [row none 0 0 (List.flatMap (eN .u64) ([])) 30 1, blk g0 [.slice A0x0 p0.xH.ls.length c0x0, .slice A0x1 p0.xW.ls.length c0x1] 29, row A0x0 p0.xH.ls.length c0x0 (List.flatMap HeldD.cells p0.xH.ls) 73 4, row A0x1 p0.xW.ls.length c0x1 (List.flatMap HeldD.cells p0.xW.ls) 73 4, row A1 l1.length c1 (List.flatMap (eN .u64) l1) 30 1] := H.free (row_nil 30 1)
 have H36 := H21.pk [1, 4, 0, 2, 3]
 obtain ⟨I40, hI41⟩ : ∃ q : ((Option Addr) × Nat × (List Nat) × (Option Addr) × Nat × (List Nat) × (Option Addr) × Nat × (List HeldD) × (Option Addr) × Nat × (List HeldD) × Nat) → World → Prop, q = fun (i : (Option Addr) × Nat × (List Nat) × (Option Addr) × Nat × (List Nat) × (Option Addr) × Nat × (List HeldD) × (Option Addr) × Nat × (List HeldD) × Nat) w' => Own w D w' [blk g0 [.slice i.2.2.2.2.2.2.1 i.2.2.2.2.2.2.2.2.1.length i.2.2.2.2.2.2.2.1, .slice i.2.2.2.2.2.2.2.2.2.1 i.2.2.2.2.2.2.2.2.2.2.2.1.length i.2.2.2.2.2.2.2.2.2.2.1] 29, row i.1 i.2.2.1.length i.2.1 (List.flatMap (eN .u64) i.2.2.1) 30 1, row i.2.2.2.1 i.2.2.2.2.2.1.length i.2.2.2.2.1 (List.flatMap (eN .u64) i.2.2.2.2.2.1) 30 1, row i.2.2.2.2.2.2.1 i.2.2.2.2.2.2.2.2.1.length i.2.2.2.2.2.2.2.1 (List.flatMap HeldD.cells i.2.2.2.2.2.2.2.2.1) 73 4, row i.2.2.2.2.2.2.2.2.2.1 i.2.2.2.2.2.2.2.2.2.2.2.1.length i.2.2.2.2.2.2.2.2.2.2.1 (List.flatMap HeldD.cells i.2.2.2.2.2.2.2.2.2.2.2.1) 73 4] ∧ (i.2.2.2.2.2.2.2.2.2.2.2.1.length ≤ p0.xW.ls.length ∧ i.2.2.2.2.2.2.2.2.1.length + i.2.2.2.2.2.2.2.2.2.2.2.1.length ≤ 400 ∧ i.2.2.2.2.2.1.length + i.2.2.2.2.2.2.2.2.2.2.2.1.length ≤ 400 ∧ i.2.2.1.length + 400 * i.2.2.2.2.2.2.2.2.2.2.2.1.length ≤ 160400 ∧ i.2.2.2.2.2.2.2.2.2.2.2.1.length < i.2.2.2.2.2.2.2.2.2.2.2.2 ∧ r16_Table_settle_L0 (p0.xW.ls.length + 1) l1 ([]) p0.xH.ls p0.xW.ls = r16_Table_settle_L0 i.2.2.2.2.2.2.2.2.2.2.2.2 i.2.2.1 i.2.2.2.2.2.1 i.2.2.2.2.2.2.2.2.1 i.2.2.2.2.2.2.2.2.2.2.2.1) := ⟨_, rfl⟩
 have dm42 : ∀ {A22 : Option Addr} {c23 : Nat} {l24 : List Nat} {A25 : Option Addr} {c26 : Nat} {l27 : List Nat} {A28 : Option Addr} {c29 : Nat} {l30 : List HeldD} {A31 : Option Addr} {c32 : Nat} {l33 : List HeldD} {f35 : Nat} {w' : World}, I40 (A22, c23, l24, A25, c26, l27, A28, c29, l30, A31, c32, l33, f35) w' ↔ Own w D w' [blk g0 [.slice A28 l30.length c29, .slice A31 l33.length c32] 29, row A22 l24.length c23 (List.flatMap (eN .u64) l24) 30 1, row A25 l27.length c26 (List.flatMap (eN .u64) l27) 30 1, row A28 l30.length c29 (List.flatMap HeldD.cells l30) 73 4, row A31 l33.length c32 (List.flatMap HeldD.cells l33) 73 4] ∧ l33.length ≤ p0.xW.ls.length ∧ l30.length + l33.length ≤ 400 ∧ l27.length + l33.length ≤ 400 ∧ l24.length + 400 * l33.length ≤ 160400 ∧ l33.length < f35 ∧ r16_Table_settle_L0 (p0.xW.ls.length + 1) l1 ([]) p0.xH.ls p0.xW.ls = r16_Table_settle_L0 f35 l24 l27 l30 l33 := by intros; subst hI41; exact Iff.rfl
 refine Wp.loop (fun i : (Option Addr) × Nat × (List Nat) × (Option Addr) × Nat × (List Nat) × (Option Addr) × Nat × (List HeldD) × (Option Addr) × Nat × (List HeldD) × Nat => [(1, .slice i.1 i.2.2.1.length i.2.1), (4, .slice none 0 0), (5, .slice none 0 0), (6, .slice i.2.2.2.1 i.2.2.2.2.2.1.length i.2.2.2.2.1), (0, .pointer (some ⟨g0, 0, none⟩))]) I40 (fun i => i.2.2.2.2.2.2.2.2.2.2.2.2) (A1, c1, l1, none, 0, [], A0x0, c0x0, p0.xH.ls, A0x1, c0x1, p0.xW.ls, p0.xW.ls.length + 1) ⟨rfl, rfl, rfl, rfl, rfl, trivial⟩ (dm42.2 ⟨H36, (show p0.xW.ls.length ≤ p0.xW.ls.length ∧ p0.xH.ls.length + p0.xW.ls.length ≤ 400 ∧ 0 + p0.xW.ls.length ≤ 400 ∧ l1.length + 400 * p0.xW.ls.length ≤ 160400 ∧ p0.xW.ls.length < (p0.xW.ls.length + 1) ∧ r16_Table_settle_L0 (p0.xW.ls.length + 1) l1 ([]) p0.xH.ls p0.xW.ls = r16_Table_settle_L0 (p0.xW.ls.length + 1) l1 ([]) p0.xH.ls p0.xW.ls from ⟨by omega, by omega, by omega, by omega, by omega, rfl⟩)⟩) ?_
 rintro ⟨A22, c23, l24, A25, c26, l27, A28, c29, l30, A31, c32, l33, f35⟩ w37 hf39
 show Wp _ _ _ [(1, .slice A22 l24.length c23), (4, .slice none 0 0), (5, .slice none 0 0), (6, .slice A25 l27.length c26), (0, .pointer (some ⟨g0, 0, none⟩))] _ _
 obtain ⟨H38, hi44, hi45, hi46, hi47, hi48, hq43⟩ := dm42.1 hf39
 obtain ⟨f49, hf50⟩ : ∃ q, f35 = q + 1 := ⟨f35 - 1, by omega⟩
 subst hf50
 refine bo (sr (Mz rfl ?_))
 have hb56 := H38.rowC (i := 3) rfl
 have hb57 := H38.rowC (i := 4) rfl
 obtain ⟨⟨r58, r59⟩, hr60⟩ : ∃ q : HeldD × Bool, r16_Table_next (TableDT.mk (Ll.mk l30) (Ll.mk l33)) = q := ⟨_, rfl⟩
 obtain ⟨D51, HP52, ro53, bk54, rr55⟩ := Own.enter1 H38
 refine cl Try.call57 (r16_Table_next_ok _ _ g0 (TableDT.mk (Ll.mk l30) (Ll.mk l33)) A28 c29 A31 c32 r58 r59 HP52 (rr55 _ 2 _ rfl row_rds) (show l30.length ≤ c29 ∧ l30.length ≤ 9223372036854775807 from by omega) (rr55 _ 3 _ rfl row_rds) (show l33.length ≤ c32 ∧ l33.length ≤ 9223372036854775807 from by omega) hr60) ?_
 rintro _ w61 ⟨rfl, HQ62⟩
 have H63 := bk54 _ _ HQ62
 refine Mz rfl (Kz (.agg (HeldD.cells r58).toArray) (Kz (.bool r59) ?_))
 refine npw [.int .u64 0, .string ⟨List.toArray ([])⟩, .string ⟨List.toArray ([])⟩, .bool false] 73 H63 ?_
 intro g64 w65 H66
 refine sto (HeldD.cells r58) 0 H66 Try.sizeOf73 ?_
 intro w67 H68
 refine An rfl (Wp.seq (sr (Mz rfl (Kz (.bool (!r59)) (nt ?_)))))
 rcases Bool.eq_false_or_eq_true (r59) with h69 | h69
 refine jF (cn h69) (sk (Wp.seq ?_))
 have H71 := H68.drew
 refine Wp.drawnX [10] (fun W => ∃ L', Own w D W ([blk g64 (HeldD.cells r58) 73, blk g0 [.slice A28 l30.length c29, .slice A31 l33.length c32] 29, row A22 l24.length c23 (List.flatMap (eN .u64) l24) 30 1, row A25 l27.length c26 (List.flatMap (eN .u64) l27) 30 1, row A28 l30.length c29 (List.flatMap HeldD.cells l30) 73 4, row A31 l33.length c32 (List.flatMap HeldD.cells l33) 73 4] ++ L')) (by kernel_rfl) (by kernel_rfl) (NoP.then (NoP.block (NoP.then (NoP.block NoP.base)))) ⟨_, H71⟩ ?_
 revert H71
 generalize World.drew w67 = w70
 intro H71
 refine GX.take (v := .pointer (some ⟨g0, 0, none⟩)) (rs := [[]]) 0 rfl (by kernel_rfl) (fun _ _ => Yl.move rfl) (GX.take (v := .pointer (some ⟨g0, 0, none⟩)) (rs := [[]]) 1 rfl (by kernel_rfl) (fun _ _ => Yl.move rfl) (GX.take (v := .pointer (some ⟨g0, 0, none⟩)) (rs := [[]]) 2 rfl (by kernel_rfl) (fun _ _ => yk) (GX.take (v := .pointer (some ⟨g0, 1, none⟩)) (rs := [[]]) 3 rfl (by kernel_rfl) (fun _ _ => yk) (GX.take (v := .slice A31 l33.length c32) (rs := [[]]) 4 rfl (by kernel_rfl) (fun _ ⟨_, H9⟩ => Yl.load rfl (Lds.one Try.isAgg27 (Cls.of (H9.cls (i := 1) rfl) rfl))) (GX.take (v := .pointer (some ⟨g64, 0, none⟩)) (rs := [[]]) 5 rfl (by kernel_rfl) (fun _ _ => yk) (GX.take (v := .int .u64 ((r58.xTxn : Nat) : Int)) (rs := [[]]) 6 rfl (by kernel_rfl) (fun _ ⟨_, H9⟩ => Yl.load rfl (Lds.one Try.isAgg30 (Cls.of (H9.cls (i := 0) rfl) rfl))) ?_))))))
 have hb77 := H71.rowC (i := 5) rfl
 obtain ⟨r78, hr79⟩ : ∃ q, r16_without l33 r58.xTxn = q := ⟨_, rfl⟩
 obtain ⟨D72, HP73, ro74, bk75, rr76⟩ := Own.enter0 H71
 refine GX.do 7 rfl (by kernel_rfl) (Do.call Try.call38 rfl (r16_without_ok _ _ A31 l33.length c32 l33 r58.xTxn r78 HP73 (rr76 _ 5 _ rfl row_rds) rfl (by omega) (by first | omega | (simp only [List.length_take, List.length_drop]; omega) | exact Nat.le_refl _) (by first | omega | exact Nat.zero_le _ | (simp only [List.length_append, List.length_cons, List.length_nil]; omega)) hr79) ?_)
 rintro _ w80 ⟨A83, c84, rfl, HQ81, hk85⟩
 have H82 := bk75 _ _ HQ81
 have hb86 := H82.rowC (i := 0) rfl
 replace hk85 : r78.length ≤ l33.length := hk85
 have hz87 : r78.length + 1 ≤ l33.length := wo_lt hr60 h69 hr79
 have H88 := H82.pk [1, 2, 3, 4, 5, 6, 0]
 refine ⟨.inr ⟨_, H88⟩, ?_⟩
 refine GX.take (v := .pointer (some ⟨g0, 0, none⟩)) (rs := [[9]]) 8 rfl (by kernel_rfl) (fun _ _ => yk) (GX.take (v := .pointer (some ⟨g0, 1, none⟩)) (rs := [[]]) 9 rfl (by kernel_rfl) (fun _ _ => yk) ?_)
 have H89 := H88.pk [1, 0, 2, 3, 4, 5, 6]
 refine GX.do0 10 rfl (by kernel_rfl) (Do.store (vs := [.slice A83 r78.length c84]) (o := 1) H89 rfl rfl Try.sizeOf27 rfl rfl rfl rfl ?_)
 intro w90 H91
 refine ⟨.inl (by kernel_rfl), ?_⟩
 refine GX.done (by kernel_rfl) (Fin.then (sr (Mz rfl (Kz (.pointer (some ⟨g64, 0, none⟩)) (Lz (.int .u64 ((r58.xTxn : Nat) : Int)) H91 1 Try.isAgg30 ?_)))))
 have H92 := H91.pk [3, 0, 1, 2, 4, 5, 6]
 obtain ⟨r98, hr99⟩ : ∃ q, r16_Add l27 r58.xTxn = q := ⟨_, rfl⟩
 obtain ⟨D93, HP94, ro95, bk96, rr97⟩ := Own.enter1 H92
 refine cl Try.call56 (r16_Add_ok _ _ A25 l27.length c26 l27 r58.xTxn r98 HP94 rfl (by omega) (by first | omega | exact Nat.zero_le _) hr99) ?_
 rintro _ w100 ⟨A103, c104, rfl, HQ101, hk105⟩
 have H102 := bk96 _ _ HQ101
 have hb106 := H102.rowC (i := 0) rfl
 replace hk105 : r98.length ≤ l27.length + 1 := hk105
 refine Ar rfl (Mz rfl (La (HeldD.cells r58) H102 2 Try.isAgg73 Try.sizeOf73 ?_))
 have H107 := H102.pk [1, 4, 6, 0, 2, 3, 5]
 obtain ⟨⟨r113, r114⟩, hr115⟩ : ∃ q : (List Nat) × TableDT, r16_Table_grant (TableDT.mk (Ll.mk l30) (Ll.mk r78)) r58 = q := ⟨_, rfl⟩
 obtain ⟨D108, HP109, ro110, bk111, rr112⟩ := Own.enter3 H107
 refine cl Try.call34 (r16_Table_grant_ok _ _ g0 (TableDT.mk (Ll.mk l30) (Ll.mk r78)) A28 c29 A83 c84 r58 r113 r114 HP109 (by first | omega | (dsimp only; omega)) hr115) ?_
 rintro _ w116 ⟨A119, c120, A121, c122, A123, c124, rfl, HQ117, hk125⟩
 have H118 := bk111 _ _ HQ117
 have hb126 := H118.rowC (i := 0) rfl
 have hb127 := H118.rowC (i := 2) rfl
 have hb128 := H118.rowC (i := 3) rfl
 replace hk125 : r114.xH.ls.length ≤ l30.length + 1 ∧ r114.xW.ls.length ≤ r78.length ∧ r113.length ≤ r78.length := hk125
 refine Kz (.int .i64 ((r113.length : Nat) : Int)) (Mn rfl (bo ?_))
 have H134 := H118.pk [0, 1, 2, 3, 4, 6]
 obtain ⟨I138, hI139⟩ : ∃ q : ((Option Addr) × Nat × (List Nat) × Nat) → World → Prop, q = fun (i : (Option Addr) × Nat × (List Nat) × Nat) w' => Own w D w' [row A119 r113.length c120 (List.flatMap (eN .u64) r113) 30 1, blk g0 [.slice A121 r114.xH.ls.length c122, .slice A123 r114.xW.ls.length c124] 29, row A121 r114.xH.ls.length c122 (List.flatMap HeldD.cells r114.xH.ls) 73 4, row A123 r114.xW.ls.length c124 (List.flatMap HeldD.cells r114.xW.ls) 73 4, row A103 r98.length c104 (List.flatMap (eN .u64) r98) 30 1, row i.1 i.2.2.1.length i.2.1 (List.flatMap (eN .u64) i.2.2.1) 30 1] ∧ (i.2.2.2 ≤ r113.length ∧ i.2.2.1.length ≤ l24.length + i.2.2.2 ∧ r16_Table_settle_L1 r114 r98 r113 l24 = r16_Table_settle_L1 r114 r98 (List.drop i.2.2.2 r113) i.2.2.1) := ⟨_, rfl⟩
 have dm140 : ∀ {A129 : Option Addr} {c130 : Nat} {l131 : List Nat} {k132 : Nat} {w' : World}, I138 (A129, c130, l131, k132) w' ↔ Own w D w' [row A119 r113.length c120 (List.flatMap (eN .u64) r113) 30 1, blk g0 [.slice A121 r114.xH.ls.length c122, .slice A123 r114.xW.ls.length c124] 29, row A121 r114.xH.ls.length c122 (List.flatMap HeldD.cells r114.xH.ls) 73 4, row A123 r114.xW.ls.length c124 (List.flatMap HeldD.cells r114.xW.ls) 73 4, row A103 r98.length c104 (List.flatMap (eN .u64) r98) 30 1, row A129 l131.length c130 (List.flatMap (eN .u64) l131) 30 1] ∧ k132 ≤ r113.length ∧ l131.length ≤ l24.length + k132 ∧ r16_Table_settle_L1 r114 r98 r113 l24 = r16_Table_settle_L1 r114 r98 (List.drop k132 r113) l131 := by intros; subst hI139; exact Iff.rfl
 refine Wp.loop (fun i : (Option Addr) × Nat × (List Nat) × Nat => [(1, .slice i.1 i.2.2.1.length i.2.1), (38, .int .i64 ((i.2.2.2 : Nat) : Int)), (37, .int .i64 ((r113.length : Nat) : Int)), (36, .slice A119 r113.length c120), (6, .slice A103 r98.length c104), (4, .slice none 0 0), (5, .slice none 0 0), (0, .pointer (some ⟨g0, 0, none⟩))]) I138 (fun i => r113.length - i.2.2.2) (A22, c23, l24, 0) ⟨rfl, rfl, rfl, rfl, rfl, rfl, rfl, rfl, trivial⟩ (dm140.2 ⟨H134, by omega, by omega, rfl⟩) ?_
 rintro ⟨A129, c130, l131, k132⟩ w135 hf137
 show Wp _ _ _ [(1, .slice A129 l131.length c130), (38, .int .i64 ((k132 : Nat) : Int)), (37, .int .i64 ((r113.length : Nat) : Int)), (36, .slice A119 r113.length c120), (6, .slice A103 r98.length c104), (4, .slice none 0 0), (5, .slice none 0 0), (0, .pointer (some ⟨g0, 0, none⟩))] _ _
 obtain ⟨H136, hi142, hi143, hq141⟩ := dm140.1 hf137
 refine sr (Kz (.bool (decide (((k132 : Nat) : Int) < ((r113.length : Nat) : Int)))) (nt (Wp.seq ?_)))
 by_cases h144 : ((k132 : Nat) : Int) < ((r113.length : Nat) : Int)
 obtain ⟨x145, hx146⟩ := rds_at (ls := r113) (i := k132) eN_len (by decide) (H136.rds (i := 0) rfl) (by first | omega | (simp; done) | (simp; omega))
 have hd147 := drop_at hx146
 refine jT (dT h144) (sk (Wp.seq (bo (sr (fw (.pointer (some ⟨ab A119, ao A119 + k132 * 1, none⟩)) (Yl.indexAddr (El37) rfl rfl ((H136.rds (i := 0) rfl).addr (i := k132) (by omega)) (by omega)) (fw (.int .u64 ((x145 : Nat) : Int)) (Yl.load rfl (Lds.one Try.isAgg30 (((H136.rds (i := 0) rfl).elem eN_len hx146 (by decide)).at_ (k := 0) rfl))) (An rfl (Wp.region (Mz rfl (Mz rfl ?_))))))))))
 have H148 := H136.pk [5, 0, 1, 2, 3, 4]
 obtain ⟨r154, hr155⟩ : ∃ q, r16_Add l131 x145 = q := ⟨_, rfl⟩
 obtain ⟨D149, HP150, ro151, bk152, rr153⟩ := Own.enter1 H148
 refine cl Try.call56 (r16_Add_ok _ _ A129 l131.length c130 l131 x145 r154 HP150 rfl (by omega) (by first | omega | exact Nat.zero_le _) hr155) ?_
 rintro _ w156 ⟨A159, c160, rfl, HQ157, hk161⟩
 have H158 := bk152 _ _ HQ157
 have hb162 := H158.rowC (i := 0) rfl
 replace hk161 : r154.length ≤ l131.length + 1 := hk161
 refine Az rfl (WL.nil (bN (Fin.then (Wp.region (fw (.int .i64 ((k132 + 1 : Nat) : Int)) (Yl.int (e := IntKind.i64.wrap (((k132 : Nat) : Int) + 1)) yk (by rw [IntWalk.i64_in _ (by omega)]; omega)) (Mz rfl (WL.nil ?_)))))))
 have H163 := H158.pk [1, 2, 3, 4, 5, 0]
 exact Fin.round (A159, c160, r154, k132 + 1) ⟨rfl, rfl, rfl, rfl, rfl, rfl, rfl, rfl, trivial⟩ (dm140.2 ⟨H163, by omega, by omega, et (hq141) (et (congrArg (fun q => r16_Table_settle_L1 r114 r98 q l131) hd147) (bnd_of hr155))⟩) (by show r113.length - (k132 + 1) < r113.length - k132; omega)
 refine jF (dF h144) (Wp.exit (Fin.thenX ?_))
 have hL164 : r16_Table_settle_L1 r114 r98 r113 l24 = l131 := et (hq141) (et (congrArg (fun q => r16_Table_settle_L1 r114 r98 q l131) (drop_end (ls := r113) (i := k132) (by omega))) rfl)
 refine Fin.thenX (Fin.blockX (bN ?_))
 have H165 := H136.pk [1, 5, 4, 2, 3]
 exact Fin.round (A129, c130, l131, A103, c104, r98, A121, c122, r114.xH.ls, A123, c124, r114.xW.ls, f49) ⟨rfl, rfl, rfl, rfl, rfl, trivial⟩ (dm42.2 ⟨H165, by omega, by omega, by omega, by omega, by omega, et (hq43) (et (bnd_of hr60) (et (ip h69) (et (bnd_of hr79) (et (bnd_of hr99) (et (bnd_of hr115) (bnd_of hL164))))))⟩) (by show f49 < f49 + 1; omega)
 refine jT (cn h69) (sr (Mz rfl (Mz rfl (Az rfl (An rfl (rt (tR (bR (tR (bR (Fin.res (res2 rfl rfl rfl) ?_)))))))))))
 have H166 := H68.pk [3, 2, 1, 4, 5]
 have e : r16_Table_settle p0 l1 = (l27, l24, TableDT.mk (Ll.mk l30) (Ll.mk l33)) := lp_r (et (hq43) (et (bnd_of hr60) (ifF h69)))
 obtain ⟨rfl, rfl, rfl⟩ := pj3 (e.symm.trans hr)
 exact ⟨A25, c26, A22, c23, A28, c29, A31, c32, rfl, H166⟩
def r16_Table_Ask_L0 (p0 : TableDT) (p1 : Nat) (p2 : LockD) : List HeldD → Bool → Bool ⊕ (Int × (List Nat) × (List Nat) × Int × TableDT)
  | [], b57 => Sum.inl b57
  | x70 :: q59, b57 => if ((x70.xTxn : Nat) : Int) = ((p1 : Nat) : Int) then bnd (r02_Covers x70.xLock.xRange p2.xRange) fun yr84 => if yr84 = true then if x70.xLock.xWrite = true then Sum.inr (1, [], [], 0, p0) else if p2.xWrite = true then bnd (r16_Way x70 (HeldD.mk p1 p2)) fun yr100 => if yr100 = true then r16_Table_Ask_L0 p0 p1 p2 q59 b57 else r16_Table_Ask_L0 p0 p1 p2 q59 b57 else Sum.inr (1, [], [], 0, p0) else bnd (r16_Way x70 (HeldD.mk p1 p2)) fun yr119 => if yr119 = true then r16_Table_Ask_L0 p0 p1 p2 q59 b57 else r16_Table_Ask_L0 p0 p1 p2 q59 b57 else bnd (r16_Way x70 (HeldD.mk p1 p2)) fun yr135 => if yr135 = true then if ((x70.xTxn : Nat) : Int) < ((p1 : Nat) : Int) then r16_Table_Ask_L0 p0 p1 p2 q59 false else r16_Table_Ask_L0 p0 p1 p2 q59 b57 else r16_Table_Ask_L0 p0 p1 p2 q59 b57
def r16_Table_Ask (p0 : TableDT) (p1 : Nat) (p2 : LockD) : Int × (List Nat) × (List Nat) × Int × TableDT :=
 bnd (r02_Check p2.xRange) fun yr29 => if yr29 = 0 then bnd (r16_Table_waits p0 p1) fun yr43 => if yr43 = true then (0, [], [], 4, p0) else lp (r16_Table_Ask_L0 p0 p1 p2 p0.xH.ls true) fun sLrbtbfL => if ((p0.xH.ls.length + p0.xW.ls.length : Nat) : Int) ≥ 192 then (3, [], [], 0, p0) else bnd (r16_Table_free p0 (HeldD.mk p1 p2)) fun yr164 => if yr164 = true then bnd (r16_Table_grant p0 (HeldD.mk p1 p2)) fun yr176 => bnd (r16_Table_settle yr176.2 yr176.1) fun yr198 => (1, yr198.1, yr198.2.1, 0, yr198.2.2) else if sLrbtbfL = true then bnd (r16_Table_wait p0 (HeldD.mk p1 p2)) fun yr225 => (2, [], [], 0, yr225) else (3, [], [], 0, p0) else (0, [], [], 21, p0)
set_option maxRecDepth 100000 in
theorem r16_Table_Ask_ok (w : World) (D : Nat → Prop) (g0 : Nat) (p0 : TableDT) (A0x0 : Option Addr) (c0x0 : Nat) (A0x1 : Option Addr) (c0x1 : Nat) (p1 : Nat) (p2 : LockD) (r0 : Int) (r1 : List Nat) (r2 : List Nat) (r3 : Int) (r4 : TableDT) (H : Own w D w [blk g0 [.slice A0x0 p0.xH.ls.length c0x0, .slice A0x1 p0.xW.ls.length c0x1] 29, row A0x0 p0.xH.ls.length c0x0 (List.flatMap HeldD.cells p0.xH.ls) 73 4, row A0x1 p0.xW.ls.length c0x1 (List.flatMap HeldD.cells p0.xW.ls) 73 4]) (hh0 : p0.xH.ls.length + p0.xW.ls.length ≤ 192) (hr : r16_Table_Ask p0 p1 p2 = (r0, r1, r2, r3, r4)) :
    Calls Try.prog 11 #[.pointer (some ⟨g0, 0, none⟩), .int .u64 ((p1 : Nat) : Int), .agg (LockD.cells p2).toArray] w (Ret fun v w' => ∃ (B1 : Option Addr) (b1 : Nat) (B2 : Option Addr) (b2 : Nat) (B4ox0 : Option Addr) (b4ox0 : Nat) (B4ox1 : Option Addr) (b4ox1 : Nat), v = .tuple #[.int .i64 r0, .slice B1 r1.length b1, .slice B2 r2.length b2, .int .i64 r3] ∧ Own w D w' [row B1 r1.length b1 (List.flatMap (eN .u64) r1) 30 1, row B2 r2.length b2 (List.flatMap (eN .u64) r2) 30 1, blk g0 [.slice B4ox0 r4.xH.ls.length b4ox0, .slice B4ox1 r4.xW.ls.length b4ox1] 29, row B4ox0 r4.xH.ls.length b4ox0 (List.flatMap HeldD.cells r4.xH.ls) 73 4, row B4ox1 r4.xW.ls.length b4ox1 (List.flatMap HeldD.cells r4.xW.ls) 73 4]) := by
 have hc0x0 := H.rowC (i := 1) rfl
 have hc0x1 := H.rowC (i := 2) rfl
 refine Calls.body (args := [.pointer (some ⟨g0, 0, none⟩), .int .u64 ((p1 : Nat) : Int), .agg (LockD.cells p2).toArray]) Try.func11 rfl rfl rfl ?_
 show Wp _ _ _ [(0, .pointer (some ⟨g0, 0, none⟩)), (1, .int .u64 ((p1 : Nat) : Int)), (2, .agg (LockD.cells p2).toArray)] _ _
 refine sr ?_
 refine npw (LockD.cells p2) 34 H ?_
 intro g21 w22 H23
 refine Az rfl (Az rfl (Az rfl (An rfl (Wp.seq (sr (Kz (.pointer (some ⟨g21, 0, none⟩)) (La (RangeD.cells p2.xRange) H23 0 Try.isAgg32 Try.sizeOf32 ?_)))))))
 obtain ⟨r29, hr30⟩ : ∃ q, r02_Check p2.xRange = q := ⟨_, rfl⟩
 obtain ⟨D24, HP25, ro26, bk27, rr28⟩ := Own.enter0 H23
 refine cl Try.call29 (r02_Check_ok _ _ p2.xRange r29 HP25 hr30) ?_
 rintro _ w31 ⟨rfl, HQ32⟩
 have H33 := bk27 _ _ HQ32
 refine fw (.bool (decide (¬ (r29 = 0)))) (Yl.bool (e := !(decide (r29 = 0))) yk decide_not.symm) (nt ?_)
 by_cases h34 : r29 = 0
 refine jF (dF (not_not_intro h34)) (sk (Wp.seq (sr (Mz rfl (Mz rfl ?_)))))
 have H35 := H33.pk [1, 0, 2, 3]
 have hb41 := H35.rowC (i := 2) rfl
 have hb42 := H35.rowC (i := 3) rfl
 obtain ⟨r43, hr44⟩ : ∃ q, r16_Table_waits p0 p1 = q := ⟨_, rfl⟩
 obtain ⟨D36, HP37, ro38, bk39, rr40⟩ := Own.enter1 H35
 refine cl Try.call30 (r16_Table_waits_ok _ _ g0 p0 A0x0 c0x0 A0x1 c0x1 p1 r43 HP37 (rr40 _ 1 _ rfl row_rds) (show p0.xH.ls.length ≤ c0x0 ∧ p0.xH.ls.length ≤ 9223372036854775807 from by omega) (rr40 _ 2 _ rfl row_rds) (show p0.xW.ls.length ≤ c0x1 ∧ p0.xW.ls.length ≤ 9223372036854775807 from by omega) hr44) ?_
 rintro _ w45 ⟨rfl, HQ46⟩
 have H47 := bk39 _ _ HQ46
 refine nt ?_
 rcases Bool.eq_false_or_eq_true (r43) with h48 | h48
 refine jT h48 (sr (Az rfl (Az rfl (Az rfl (An rfl (rt (tR (Fin.res (res4 rfl rfl rfl rfl rfl) ?_))))))))
 have H49 : Own w D w45 [row none 0 0 (List.flatMap (eN .u64) ([])) 30 1, blk g0 [.slice A0x0 p0.xH.ls.length c0x0, .slice A0x1 p0.xW.ls.length c0x1] 29, blk g21 (LockD.cells p2) 34, row A0x0 p0.xH.ls.length c0x0 (List.flatMap HeldD.cells p0.xH.ls) 73 4, row A0x1 p0.xW.ls.length c0x1 (List.flatMap HeldD.cells p0.xW.ls) 73 4] := H47.free (row_nil 30 1)
 have H50 : Own w D w45 [row none 0 0 (List.flatMap (eN .u64) ([])) 30 1, row none 0 0 (List.flatMap (eN .u64) ([])) 30 1, blk g0 [.slice A0x0 p0.xH.ls.length c0x0, .slice A0x1 p0.xW.ls.length c0x1] 29, blk g21 (LockD.cells p2) 34, row A0x0 p0.xH.ls.length c0x0 (List.flatMap HeldD.cells p0.xH.ls) 73 4, row A0x1 p0.xW.ls.length c0x1 (List.flatMap HeldD.cells p0.xW.ls) 73 4] := H49.free (row_nil 30 1)
 have H51 := H50.pk [1, 0, 2, 4, 5]
 have e : r16_Table_Ask p0 p1 p2 = (0, [], [], 4, p0) := et (bnd_of hr30) (et (ip h34) (et (bnd_of hr44) (ip h48)))
 obtain ⟨rfl, rfl, rfl, rfl, rfl⟩ := pj5 (e.symm.trans hr)
 exact ⟨none, 0, none, 0, A0x0, c0x0, A0x1, c0x1, rfl, H51⟩
 refine jF h48 (sk (sr (Mz rfl (La (LockD.cells p2) H47 1 Try.isAgg34 Try.sizeOf34 (Kz (.agg #[.int .u64 ((p1 : Nat) : Int), .string ⟨List.toArray p2.xRange.xLo⟩, .string ⟨List.toArray p2.xRange.xHi⟩, .bool p2.xWrite]) ?_)))))
 refine npw [.int .u64 0, .string ⟨List.toArray ([])⟩, .string ⟨List.toArray ([])⟩, .bool false] 73 H47 ?_
 intro g52 w53 H54
 refine sto [.int .u64 ((p1 : Nat) : Int), .string ⟨List.toArray p2.xRange.xLo⟩, .string ⟨List.toArray p2.xRange.xHi⟩, .bool p2.xWrite] 0 H54 Try.sizeOf73 ?_
 intro w55 H56
 refine ns (An rfl (Wp.seq (sr (Mz rfl (Kz (.pointer (some ⟨g0, 0, none⟩)) (Kz (.pointer (some ⟨g0, 0, none⟩)) (Lz (.slice A0x0 p0.xH.ls.length c0x0) H56 1 Try.isAgg27 (Kz (.int .i64 ((p0.xH.ls.length : Nat) : Int)) (Mn rfl (bo ?_))))))))))
 have H60 := H56.pk [0, 1, 2, 3, 4]
 obtain ⟨I64, hI65⟩ : ∃ q : (Bool × Nat) → World → Prop, q = fun (i : Bool × Nat) w' => Own w D w' [blk g52 [.int .u64 ((p1 : Nat) : Int), .string ⟨List.toArray p2.xRange.xLo⟩, .string ⟨List.toArray p2.xRange.xHi⟩, .bool p2.xWrite] 73, blk g0 [.slice A0x0 p0.xH.ls.length c0x0, .slice A0x1 p0.xW.ls.length c0x1] 29, blk g21 (LockD.cells p2) 34, row A0x0 p0.xH.ls.length c0x0 (List.flatMap HeldD.cells p0.xH.ls) 73 4, row A0x1 p0.xW.ls.length c0x1 (List.flatMap HeldD.cells p0.xW.ls) 73 4] ∧ (i.2 ≤ p0.xH.ls.length ∧ r16_Table_Ask_L0 p0 p1 p2 p0.xH.ls true = r16_Table_Ask_L0 p0 p1 p2 (List.drop i.2 p0.xH.ls) i.1) := ⟨_, rfl⟩
 have dm66 : ∀ {b57 : Bool} {k58 : Nat} {w' : World}, I64 (b57, k58) w' ↔ Own w D w' [blk g52 [.int .u64 ((p1 : Nat) : Int), .string ⟨List.toArray p2.xRange.xLo⟩, .string ⟨List.toArray p2.xRange.xHi⟩, .bool p2.xWrite] 73, blk g0 [.slice A0x0 p0.xH.ls.length c0x0, .slice A0x1 p0.xW.ls.length c0x1] 29, blk g21 (LockD.cells p2) 34, row A0x0 p0.xH.ls.length c0x0 (List.flatMap HeldD.cells p0.xH.ls) 73 4, row A0x1 p0.xW.ls.length c0x1 (List.flatMap HeldD.cells p0.xW.ls) 73 4] ∧ k58 ≤ p0.xH.ls.length ∧ r16_Table_Ask_L0 p0 p1 p2 p0.xH.ls true = r16_Table_Ask_L0 p0 p1 p2 (List.drop k58 p0.xH.ls) b57 := by intros; subst hI65; exact Iff.rfl
 refine Wp.loop (fun i : Bool × Nat => [(6, .int .i64 0), (7, .slice none 0 0), (8, .slice none 0 0), (9, .int .i64 0), (11, .bool i.1), (29, .int .i64 ((i.2 : Nat) : Int)), (28, .int .i64 ((p0.xH.ls.length : Nat) : Int)), (27, .slice A0x0 p0.xH.ls.length c0x0), (10, .pointer (some ⟨g52, 0, none⟩)), (5, .pointer (some ⟨g21, 0, none⟩)), (0, .pointer (some ⟨g0, 0, none⟩)), (1, .int .u64 ((p1 : Nat) : Int))]) I64 (fun i => p0.xH.ls.length - i.2) (true, 0) ⟨rfl, rfl, rfl, rfl, rfl, rfl, rfl, rfl, rfl, rfl, rfl, rfl, trivial⟩ (dm66.2 ⟨H60, (show 0 ≤ p0.xH.ls.length ∧ r16_Table_Ask_L0 p0 p1 p2 p0.xH.ls true = r16_Table_Ask_L0 p0 p1 p2 (List.drop 0 p0.xH.ls) true from ⟨by omega, rfl⟩)⟩) ?_
 rintro ⟨b57, k58⟩ w61 hf63
 show Wp _ _ _ [(6, .int .i64 0), (7, .slice none 0 0), (8, .slice none 0 0), (9, .int .i64 0), (11, .bool b57), (29, .int .i64 ((k58 : Nat) : Int)), (28, .int .i64 ((p0.xH.ls.length : Nat) : Int)), (27, .slice A0x0 p0.xH.ls.length c0x0), (10, .pointer (some ⟨g52, 0, none⟩)), (5, .pointer (some ⟨g21, 0, none⟩)), (0, .pointer (some ⟨g0, 0, none⟩)), (1, .int .u64 ((p1 : Nat) : Int))] _ _
 obtain ⟨H62, hi68, hq67⟩ := dm66.1 hf63
 refine sr (Kz (.bool (decide (((k58 : Nat) : Int) < ((p0.xH.ls.length : Nat) : Int)))) (nt (Wp.seq ?_)))
 by_cases h69 : ((k58 : Nat) : Int) < ((p0.xH.ls.length : Nat) : Int)
 obtain ⟨x70, hx71⟩ := rds_at (ls := p0.xH.ls) (i := k58) HeldD.len (by decide) (H62.rds (i := 3) rfl) (by first | omega | (simp; done) | (simp; omega))
 have hd72 := drop_at hx71
 refine jT (dT h69) (sk (Wp.seq (bo (sr (fw (.pointer (some ⟨ab A0x0, ao A0x0 + k58 * 4, none⟩)) (Yl.indexAddr (El27) rfl rfl ((H62.rds (i := 3) rfl).addr (i := k58) (by omega)) (by omega)) (fw (.agg (HeldD.cells x70).toArray) (Yl.load rfl (Lds.agg (cs := (HeldD.cells x70)) Try.isAgg73 Try.sizeOf73 ((H62.rds (i := 3) rfl).elem HeldD.len hx71 (by decide)))) ?_))))))
 refine npw [.int .u64 0, .string ⟨List.toArray ([])⟩, .string ⟨List.toArray ([])⟩, .bool false] 73 H62 ?_
 intro g73 w74 H75
 refine sto (HeldD.cells x70) 0 H75 Try.sizeOf73 ?_
 intro w76 H77
 refine nt (Wp.seq (sr (Kz (.pointer (some ⟨g73, 0, none⟩)) (Lz (.int .u64 ((x70.xTxn : Nat) : Int)) H77 0 Try.isAgg30 (Mz rfl (Kz (.bool (decide (((x70.xTxn : Nat) : Int) = ((p1 : Nat) : Int)))) (Mz rfl ?_)))))))
 by_cases h78 : ((x70.xTxn : Nat) : Int) = ((p1 : Nat) : Int)
 refine Gz (.pointer (some ⟨g73, 1, none⟩)) (dT h78) (Gz (.pointer (some ⟨g73, 1, none⟩)) (dT h78) (Ga (RangeD.cells x70.xLock.xRange) (dT h78) H77 0 Try.isAgg32 Try.sizeOf32 (Gz (.pointer (some ⟨g21, 0, none⟩)) (dT h78) (Ga (RangeD.cells p2.xRange) (dT h78) H77 3 Try.isAgg32 Try.sizeOf32 ?_))))
 obtain ⟨r84, hr85⟩ : ∃ q, r02_Covers x70.xLock.xRange p2.xRange = q := ⟨_, rfl⟩
 obtain ⟨D79, HP80, ro81, bk82, rr83⟩ := Own.enter0 H77
 refine clG (dT h78) Try.call31 (r02_Covers_ok _ _ x70.xLock.xRange p2.xRange r84 HP80 hr85) ?_
 rintro _ w86 ⟨rfl, HQ87⟩
 have H88 := bk82 _ _ HQ87
 refine fw (.bool r84) (Yl.pickT rfl (dT h78) rfl) (Mz rfl ?_)
 rcases Bool.eq_false_or_eq_true (r84) with h89 | h89
 refine Gz (.pointer (some ⟨g73, 1, none⟩)) h89 (Gz (.pointer (some ⟨g73, 3, none⟩)) h89 (Gl (.bool x70.xLock.xWrite) h89 H88 0 Try.isAgg4 (WL.valG (v := .bool x70.xLock.xWrite) rfl rfl h89 rfl (Yl.move rfl) ?_)))
 rcases Bool.eq_false_or_eq_true (x70.xLock.xWrite) with h90 | h90
 refine Sz h90 (Sz h90 (Sz h90 (WL.valG (v := .bool true) rfl rfl h89 rfl (Yl.pickT rfl h90 rfl) (fw (.bool true) (Yl.pickT rfl h89 rfl) (nt (jt (sr (Az rfl (Az rfl (Az rfl (An rfl (rt (tR (bR (tR (tR (bR (tR (Fin.res (res4 rfl rfl rfl rfl rfl) ?_)))))))))))))))))))
 have H91 : Own w D w86 [row none 0 0 (List.flatMap (eN .u64) ([])) 30 1, blk g73 (HeldD.cells x70) 73, blk g52 [.int .u64 ((p1 : Nat) : Int), .string ⟨List.toArray p2.xRange.xLo⟩, .string ⟨List.toArray p2.xRange.xHi⟩, .bool p2.xWrite] 73, blk g0 [.slice A0x0 p0.xH.ls.length c0x0, .slice A0x1 p0.xW.ls.length c0x1] 29, blk g21 (LockD.cells p2) 34, row A0x0 p0.xH.ls.length c0x0 (List.flatMap HeldD.cells p0.xH.ls) 73 4, row A0x1 p0.xW.ls.length c0x1 (List.flatMap HeldD.cells p0.xW.ls) 73 4] := H88.free (row_nil 30 1)
 have H92 : Own w D w86 [row none 0 0 (List.flatMap (eN .u64) ([])) 30 1, row none 0 0 (List.flatMap (eN .u64) ([])) 30 1, blk g73 (HeldD.cells x70) 73, blk g52 [.int .u64 ((p1 : Nat) : Int), .string ⟨List.toArray p2.xRange.xLo⟩, .string ⟨List.toArray p2.xRange.xHi⟩, .bool p2.xWrite] 73, blk g0 [.slice A0x0 p0.xH.ls.length c0x0, .slice A0x1 p0.xW.ls.length c0x1] 29, blk g21 (LockD.cells p2) 34, row A0x0 p0.xH.ls.length c0x0 (List.flatMap HeldD.cells p0.xH.ls) 73 4, row A0x1 p0.xW.ls.length c0x1 (List.flatMap HeldD.cells p0.xW.ls) 73 4] := H91.free (row_nil 30 1)
 have H93 := H92.pk [1, 0, 4, 6, 7]
 have e : r16_Table_Ask p0 p1 p2 = (1, [], [], 0, p0) := et (bnd_of hr30) (et (ip h34) (et (bnd_of hr44) (et (ifF h48) (lp_r (et (hq67) (et (congrArg (fun q => r16_Table_Ask_L0 p0 p1 p2 q b57) hd72) (et (ip h78) (et (bnd_of hr85) (et (ip h89) (ip h90))))))))))
 obtain ⟨rfl, rfl, rfl, rfl, rfl⟩ := pj5 (e.symm.trans hr)
 exact ⟨none, 0, none, 0, A0x0, c0x0, A0x1, c0x1, rfl, H93⟩
 refine Gz (.pointer (some ⟨g21, 2, none⟩)) h90 (Gl (.bool p2.xWrite) h90 H88 3 Try.isAgg4 (Gz (.bool (!p2.xWrite)) h90 (WL.valG (v := .bool (!p2.xWrite)) rfl rfl h89 rfl (Yl.pickF rfl h90 rfl) (fw (.bool (!p2.xWrite)) (Yl.pickT rfl h89 rfl) (nt ?_)))))
 rcases Bool.eq_false_or_eq_true (p2.xWrite) with h94 | h94
 refine jF (cn h94) (sk (sr (La (HeldD.cells x70) H88 0 Try.isAgg73 Try.sizeOf73 (La ([.int .u64 ((p1 : Nat) : Int), .string ⟨List.toArray p2.xRange.xLo⟩, .string ⟨List.toArray p2.xRange.xHi⟩, .bool p2.xWrite]) H88 1 Try.isAgg73 Try.sizeOf73 ?_))))
 obtain ⟨r100, hr101⟩ : ∃ q, r16_Way x70 (HeldD.mk p1 p2) = q := ⟨_, rfl⟩
 obtain ⟨D95, HP96, ro97, bk98, rr99⟩ := Own.enter0 H88
 refine cl Try.call32 (r16_Way_ok _ _ x70 (HeldD.mk p1 p2) r100 HP96 hr101) ?_
 rintro _ w102 ⟨rfl, HQ103⟩
 have H104 := bk98 _ _ HQ103
 refine Mz rfl ?_
 rcases Bool.eq_false_or_eq_true (r100) with h105 | h105
 refine Gz (.pointer (some ⟨g73, 0, none⟩)) h105 (Gl (.int .u64 ((x70.xTxn : Nat) : Int)) h105 H104 0 Try.isAgg30 (WL.valG (v := .int .u64 ((p1 : Nat) : Int)) rfl rfl h105 rfl (Yl.move rfl) (Gz (.bool (decide (((x70.xTxn : Nat) : Int) < ((p1 : Nat) : Int)))) h105 (fw (.bool (decide (((x70.xTxn : Nat) : Int) < ((p1 : Nat) : Int)))) (Yl.pickT rfl h105 rfl) (nt ?_)))))
 have hb106 : (decide (((x70.xTxn : Nat) : Int) < ((p1 : Nat) : Int))) = false := (dF (by omega))
 refine jF hb106 (Wp.skip (bN (Fin.then ?_)))
 have H107 := H104.pk [1, 2, 3, 4, 5]
 refine Wp.region (fw (.int .i64 ((k58 + 1 : Nat) : Int)) (Yl.int (e := IntKind.i64.wrap (((k58 : Nat) : Int) + 1)) yk (by rw [IntWalk.i64_in _ (by omega)]; omega)) (Mz rfl (WL.nil ?_)))
 have H108 := H107.pk [0, 1, 2, 3, 4]
 exact Fin.round (b57, k58 + 1) ⟨rfl, rfl, rfl, rfl, rfl, rfl, rfl, rfl, rfl, rfl, rfl, rfl, trivial⟩ (dm66.2 ⟨H108, by omega, et (hq67) (et (congrArg (fun q => r16_Table_Ask_L0 p0 p1 p2 q b57) hd72) (et (ip h78) (et (bnd_of hr85) (et (ip h89) (et (ifF h90) (et (ip h94) (et (bnd_of hr101) (ip h105))))))))⟩) (by show p0.xH.ls.length - (k58 + 1) < p0.xH.ls.length - k58; omega)
 refine Sz h105 (Sz h105 (Sz h105 (Sz h105 (fw (.bool false) (Yl.pickF rfl h105 rfl) (nt (jf (Wp.skip (bN (Fin.then ?_)))))))))
 have H109 := H104.pk [1, 2, 3, 4, 5]
 refine Wp.region (fw (.int .i64 ((k58 + 1 : Nat) : Int)) (Yl.int (e := IntKind.i64.wrap (((k58 : Nat) : Int) + 1)) yk (by rw [IntWalk.i64_in _ (by omega)]; omega)) (Mz rfl (WL.nil ?_)))
 have H110 := H109.pk [0, 1, 2, 3, 4]
 exact Fin.round (b57, k58 + 1) ⟨rfl, rfl, rfl, rfl, rfl, rfl, rfl, rfl, rfl, rfl, rfl, rfl, trivial⟩ (dm66.2 ⟨H110, by omega, et (hq67) (et (congrArg (fun q => r16_Table_Ask_L0 p0 p1 p2 q b57) hd72) (et (ip h78) (et (bnd_of hr85) (et (ip h89) (et (ifF h90) (et (ip h94) (et (bnd_of hr101) (ifF h105))))))))⟩) (by show p0.xH.ls.length - (k58 + 1) < p0.xH.ls.length - k58; omega)
 refine jT (cn h94) (sr (Az rfl (Az rfl (Az rfl (An rfl (rt (tR (bR (tR (tR (bR (tR (Fin.res (res4 rfl rfl rfl rfl rfl) ?_)))))))))))))
 have H111 : Own w D w86 [row none 0 0 (List.flatMap (eN .u64) ([])) 30 1, blk g73 (HeldD.cells x70) 73, blk g52 [.int .u64 ((p1 : Nat) : Int), .string ⟨List.toArray p2.xRange.xLo⟩, .string ⟨List.toArray p2.xRange.xHi⟩, .bool p2.xWrite] 73, blk g0 [.slice A0x0 p0.xH.ls.length c0x0, .slice A0x1 p0.xW.ls.length c0x1] 29, blk g21 (LockD.cells p2) 34, row A0x0 p0.xH.ls.length c0x0 (List.flatMap HeldD.cells p0.xH.ls) 73 4, row A0x1 p0.xW.ls.length c0x1 (List.flatMap HeldD.cells p0.xW.ls) 73 4] := H88.free (row_nil 30 1)
 have H112 : Own w D w86 [row none 0 0 (List.flatMap (eN .u64) ([])) 30 1, row none 0 0 (List.flatMap (eN .u64) ([])) 30 1, blk g73 (HeldD.cells x70) 73, blk g52 [.int .u64 ((p1 : Nat) : Int), .string ⟨List.toArray p2.xRange.xLo⟩, .string ⟨List.toArray p2.xRange.xHi⟩, .bool p2.xWrite] 73, blk g0 [.slice A0x0 p0.xH.ls.length c0x0, .slice A0x1 p0.xW.ls.length c0x1] 29, blk g21 (LockD.cells p2) 34, row A0x0 p0.xH.ls.length c0x0 (List.flatMap HeldD.cells p0.xH.ls) 73 4, row A0x1 p0.xW.ls.length c0x1 (List.flatMap HeldD.cells p0.xW.ls) 73 4] := H111.free (row_nil 30 1)
 have H113 := H112.pk [1, 0, 4, 6, 7]
 have e : r16_Table_Ask p0 p1 p2 = (1, [], [], 0, p0) := et (bnd_of hr30) (et (ip h34) (et (bnd_of hr44) (et (ifF h48) (lp_r (et (hq67) (et (congrArg (fun q => r16_Table_Ask_L0 p0 p1 p2 q b57) hd72) (et (ip h78) (et (bnd_of hr85) (et (ip h89) (et (ifF h90) (ifF h94)))))))))))
 obtain ⟨rfl, rfl, rfl, rfl, rfl⟩ := pj5 (e.symm.trans hr)
 exact ⟨none, 0, none, 0, A0x0, c0x0, A0x1, c0x1, rfl, H113⟩
 refine Sz h89 (Sz h89 (Sz h89 (Sz h89 (WL.skipU rfl rfl rfl (WL.skipU rfl rfl rfl (WL.skipU rfl rfl rfl (Sz h89 (fw (.bool false) (Yl.pickF rfl h89 rfl) (nt (jf (sk (sr (La (HeldD.cells x70) H88 0 Try.isAgg73 Try.sizeOf73 (La ([.int .u64 ((p1 : Nat) : Int), .string ⟨List.toArray p2.xRange.xLo⟩, .string ⟨List.toArray p2.xRange.xHi⟩, .bool p2.xWrite]) H88 1 Try.isAgg73 Try.sizeOf73 ?_))))))))))))))
 obtain ⟨r119, hr120⟩ : ∃ q, r16_Way x70 (HeldD.mk p1 p2) = q := ⟨_, rfl⟩
 obtain ⟨D114, HP115, ro116, bk117, rr118⟩ := Own.enter0 H88
 refine cl Try.call32 (r16_Way_ok _ _ x70 (HeldD.mk p1 p2) r119 HP115 hr120) ?_
 rintro _ w121 ⟨rfl, HQ122⟩
 have H123 := bk117 _ _ HQ122
 refine Mz rfl ?_
 rcases Bool.eq_false_or_eq_true (r119) with h124 | h124
 refine Gz (.pointer (some ⟨g73, 0, none⟩)) h124 (Gl (.int .u64 ((x70.xTxn : Nat) : Int)) h124 H123 0 Try.isAgg30 (WL.valG (v := .int .u64 ((p1 : Nat) : Int)) rfl rfl h124 rfl (Yl.move rfl) (Gz (.bool (decide (((x70.xTxn : Nat) : Int) < ((p1 : Nat) : Int)))) h124 (fw (.bool (decide (((x70.xTxn : Nat) : Int) < ((p1 : Nat) : Int)))) (Yl.pickT rfl h124 rfl) (nt ?_)))))
 have hb125 : (decide (((x70.xTxn : Nat) : Int) < ((p1 : Nat) : Int))) = false := (dF (by omega))
 refine jF hb125 (Wp.skip (bN (Fin.then ?_)))
 have H126 := H123.pk [1, 2, 3, 4, 5]
 refine Wp.region (fw (.int .i64 ((k58 + 1 : Nat) : Int)) (Yl.int (e := IntKind.i64.wrap (((k58 : Nat) : Int) + 1)) yk (by rw [IntWalk.i64_in _ (by omega)]; omega)) (Mz rfl (WL.nil ?_)))
 have H127 := H126.pk [0, 1, 2, 3, 4]
 exact Fin.round (b57, k58 + 1) ⟨rfl, rfl, rfl, rfl, rfl, rfl, rfl, rfl, rfl, rfl, rfl, rfl, trivial⟩ (dm66.2 ⟨H127, by omega, et (hq67) (et (congrArg (fun q => r16_Table_Ask_L0 p0 p1 p2 q b57) hd72) (et (ip h78) (et (bnd_of hr85) (et (ifF h89) (et (bnd_of hr120) (ip h124))))))⟩) (by show p0.xH.ls.length - (k58 + 1) < p0.xH.ls.length - k58; omega)
 refine Sz h124 (Sz h124 (Sz h124 (Sz h124 (fw (.bool false) (Yl.pickF rfl h124 rfl) (nt (jf (Wp.skip (bN (Fin.then ?_)))))))))
 have H128 := H123.pk [1, 2, 3, 4, 5]
 refine Wp.region (fw (.int .i64 ((k58 + 1 : Nat) : Int)) (Yl.int (e := IntKind.i64.wrap (((k58 : Nat) : Int) + 1)) yk (by rw [IntWalk.i64_in _ (by omega)]; omega)) (Mz rfl (WL.nil ?_)))
 have H129 := H128.pk [0, 1, 2, 3, 4]
 exact Fin.round (b57, k58 + 1) ⟨rfl, rfl, rfl, rfl, rfl, rfl, rfl, rfl, rfl, rfl, rfl, rfl, trivial⟩ (dm66.2 ⟨H129, by omega, et (hq67) (et (congrArg (fun q => r16_Table_Ask_L0 p0 p1 p2 q b57) hd72) (et (ip h78) (et (bnd_of hr85) (et (ifF h89) (et (bnd_of hr120) (ifF h124))))))⟩) (by show p0.xH.ls.length - (k58 + 1) < p0.xH.ls.length - k58; omega)
 refine Sz (dF h78) (Sz (dF h78) (Sz (dF h78) (Sz (dF h78) (Sz (dF h78) (Sz (dF h78) (fw (.bool false) (Yl.pickF rfl (dF h78) rfl) (Mz rfl (Sz rfl (Sz rfl (Sz rfl (Sz rfl (WL.skipU rfl rfl rfl (WL.skipU rfl rfl rfl (WL.skipU rfl rfl rfl (Sz rfl (fw (.bool false) (Yl.pickF rfl rfl rfl) (nt (jf (sk (sr (La (HeldD.cells x70) H77 0 Try.isAgg73 Try.sizeOf73 (La ([.int .u64 ((p1 : Nat) : Int), .string ⟨List.toArray p2.xRange.xLo⟩, .string ⟨List.toArray p2.xRange.xHi⟩, .bool p2.xWrite]) H77 1 Try.isAgg73 Try.sizeOf73 ?_))))))))))))))))))))))
 obtain ⟨r135, hr136⟩ : ∃ q, r16_Way x70 (HeldD.mk p1 p2) = q := ⟨_, rfl⟩
 obtain ⟨D130, HP131, ro132, bk133, rr134⟩ := Own.enter0 H77
 refine cl Try.call32 (r16_Way_ok _ _ x70 (HeldD.mk p1 p2) r135 HP131 hr136) ?_
 rintro _ w137 ⟨rfl, HQ138⟩
 have H139 := bk133 _ _ HQ138
 refine Mz rfl ?_
 rcases Bool.eq_false_or_eq_true (r135) with h140 | h140
 refine Gz (.pointer (some ⟨g73, 0, none⟩)) h140 (Gl (.int .u64 ((x70.xTxn : Nat) : Int)) h140 H139 0 Try.isAgg30 (WL.valG (v := .int .u64 ((p1 : Nat) : Int)) rfl rfl h140 rfl (Yl.move rfl) (Gz (.bool (decide (((x70.xTxn : Nat) : Int) < ((p1 : Nat) : Int)))) h140 (fw (.bool (decide (((x70.xTxn : Nat) : Int) < ((p1 : Nat) : Int)))) (Yl.pickT rfl h140 rfl) (nt ?_)))))
 by_cases h141 : ((x70.xTxn : Nat) : Int) < ((p1 : Nat) : Int)
 refine jT (dT h141) ?_
 have H142 := H139.pk [1, 2, 3, 4, 5]
 refine Wp.region (Az rfl (WL.nil (bN (Fin.then (Wp.region (fw (.int .i64 ((k58 + 1 : Nat) : Int)) (Yl.int (e := IntKind.i64.wrap (((k58 : Nat) : Int) + 1)) yk (by rw [IntWalk.i64_in _ (by omega)]; omega)) (Mz rfl (WL.nil ?_))))))))
 have H143 := H142.pk [0, 1, 2, 3, 4]
 exact Fin.round (false, k58 + 1) ⟨rfl, rfl, rfl, rfl, rfl, rfl, rfl, rfl, rfl, rfl, rfl, rfl, trivial⟩ (dm66.2 ⟨H143, (show (k58 + 1) ≤ p0.xH.ls.length ∧ r16_Table_Ask_L0 p0 p1 p2 p0.xH.ls true = r16_Table_Ask_L0 p0 p1 p2 (List.drop (k58 + 1) p0.xH.ls) false from ⟨by omega, et (hq67) (et (congrArg (fun q => r16_Table_Ask_L0 p0 p1 p2 q b57) hd72) (et (iN h78) (et (bnd_of hr136) (et (ip h140) (ip h141)))))⟩)⟩) (by show p0.xH.ls.length - (k58 + 1) < p0.xH.ls.length - k58; omega)
 refine jF (dF h141) (Wp.skip (bN (Fin.then ?_)))
 have H144 := H139.pk [1, 2, 3, 4, 5]
 refine Wp.region (fw (.int .i64 ((k58 + 1 : Nat) : Int)) (Yl.int (e := IntKind.i64.wrap (((k58 : Nat) : Int) + 1)) yk (by rw [IntWalk.i64_in _ (by omega)]; omega)) (Mz rfl (WL.nil ?_)))
 have H145 := H144.pk [0, 1, 2, 3, 4]
 exact Fin.round (b57, k58 + 1) ⟨rfl, rfl, rfl, rfl, rfl, rfl, rfl, rfl, rfl, rfl, rfl, rfl, trivial⟩ (dm66.2 ⟨H145, by omega, et (hq67) (et (congrArg (fun q => r16_Table_Ask_L0 p0 p1 p2 q b57) hd72) (et (iN h78) (et (bnd_of hr136) (et (ip h140) (iN h141)))))⟩) (by show p0.xH.ls.length - (k58 + 1) < p0.xH.ls.length - k58; omega)
 refine Sz h140 (Sz h140 (Sz h140 (Sz h140 (fw (.bool false) (Yl.pickF rfl h140 rfl) (nt (jf (Wp.skip (bN (Fin.then ?_)))))))))
 have H146 := H139.pk [1, 2, 3, 4, 5]
 refine Wp.region (fw (.int .i64 ((k58 + 1 : Nat) : Int)) (Yl.int (e := IntKind.i64.wrap (((k58 : Nat) : Int) + 1)) yk (by rw [IntWalk.i64_in _ (by omega)]; omega)) (Mz rfl (WL.nil ?_)))
 have H147 := H146.pk [0, 1, 2, 3, 4]
 exact Fin.round (b57, k58 + 1) ⟨rfl, rfl, rfl, rfl, rfl, rfl, rfl, rfl, rfl, rfl, rfl, rfl, trivial⟩ (dm66.2 ⟨H147, by omega, et (hq67) (et (congrArg (fun q => r16_Table_Ask_L0 p0 p1 p2 q b57) hd72) (et (iN h78) (et (bnd_of hr136) (ifF h140))))⟩) (by show p0.xH.ls.length - (k58 + 1) < p0.xH.ls.length - k58; omega)
 refine jF (dF h69) (Wp.exit (Fin.thenX ?_))
 have hL148 : r16_Table_Ask_L0 p0 p1 p2 p0.xH.ls true = Sum.inl b57 := et (hq67) (et (congrArg (fun q => r16_Table_Ask_L0 p0 p1 p2 q b57) (drop_end (ls := p0.xH.ls) (i := k58) (by omega))) rfl)
 refine Fin.thenX (Fin.blockX (Fin.then (Wp.seq (Wp.seq ?_))))
 have H149 := H62.pk [0, 1, 3, 4]
 have H151 := H149.drew
 refine Wp.drawnX [] (fun W => ∃ L', Own w D W ([blk g52 [.int .u64 ((p1 : Nat) : Int), .string ⟨List.toArray p2.xRange.xLo⟩, .string ⟨List.toArray p2.xRange.xHi⟩, .bool p2.xWrite] 73, blk g0 [.slice A0x0 p0.xH.ls.length c0x0, .slice A0x1 p0.xW.ls.length c0x1] 29, row A0x0 p0.xH.ls.length c0x0 (List.flatMap HeldD.cells p0.xH.ls) 73 4, row A0x1 p0.xW.ls.length c0x1 (List.flatMap HeldD.cells p0.xW.ls) 73 4] ++ L')) (by kernel_rfl) (by kernel_rfl) (NoP.then (NoP.then NoP.base)) ⟨_, H151⟩ ?_
 revert H151
 generalize World.drew w61 = w150
 intro H151
 refine GX.take (v := .pointer (some ⟨g0, 0, none⟩)) (rs := []) 0 rfl (by kernel_rfl) (fun _ _ => Yl.move rfl) (GX.take (v := .pointer (some ⟨g0, 0, none⟩)) (rs := []) 1 rfl (by kernel_rfl) (fun _ _ => yk) (GX.take (v := .pointer (some ⟨g0, 0, none⟩)) (rs := []) 2 rfl (by kernel_rfl) (fun _ _ => yk) (GX.take (v := .slice A0x0 p0.xH.ls.length c0x0) (rs := []) 3 rfl (by kernel_rfl) (fun _ ⟨_, H9⟩ => Yl.load rfl (Lds.one Try.isAgg27 (Cls.of (H9.cls (i := 1) rfl) rfl))) (GX.take (v := .int .i64 ((p0.xH.ls.length : Nat) : Int)) (rs := []) 4 rfl (by kernel_rfl) (fun _ _ => yk) (GX.take (v := .pointer (some ⟨g0, 0, none⟩)) (rs := []) 5 rfl (by kernel_rfl) (fun _ _ => Yl.move rfl) (GX.take (v := .pointer (some ⟨g0, 0, none⟩)) (rs := []) 6 rfl (by kernel_rfl) (fun _ _ => yk) (GX.take (v := .pointer (some ⟨g0, 1, none⟩)) (rs := []) 7 rfl (by kernel_rfl) (fun _ _ => yk) (GX.take (v := .slice A0x1 p0.xW.ls.length c0x1) (rs := []) 8 rfl (by kernel_rfl) (fun _ ⟨_, H9⟩ => Yl.load rfl (Lds.one Try.isAgg27 (Cls.of (H9.cls (i := 1) rfl) rfl))) (GX.take (v := .int .i64 ((p0.xW.ls.length : Nat) : Int)) (rs := []) 9 rfl (by kernel_rfl) (fun _ _ => yk) (GX.take (v := .int .i64 ((p0.xH.ls.length + p0.xW.ls.length : Nat) : Int)) (rs := []) 10 rfl (by kernel_rfl) (fun _ _ => Yl.int (e := IntKind.i64.wrap (((p0.xH.ls.length : Nat) : Int) + ((p0.xW.ls.length : Nat) : Int))) yk (by rw [IntWalk.i64_in _ (by omega)]; omega)) (GX.take (v := .bool (decide (((p0.xH.ls.length + p0.xW.ls.length : Nat) : Int) ≥ 192))) (rs := []) 11 rfl (by kernel_rfl) (fun _ _ => yk) (GX.done (by kernel_rfl) (Fin.then ?_)))))))))))))
 by_cases h152 : ((p0.xH.ls.length + p0.xW.ls.length : Nat) : Int) ≥ 192
 refine jT (dT h152) (sr (Az rfl (Az rfl (Az rfl (An rfl (rt (tR (Fin.res (res4 rfl rfl rfl rfl rfl) ?_))))))))
 have H153 : Own w D w150 [row none 0 0 (List.flatMap (eN .u64) ([])) 30 1, blk g52 [.int .u64 ((p1 : Nat) : Int), .string ⟨List.toArray p2.xRange.xLo⟩, .string ⟨List.toArray p2.xRange.xHi⟩, .bool p2.xWrite] 73, blk g0 [.slice A0x0 p0.xH.ls.length c0x0, .slice A0x1 p0.xW.ls.length c0x1] 29, row A0x0 p0.xH.ls.length c0x0 (List.flatMap HeldD.cells p0.xH.ls) 73 4, row A0x1 p0.xW.ls.length c0x1 (List.flatMap HeldD.cells p0.xW.ls) 73 4] := H151.free (row_nil 30 1)
 have H154 : Own w D w150 [row none 0 0 (List.flatMap (eN .u64) ([])) 30 1, row none 0 0 (List.flatMap (eN .u64) ([])) 30 1, blk g52 [.int .u64 ((p1 : Nat) : Int), .string ⟨List.toArray p2.xRange.xLo⟩, .string ⟨List.toArray p2.xRange.xHi⟩, .bool p2.xWrite] 73, blk g0 [.slice A0x0 p0.xH.ls.length c0x0, .slice A0x1 p0.xW.ls.length c0x1] 29, row A0x0 p0.xH.ls.length c0x0 (List.flatMap HeldD.cells p0.xH.ls) 73 4, row A0x1 p0.xW.ls.length c0x1 (List.flatMap HeldD.cells p0.xW.ls) 73 4] := H153.free (row_nil 30 1)
 have H155 := H154.pk [1, 0, 3, 4, 5]
 have e : r16_Table_Ask p0 p1 p2 = (3, [], [], 0, p0) := et (bnd_of hr30) (et (ip h34) (et (bnd_of hr44) (et (ifF h48) (et (lp_l hL148) (ip h152)))))
 obtain ⟨rfl, rfl, rfl, rfl, rfl⟩ := pj5 (e.symm.trans hr)
 exact ⟨none, 0, none, 0, A0x0, c0x0, A0x1, c0x1, rfl, H155⟩
 refine jF (dF h152) (sk (Wp.seq (sr (Mz rfl (La ([.int .u64 ((p1 : Nat) : Int), .string ⟨List.toArray p2.xRange.xLo⟩, .string ⟨List.toArray p2.xRange.xHi⟩, .bool p2.xWrite]) H151 0 Try.isAgg73 Try.sizeOf73 ?_)))))
 have H156 := H151.pk [1, 0, 2, 3]
 have hb162 := H156.rowC (i := 2) rfl
 have hb163 := H156.rowC (i := 3) rfl
 obtain ⟨r164, hr165⟩ : ∃ q, r16_Table_free p0 (HeldD.mk p1 p2) = q := ⟨_, rfl⟩
 obtain ⟨D157, HP158, ro159, bk160, rr161⟩ := Own.enter1 H156
 refine cl Try.call33 (r16_Table_free_ok _ _ g0 p0 A0x0 c0x0 A0x1 c0x1 (HeldD.mk p1 p2) r164 HP158 (rr161 _ 1 _ rfl row_rds) (show p0.xH.ls.length ≤ c0x0 ∧ p0.xH.ls.length ≤ 9223372036854775807 from by omega) (rr161 _ 2 _ rfl row_rds) (show p0.xW.ls.length ≤ c0x1 ∧ p0.xW.ls.length ≤ 9223372036854775807 from by omega) hr165) ?_
 rintro _ w166 ⟨rfl, HQ167⟩
 have H168 := bk160 _ _ HQ167
 refine nt ?_
 rcases Bool.eq_false_or_eq_true (r164) with h169 | h169
 refine jT h169 (sr (Mz rfl (La ([.int .u64 ((p1 : Nat) : Int), .string ⟨List.toArray p2.xRange.xLo⟩, .string ⟨List.toArray p2.xRange.xHi⟩, .bool p2.xWrite]) H168 1 Try.isAgg73 Try.sizeOf73 ?_)))
 have H170 := H168.pk [0, 2, 3, 1]
 obtain ⟨⟨r176, r177⟩, hr178⟩ : ∃ q : (List Nat) × TableDT, r16_Table_grant p0 (HeldD.mk p1 p2) = q := ⟨_, rfl⟩
 obtain ⟨D171, HP172, ro173, bk174, rr175⟩ := Own.enter3 H170
 refine cl Try.call34 (r16_Table_grant_ok _ _ g0 p0 A0x0 c0x0 A0x1 c0x1 (HeldD.mk p1 p2) r176 r177 HP172 (by first | omega | (dsimp only; omega)) hr178) ?_
 rintro _ w179 ⟨A182, c183, A184, c185, A186, c187, rfl, HQ180, hk188⟩
 have H181 := bk174 _ _ HQ180
 have hb189 := H181.rowC (i := 0) rfl
 have hb190 := H181.rowC (i := 2) rfl
 have hb191 := H181.rowC (i := 3) rfl
 replace hk188 : r177.xH.ls.length ≤ p0.xH.ls.length + 1 ∧ r177.xW.ls.length ≤ p0.xW.ls.length ∧ r176.length ≤ p0.xW.ls.length := hk188
 refine Ar rfl (Mz rfl (Mz rfl ?_))
 have H192 := H181.pk [1, 2, 3, 0, 4]
 obtain ⟨⟨r198, r199, r200⟩, hr201⟩ : ∃ q : (List Nat) × (List Nat) × TableDT, r16_Table_settle r177 r176 = q := ⟨_, rfl⟩
 obtain ⟨D193, HP194, ro195, bk196, rr197⟩ := Own.enter (L1 := [blk g0 [.slice A184 r177.xH.ls.length c185, .slice A186 r177.xW.ls.length c187] 29, row A184 r177.xH.ls.length c185 (List.flatMap HeldD.cells r177.xH.ls) 73 4, row A186 r177.xW.ls.length c187 (List.flatMap HeldD.cells r177.xW.ls) 73 4, row A182 r176.length c183 (List.flatMap (eN .u64) r176) 30 1]) (L2 := [blk g52 [.int .u64 ((p1 : Nat) : Int), .string ⟨List.toArray p2.xRange.xLo⟩, .string ⟨List.toArray p2.xRange.xHi⟩, .bool p2.xWrite] 73]) H192
 refine cl Try.call35 (r16_Table_settle_ok _ _ g0 r177 A184 c185 A186 c187 A182 r176.length c183 r176 r198 r199 r200 HP194 rfl (by omega) (by first | omega | (dsimp only; omega)) (by first | omega | exact Nat.zero_le _) hr201) ?_
 rintro _ w202 ⟨A205, c206, A207, c208, A209, c210, A211, c212, rfl, HQ203⟩
 have H204 := bk196 _ _ HQ203
 have hb213 := H204.rowC (i := 0) rfl
 have hb214 := H204.rowC (i := 1) rfl
 have hb215 := H204.rowC (i := 3) rfl
 have hb216 := H204.rowC (i := 4) rfl
 refine Mz rfl (Kz (.slice A205 r198.length c206) (Kz (.slice A207 r199.length c208) (Az rfl (Ar rfl (Mz rfl (Mz rfl (Az rfl (Az rfl (Az rfl (An rfl (rt (tR (Fin.res (res4 rfl rfl rfl rfl rfl) ?_)))))))))))))
 have H217 := H204.pk [0, 1, 2, 3, 4]
 have e : r16_Table_Ask p0 p1 p2 = (1, r198, r199, 0, r200) := et (bnd_of hr30) (et (ip h34) (et (bnd_of hr44) (et (ifF h48) (et (lp_l hL148) (et (iN h152) (et (bnd_of hr165) (et (ip h169) (et (bnd_of hr178) (bnd_of hr201)))))))))
 obtain ⟨rfl, rfl, rfl, rfl, rfl⟩ := pj5 (e.symm.trans hr)
 exact ⟨A205, c206, A207, c208, A209, c210, A211, c212, rfl, H217⟩
 refine jF h169 (sk (Wp.seq (sr (Mn rfl ?_))))
 rcases Bool.eq_false_or_eq_true (b57) with h218 | h218
 refine jT h218 (sr (Mz rfl (La ([.int .u64 ((p1 : Nat) : Int), .string ⟨List.toArray p2.xRange.xLo⟩, .string ⟨List.toArray p2.xRange.xHi⟩, .bool p2.xWrite]) H168 1 Try.isAgg73 Try.sizeOf73 ?_)))
 have H219 := H168.pk [0, 2, 3, 1]
 obtain ⟨r225, hr226⟩ : ∃ q, r16_Table_wait p0 (HeldD.mk p1 p2) = q := ⟨_, rfl⟩
 obtain ⟨D220, HP221, ro222, bk223, rr224⟩ := Own.enter3 H219
 refine cl Try.call36 (r16_Table_wait_ok _ _ g0 p0 A0x0 c0x0 A0x1 c0x1 (HeldD.mk p1 p2) r225 HP221 (by first | omega | (dsimp only; omega)) hr226) ?_
 rintro _ w227 ⟨A230, c231, A232, c233, rfl, HQ228⟩
 have H229 := bk223 _ _ HQ228
 have hb234 := H229.rowC (i := 1) rfl
 have hb235 := H229.rowC (i := 2) rfl
 refine nt (Wp.seq ?_)
 have H236 := H229.pk [0, 1, 2]
 refine Wp.region (Az rfl (Az rfl (Az rfl (An rfl (rt (tR (Fin.res (res4 rfl rfl rfl rfl rfl) ?_)))))))
 have H237 : Own w D w227 [row none 0 0 (List.flatMap (eN .u64) ([])) 30 1, blk g0 [.slice A230 r225.xH.ls.length c231, .slice A232 r225.xW.ls.length c233] 29, row A230 r225.xH.ls.length c231 (List.flatMap HeldD.cells r225.xH.ls) 73 4, row A232 r225.xW.ls.length c233 (List.flatMap HeldD.cells r225.xW.ls) 73 4] := H236.free (row_nil 30 1)
 have H238 : Own w D w227 [row none 0 0 (List.flatMap (eN .u64) ([])) 30 1, row none 0 0 (List.flatMap (eN .u64) ([])) 30 1, blk g0 [.slice A230 r225.xH.ls.length c231, .slice A232 r225.xW.ls.length c233] 29, row A230 r225.xH.ls.length c231 (List.flatMap HeldD.cells r225.xH.ls) 73 4, row A232 r225.xW.ls.length c233 (List.flatMap HeldD.cells r225.xW.ls) 73 4] := H237.free (row_nil 30 1)
 have H239 := H238.pk [1, 0, 2, 3, 4]
 have e : r16_Table_Ask p0 p1 p2 = (2, [], [], 0, r225) := et (bnd_of hr30) (et (ip h34) (et (bnd_of hr44) (et (ifF h48) (et (lp_l hL148) (et (iN h152) (et (bnd_of hr165) (et (ifF h169) (et (ip h218) (bnd_of hr226)))))))))
 obtain ⟨rfl, rfl, rfl, rfl, rfl⟩ := pj5 (e.symm.trans hr)
 exact ⟨none, 0, none, 0, A230, c231, A232, c233, rfl, H239⟩
 refine jF h218 (sk (Wp.seq ?_))
 have H240 := H168.pk [0, 2, 3]
 refine Wp.region (Az rfl (Az rfl (Az rfl (An rfl (rt (Fin.res (res4 rfl rfl rfl rfl rfl) ?_))))))
 have H241 : Own w D w166 [row none 0 0 (List.flatMap (eN .u64) ([])) 30 1, blk g0 [.slice A0x0 p0.xH.ls.length c0x0, .slice A0x1 p0.xW.ls.length c0x1] 29, row A0x0 p0.xH.ls.length c0x0 (List.flatMap HeldD.cells p0.xH.ls) 73 4, row A0x1 p0.xW.ls.length c0x1 (List.flatMap HeldD.cells p0.xW.ls) 73 4] := H240.free (row_nil 30 1)
 have H242 : Own w D w166 [row none 0 0 (List.flatMap (eN .u64) ([])) 30 1, row none 0 0 (List.flatMap (eN .u64) ([])) 30 1, blk g0 [.slice A0x0 p0.xH.ls.length c0x0, .slice A0x1 p0.xW.ls.length c0x1] 29, row A0x0 p0.xH.ls.length c0x0 (List.flatMap HeldD.cells p0.xH.ls) 73 4, row A0x1 p0.xW.ls.length c0x1 (List.flatMap HeldD.cells p0.xW.ls) 73 4] := H241.free (row_nil 30 1)
 have H243 := H242.pk [1, 0, 2, 3, 4]
 have e : r16_Table_Ask p0 p1 p2 = (3, [], [], 0, p0) := et (bnd_of hr30) (et (ip h34) (et (bnd_of hr44) (et (ifF h48) (et (lp_l hL148) (et (iN h152) (et (bnd_of hr165) (et (ifF h169) (ifF h218))))))))
 obtain ⟨rfl, rfl, rfl, rfl, rfl⟩ := pj5 (e.symm.trans hr)
 exact ⟨none, 0, none, 0, A0x0, c0x0, A0x1, c0x1, rfl, H243⟩
 refine jT (dT h34) (sr (Az rfl (Az rfl (Az rfl (An rfl (rt (tR (Fin.res (res4 rfl rfl rfl rfl rfl) ?_))))))))
 have H244 : Own w D w31 [row none 0 0 (List.flatMap (eN .u64) ([])) 30 1, blk g21 (LockD.cells p2) 34, blk g0 [.slice A0x0 p0.xH.ls.length c0x0, .slice A0x1 p0.xW.ls.length c0x1] 29, row A0x0 p0.xH.ls.length c0x0 (List.flatMap HeldD.cells p0.xH.ls) 73 4, row A0x1 p0.xW.ls.length c0x1 (List.flatMap HeldD.cells p0.xW.ls) 73 4] := H33.free (row_nil 30 1)
 have H245 : Own w D w31 [row none 0 0 (List.flatMap (eN .u64) ([])) 30 1, row none 0 0 (List.flatMap (eN .u64) ([])) 30 1, blk g21 (LockD.cells p2) 34, blk g0 [.slice A0x0 p0.xH.ls.length c0x0, .slice A0x1 p0.xW.ls.length c0x1] 29, row A0x0 p0.xH.ls.length c0x0 (List.flatMap HeldD.cells p0.xH.ls) 73 4, row A0x1 p0.xW.ls.length c0x1 (List.flatMap HeldD.cells p0.xW.ls) 73 4] := H244.free (row_nil 30 1)
 have H246 := H245.pk [1, 0, 3, 4, 5]
 have e : r16_Table_Ask p0 p1 p2 = (0, [], [], 21, p0) := et (bnd_of hr30) (iN h34)
 obtain ⟨rfl, rfl, rfl, rfl, rfl⟩ := pj5 (e.symm.trans hr)
 exact ⟨none, 0, none, 0, A0x0, c0x0, A0x1, c0x1, rfl, H246⟩
def r16_Table_Release (p0 : TableDT) (p1 : Nat) : (List Nat) × (List Nat) × TableDT :=
 bnd (r16_without p0.xH.ls p1) fun yr27 => bnd (r16_without p0.xW.ls p1) fun yr45 => bnd (r16_Table_settle (TableDT.mk (Ll.mk yr27) (Ll.mk yr45)) ([])) fun yr64 => (yr64.1, yr64.2.1, yr64.2.2)
set_option maxRecDepth 100000 in
theorem r16_Table_Release_ok (w : World) (D : Nat → Prop) (g0 : Nat) (p0 : TableDT) (A0x0 : Option Addr) (c0x0 : Nat) (A0x1 : Option Addr) (c0x1 : Nat) (p1 : Nat) (r0 : List Nat) (r1 : List Nat) (r2 : TableDT) (H : Own w D w [blk g0 [.slice A0x0 p0.xH.ls.length c0x0, .slice A0x1 p0.xW.ls.length c0x1] 29, row A0x0 p0.xH.ls.length c0x0 (List.flatMap HeldD.cells p0.xH.ls) 73 4, row A0x1 p0.xW.ls.length c0x1 (List.flatMap HeldD.cells p0.xW.ls) 73 4]) (hh0 : p0.xH.ls.length + p0.xW.ls.length ≤ 400) (hr : r16_Table_Release p0 p1 = (r0, r1, r2)) :
    Calls Try.prog 14 #[.pointer (some ⟨g0, 0, none⟩), .int .u64 ((p1 : Nat) : Int)] w (Ret fun v w' => ∃ (B0 : Option Addr) (b0 : Nat) (B1 : Option Addr) (b1 : Nat) (B2ox0 : Option Addr) (b2ox0 : Nat) (B2ox1 : Option Addr) (b2ox1 : Nat), v = .tuple #[.slice B0 r0.length b0, .slice B1 r1.length b1] ∧ Own w D w' [row B0 r0.length b0 (List.flatMap (eN .u64) r0) 30 1, row B1 r1.length b1 (List.flatMap (eN .u64) r1) 30 1, blk g0 [.slice B2ox0 r2.xH.ls.length b2ox0, .slice B2ox1 r2.xW.ls.length b2ox1] 29, row B2ox0 r2.xH.ls.length b2ox0 (List.flatMap HeldD.cells r2.xH.ls) 73 4, row B2ox1 r2.xW.ls.length b2ox1 (List.flatMap HeldD.cells r2.xW.ls) 73 4]) := by
 have hc0x0 := H.rowC (i := 1) rfl
 have hc0x1 := H.rowC (i := 2) rfl
 refine Calls.body (args := [.pointer (some ⟨g0, 0, none⟩), .int .u64 ((p1 : Nat) : Int)]) Try.func14 rfl rfl rfl ?_
 show Wp _ _ _ [(0, .pointer (some ⟨g0, 0, none⟩)), (1, .int .u64 ((p1 : Nat) : Int))] _ _
 refine sr (Az rfl (Ar rfl (Mz rfl (Mz rfl (Kz (.pointer (some ⟨g0, 0, none⟩)) (Kz (.pointer (some ⟨g0, 0, none⟩)) (Lz (.slice A0x0 p0.xH.ls.length c0x0) H 0 Try.isAgg27 (Mz rfl ?_))))))))
 have hb26 := H.rowC (i := 1) rfl
 obtain ⟨r27, hr28⟩ : ∃ q, r16_without p0.xH.ls p1 = q := ⟨_, rfl⟩
 obtain ⟨D21, HP22, ro23, bk24, rr25⟩ := Own.enter0 H
 refine cl Try.call38 (r16_without_ok _ _ A0x0 p0.xH.ls.length c0x0 p0.xH.ls p1 r27 HP22 (rr25 _ 1 _ rfl row_rds) rfl (by omega) (by first | omega | (simp only [List.length_take, List.length_drop]; omega) | exact Nat.le_refl _) (by first | omega | exact Nat.zero_le _ | (simp only [List.length_append, List.length_cons, List.length_nil]; omega)) hr28) ?_
 rintro _ w29 ⟨A32, c33, rfl, HQ30, hk34⟩
 have H31 := bk24 _ _ HQ30
 have hb35 := H31.rowC (i := 0) rfl
 replace hk34 : r27.length ≤ p0.xH.ls.length := hk34
 refine Kz (.pointer (some ⟨g0, 0, none⟩)) (Kz (.pointer (some ⟨g0, 0, none⟩)) ?_)
 have H36 := H31.pk [1, 0, 2, 3]
 refine sto [.slice A32 r27.length c33] 0 H36 Try.sizeOf27 ?_
 intro w37 H38
 refine ns (Mz rfl (Mz rfl (Kz (.pointer (some ⟨g0, 0, none⟩)) (Kz (.pointer (some ⟨g0, 1, none⟩)) (Lz (.slice A0x1 p0.xW.ls.length c0x1) H38 0 Try.isAgg27 (Mz rfl ?_))))))
 have hb44 := H38.rowC (i := 3) rfl
 obtain ⟨r45, hr46⟩ : ∃ q, r16_without p0.xW.ls p1 = q := ⟨_, rfl⟩
 obtain ⟨D39, HP40, ro41, bk42, rr43⟩ := Own.enter0 H38
 refine cl Try.call38 (r16_without_ok _ _ A0x1 p0.xW.ls.length c0x1 p0.xW.ls p1 r45 HP40 (rr43 _ 3 _ rfl row_rds) rfl (by omega) (by first | omega | (simp only [List.length_take, List.length_drop]; omega) | exact Nat.le_refl _) (by first | omega | exact Nat.zero_le _ | (simp only [List.length_append, List.length_cons, List.length_nil]; omega)) hr46) ?_
 rintro _ w47 ⟨A50, c51, rfl, HQ48, hk52⟩
 have H49 := bk42 _ _ HQ48
 have hb53 := H49.rowC (i := 0) rfl
 replace hk52 : r45.length ≤ p0.xW.ls.length := hk52
 refine Kz (.pointer (some ⟨g0, 0, none⟩)) (Kz (.pointer (some ⟨g0, 1, none⟩)) ?_)
 have H54 := H49.pk [1, 0, 2, 3, 4]
 refine sto [.slice A50 r45.length c51] 1 H54 Try.sizeOf27 ?_
 intro w55 H56
 refine ns (Mz rfl ?_)
 have H57 : Own w D w55 [row none 0 0 (List.flatMap (eN .u64) ([])) 30 1, blk g0 [.slice A32 r27.length c33, .slice A50 r45.length c51] 29, row A50 r45.length c51 (List.flatMap HeldD.cells r45) 73 4, row A32 r27.length c33 (List.flatMap HeldD.cells r27) 73 4, row A0x0 p0.xH.ls.length c0x0 (List.flatMap HeldD.cells p0.xH.ls) 73 4, row A0x1 p0.xW.ls.length c0x1 (List.flatMap HeldD.cells p0.xW.ls) 73 4] := H56.free (row_nil 30 1)
 have H58 := H57.pk [1, 3, 2, 0, 4, 5]
 obtain ⟨⟨r64, r65, r66⟩, hr67⟩ : ∃ q : (List Nat) × (List Nat) × TableDT, r16_Table_settle (TableDT.mk (Ll.mk r27) (Ll.mk r45)) ([]) = q := ⟨_, rfl⟩
 obtain ⟨D59, HP60, ro61, bk62, rr63⟩ := Own.enter (L1 := [blk g0 [.slice A32 r27.length c33, .slice A50 r45.length c51] 29, row A32 r27.length c33 (List.flatMap HeldD.cells r27) 73 4, row A50 r45.length c51 (List.flatMap HeldD.cells r45) 73 4, row none 0 0 (List.flatMap (eN .u64) ([])) 30 1]) (L2 := [row A0x0 p0.xH.ls.length c0x0 (List.flatMap HeldD.cells p0.xH.ls) 73 4, row A0x1 p0.xW.ls.length c0x1 (List.flatMap HeldD.cells p0.xW.ls) 73 4]) H58
 refine cl Try.call35 (r16_Table_settle_ok _ _ g0 (TableDT.mk (Ll.mk r27) (Ll.mk r45)) A32 c33 A50 c51 none 0 0 ([]) r64 r65 r66 HP60 rfl (by simp) (by first | omega | (dsimp only; omega)) (by first | omega | exact Nat.zero_le _) hr67) ?_
 rintro _ w68 ⟨A71, c72, A73, c74, A75, c76, A77, c78, rfl, HQ69⟩
 have H70 := bk62 _ _ HQ69
 have hb79 := H70.rowC (i := 0) rfl
 have hb80 := H70.rowC (i := 1) rfl
 have hb81 := H70.rowC (i := 3) rfl
 have hb82 := H70.rowC (i := 4) rfl
 refine Kz (.slice A71 r64.length c72) (Kz (.slice A73 r65.length c74) (Az rfl (An rfl (rt (Fin.res (res2 rfl rfl rfl) ?_)))))
 have H83 := H70.pk [0, 1, 2, 3, 4]
 have e : r16_Table_Release p0 p1 = (r64, r65, r66) := et (bnd_of hr28) (et (bnd_of hr46) (bnd_of hr67))
 obtain ⟨rfl, rfl, rfl⟩ := pj3 (e.symm.trans hr)
 exact ⟨A71, c72, A73, c74, A75, c76, A77, c78, rfl, H83⟩
end Go.Proofs.Ytggnajpokhaaiaa
