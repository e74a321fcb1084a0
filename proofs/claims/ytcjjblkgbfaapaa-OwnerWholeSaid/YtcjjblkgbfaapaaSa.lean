/-
 a stable sort of pairs: the library's text told.
-/
import Derived.Test.YtcjjblkgbfaapaaKu
import Derived.Test.YtcjjblkgbfaapaaKz
import Derived.Test.YtcjjblkgbfaapaaWiX
import Derived.Test.YtcjjblkgbfaapaaStM
import Derived.Test.YtcjjblkgbfaapaaOc
namespace Go.Proofs.Ytcjjblkgbfaapaa
open Go.RowKit
set_option linter.unusedVariables false
set_option linter.unusedSectionVars false
set_option linter.unusedSimpArgs false
def owner_gatherOp_1 (p0 : PairD) (p1 : PairD) : Int :=
 bnd (strings_Compare p0.xKey p1.xKey) fun yr32 => yr32
set_option maxRecDepth 100000 in
theorem owner_gatherOp_1_ok (w : World) (D : Nat → Prop) (p0 : PairD) (p1 : PairD) (r0 : Int) (H : Own w D w [])  (hr : owner_gatherOp_1 p0 p1 = r0) :
    Calls Try.prog 62 #[.agg (PairD.cells p0).toArray, .agg (PairD.cells p1).toArray] w (Ret fun v w' => v = .int .i64 r0 ∧ Own w D w' []) := by
 refine Calls.body (args := [.agg (PairD.cells p0).toArray, .agg (PairD.cells p1).toArray]) Try.func62 rfl rfl rfl ?_
 show Wp _ _ _ [(0, .agg (PairD.cells p0).toArray), (1, .agg (PairD.cells p1).toArray)] _ _
 refine sr ?_
 refine npw (PairD.cells p0) 58 H ?_
 intro g21 w22 H23
 refine npw (PairD.cells p1) 58 H23 ?_
 intro g24 w25 H26
 refine Ar rfl (Kz (.pointer (some ⟨g21, 0, none⟩)) (Lz (.string ⟨List.toArray p0.xKey⟩) H26 1 Try.isAgg9 (Kz (.pointer (some ⟨g24, 0, none⟩)) (Lz (.string ⟨List.toArray p1.xKey⟩) H26 0 Try.isAgg9 ?_))))
 obtain ⟨r32, hr33⟩ : ∃ q, strings_Compare p0.xKey p1.xKey = q := ⟨_, rfl⟩
 obtain ⟨D27, HP28, ro29, bk30, rr31⟩ := Own.enter0 H26
 refine cl Try.call63 (strings_Compare_ok _ _ p0.xKey p1.xKey r32 HP28 hr33) ?_
 rintro _ w34 ⟨rfl, HQ35⟩
 have H36 := bk30 _ _ HQ35
 refine An rfl (rt (rs ?_))
 have H37 := H36.pk []
 obtain rfl : _ = r32 := hr.symm.trans (bnd_of hr33)
 exact ⟨rfl, H37⟩
def slices_insertionSortCmpFunc_api_Pair_L1 (p1 : Int) : Nat → Int → List PairD → (List PairD)
  | 0, z43, l44 => default
  | q45 + 1, z43, l44 => if z43 > p1 then bnd (List.getD l44 (Int.toNat z43) default) fun yx63 => bnd (List.getD l44 (Int.toNat (z43 - 1)) default) fun yx65 => bnd (owner_gatherOp_1 yx63 yx65) fun yr72 => if yr72 < 0 then slices_insertionSortCmpFunc_api_Pair_L1 p1 q45 (z43 - 1) (List.set (List.set l44 (Int.toNat z43) (PairD.mk yx65.xKey yx65.xValue)) (Int.toNat (z43 - 1)) (PairD.mk yx63.xKey yx63.xValue)) else l44 else l44
def slices_insertionSortCmpFunc_api_Pair_L0 (p1 : Int) (p2 : Int) : Nat → Int → List PairD → (List PairD)
  | 0, z21, l22 => default
  | q23 + 1, z21, l22 => if z21 < p2 then bnd (bnd (slices_insertionSortCmpFunc_api_Pair_L1 p1 ((Int.toNat (z21 - p1)) + 1) z21 l22) fun sLrLstJjL => sLrLstJjL) fun sJrLstJ => slices_insertionSortCmpFunc_api_Pair_L0 p1 p2 q23 (z21 + 1) sJrLstJ else l22
def slices_insertionSortCmpFunc_api_Pair (l0 : List PairD) (p1 : Int) (p2 : Int) : (List PairD) :=
 bnd (slices_insertionSortCmpFunc_api_Pair_L0 p1 p2 ((Int.toNat (p2 - (p1 + 1))) + 1) (p1 + 1) l0) fun sLrL => sLrL
set_option maxRecDepth 100000 in
theorem slices_insertionSortCmpFunc_api_Pair_ok (w : World) (D : Nat → Prop) (A0 : Option Addr) (n0 c0 : Nat) (l0 : List PairD) (p1 : Int) (p2 : Int) (r0 : List PairD) (H : Own w D w [row A0 n0 c0 (List.flatMap PairD.cells l0) 58 2]) (hn0 : n0 = l0.length) (hl0 : l0.length * 32 ≤ 211106232532992) (hh0 : 0 ≤ p1 ∧ p1 ≤ p2 ∧ p2 ≤ ((l0.length : Nat) : Int)) (hr : slices_insertionSortCmpFunc_api_Pair l0 p1 p2 = r0) :
    Calls Try.prog 94 #[.slice A0 n0 c0, .int .i64 p1, .int .i64 p2, .func (.func 62) #[] #[]] w (Ret fun v w' => v = .tuple #[] ∧ Own w D w' [row A0 n0 c0 (List.flatMap PairD.cells r0) 58 2] ∧ (r0.length = l0.length)) := by
 subst hn0
 have hc0 := H.rowC (i := 0) rfl
 refine Calls.body (args := [.slice A0 l0.length c0, .int .i64 p1, .int .i64 p2, .func (.func 62) #[] #[]]) Try.func94 rfl rfl rfl ?_
 show Wp _ _ _ [(0, .slice A0 l0.length c0), (1, .int .i64 p1), (2, .int .i64 p2), (3, .func (.func 62) #[] #[])] _ _
 refine sr (Mz rfl (fw (.int .i64 (p1 + 1)) (Yl.int (e := IntKind.i64.wrap (p1 + 1)) yk (by rw [IntWalk.i64_in _ (by omega)])) (An rfl (bo ?_))))
 have H25 : Own w D w [row A0 l0.length c0 (List.flatMap PairD.cells l0) 58 2] := H.pk [0]
 obtain ⟨I29, hI30⟩ : ∃ q : (Int × (List PairD) × Nat) → World → Prop, q = fun (i : Int × (List PairD) × Nat) w' => Own w D w' [row A0 l0.length c0 (List.flatMap PairD.cells i.2.1) 58 2] ∧ (i.2.1.length = l0.length ∧ p1 + 1 ≤ i.1 ∧ Int.toNat (p2 - i.1) < i.2.2 ∧ slices_insertionSortCmpFunc_api_Pair_L0 p1 p2 ((Int.toNat (p2 - (p1 + 1))) + 1) (p1 + 1) l0 = slices_insertionSortCmpFunc_api_Pair_L0 p1 p2 i.2.2 i.1 i.2.1) := ⟨_, rfl⟩
 have dm31 : ∀ {z21 : Int} {l22 : List PairD} {f24 : Nat} {w' : World}, I29 (z21, l22, f24) w' ↔ Own w D w' [row A0 l0.length c0 (List.flatMap PairD.cells l22) 58 2] ∧ l22.length = l0.length ∧ p1 + 1 ≤ z21 ∧ Int.toNat (p2 - z21) < f24 ∧ slices_insertionSortCmpFunc_api_Pair_L0 p1 p2 ((Int.toNat (p2 - (p1 + 1))) + 1) (p1 + 1) l0 = slices_insertionSortCmpFunc_api_Pair_L0 p1 p2 f24 z21 l22 := by intros; subst hI30; exact Iff.rfl
 refine Wp.loop (fun i : Int × (List PairD) × Nat => [(8, .int .i64 i.1), (0, .slice A0 l0.length c0), (1, .int .i64 p1), (2, .int .i64 p2), (3, .func (.func 62) #[] #[])]) I29 (fun i => i.2.2) (p1 + 1, l0, (Int.toNat (p2 - (p1 + 1))) + 1) ⟨rfl, rfl, rfl, rfl, rfl, trivial⟩ (dm31.2 ⟨H25, by first | omega | (simp only [List.length_set] <;> omega) | (simp only [List.length_replicate]), by omega, by omega, rfl⟩) ?_
 rintro ⟨z21, l22, f24⟩ w26 hf28
 show Wp _ _ _ [(8, .int .i64 z21), (0, .slice A0 l0.length c0), (1, .int .i64 p1), (2, .int .i64 p2), (3, .func (.func 62) #[] #[])] _ _
 obtain ⟨H27, hi33, hi34, hi35, hq32⟩ := dm31.1 hf28
 obtain ⟨f36, hf37⟩ : ∃ q, f24 = q + 1 := ⟨f24 - 1, by omega⟩
 subst hf37
 refine Wp.seq (sr (Mz rfl (Mz rfl (Kz (.bool (decide (z21 < p2))) (nt ?_)))))
 by_cases h38 : z21 < p2
 refine jT (dT h38) (sk (Wp.seq ?_))
 obtain ⟨I40, hI41⟩ : ∃ q : (List PairD) → World → Prop, q = fun (i : (List PairD)) w' => Own w D w' [row A0 l0.length c0 (List.flatMap PairD.cells i) 58 2] ∧ (i.length = l0.length ∧ (bnd (slices_insertionSortCmpFunc_api_Pair_L1 p1 ((Int.toNat (z21 - p1)) + 1) z21 l22) fun sLrLstJjL => sLrLstJjL) = i) := ⟨_, rfl⟩
 have dm42 : ∀ {l39 : List PairD} {w' : World}, I40 l39 w' ↔ Own w D w' [row A0 l0.length c0 (List.flatMap PairD.cells l39) 58 2] ∧ l39.length = l0.length ∧ (bnd (slices_insertionSortCmpFunc_api_Pair_L1 p1 ((Int.toNat (z21 - p1)) + 1) z21 l22) fun sLrLstJjL => sLrLstJjL) = l39 := by intros; subst hI41; exact Iff.rfl
 refine Wp.joinT (fun i : (List PairD) => [(8, .int .i64 z21), (0, .slice A0 l0.length c0), (1, .int .i64 p1), (2, .int .i64 p2), (3, .func (.func 62) #[] #[])]) I40 ?_ ?_
 refine bo (sr (Mz rfl (An rfl (bo ?_))))
 have H47 := H27.pk [0]
 obtain ⟨I51, hI52⟩ : ∃ q : (Int × (List PairD) × Nat) → World → Prop, q = fun (i : Int × (List PairD) × Nat) w' => Own w D w' [row A0 l0.length c0 (List.flatMap PairD.cells i.2.1) 58 2] ∧ (i.2.1.length = l0.length ∧ (p1 ≤ i.1 ∧ i.1 < p2) ∧ Int.toNat (i.1 - p1) < i.2.2 ∧ slices_insertionSortCmpFunc_api_Pair_L1 p1 ((Int.toNat (z21 - p1)) + 1) z21 l22 = slices_insertionSortCmpFunc_api_Pair_L1 p1 i.2.2 i.1 i.2.1) := ⟨_, rfl⟩
 have dm53 : ∀ {z43 : Int} {l44 : List PairD} {f46 : Nat} {w' : World}, I51 (z43, l44, f46) w' ↔ Own w D w' [row A0 l0.length c0 (List.flatMap PairD.cells l44) 58 2] ∧ l44.length = l0.length ∧ (p1 ≤ z43 ∧ z43 < p2) ∧ Int.toNat (z43 - p1) < f46 ∧ slices_insertionSortCmpFunc_api_Pair_L1 p1 ((Int.toNat (z21 - p1)) + 1) z21 l22 = slices_insertionSortCmpFunc_api_Pair_L1 p1 f46 z43 l44 := by intros; subst hI52; exact Iff.rfl
 refine Wp.loop (fun i : Int × (List PairD) × Nat => [(9, .int .i64 i.1), (8, .int .i64 z21), (0, .slice A0 l0.length c0), (1, .int .i64 p1), (2, .int .i64 p2), (3, .func (.func 62) #[] #[])]) I51 (fun i => i.2.2) (z21, l22, (Int.toNat (z21 - p1)) + 1) ⟨rfl, rfl, rfl, rfl, rfl, rfl, trivial⟩ (dm53.2 ⟨H47, by first | omega | (simp only [List.length_set] <;> omega) | (simp only [List.length_replicate]), by omega, by omega, rfl⟩) ?_
 rintro ⟨z43, l44, f46⟩ w48 hf50
 show Wp _ _ _ [(9, .int .i64 z43), (8, .int .i64 z21), (0, .slice A0 l0.length c0), (1, .int .i64 p1), (2, .int .i64 p2), (3, .func (.func 62) #[] #[])] _ _
 obtain ⟨H49, hi55, hi56, hi57, hq54⟩ := dm53.1 hf50
 obtain ⟨f58, hf59⟩ : ∃ q, f46 = q + 1 := ⟨f46 - 1, by omega⟩
 subst hf59
 refine Wp.seq (Wp.seq ?_)
 have H61 := H49.drew
 refine Wp.drawnX [] (fun W => ∃ L', Own w D W ([row A0 l0.length c0 (List.flatMap PairD.cells l44) 58 2] ++ L')) (by kernel_rfl) (by kernel_rfl) (NoP.then (NoP.then (NoP.then (NoP.block (NoP.block (NoP.then (NoP.then (NoP.block NoP.base)))))))) ⟨_, H61⟩ ?_
 revert H61
 generalize World.drew w48 = w60
 intro H61
 refine GX.take (v := .int .i64 z43) (rs := []) 0 rfl (by kernel_rfl) (fun _ _ => Yl.move rfl) (GX.take (v := .int .i64 p1) (rs := []) 1 rfl (by kernel_rfl) (fun _ _ => Yl.move rfl) (GX.take (v := .bool (decide (z43 > p1))) (rs := []) 2 rfl (by kernel_rfl) (fun _ _ => yk) (GX.take (v := .bool (decide (z43 > p1))) (rs := []) 3 rfl (by kernel_rfl) (fun _ _ => Yl.move rfl) ?_)))
 by_cases h62 : z43 > p1
 refine GX.takeG (v := .func (.func 62) #[] #[]) (rs := []) 4 rfl rfl rfl (dT h62) (by kernel_rfl) (fun _ _ => Yl.move rfl) (GX.takeG (v := .slice A0 l0.length c0) (rs := []) 5 rfl rfl rfl (dT h62) (by kernel_rfl) (fun _ _ => Yl.move rfl) (GX.takeG (v := .int .i64 ((Int.toNat z43 : Nat) : Int)) (rs := []) 6 rfl rfl rfl (dT h62) (by kernel_rfl) (fun _ _ => Yl.int (e := z43) (Yl.move rfl) (by omega)) ?_))
 obtain ⟨x63, hx64⟩ := at_of (ls := l44) (i := Int.toNat z43) (by first | omega | (simp; done) | (simp; omega))
 refine GX.takeG (v := .pointer (some ⟨ab A0, ao A0 + (Int.toNat z43) * 2, none⟩)) (rs := []) 7 rfl rfl rfl (dT h62) (by kernel_rfl) (fun _ ⟨_, H9⟩ => Yl.indexAddr (El54) rfl rfl ((H9.rds (i := 0) rfl).addr (i := Int.toNat z43) (by omega)) (by omega)) (GX.takeG (v := .agg (PairD.cells x63).toArray) (rs := []) 8 rfl rfl rfl (dT h62) (by kernel_rfl) (fun _ ⟨_, H9⟩ => Yl.load rfl (Lds.agg (cs := (PairD.cells x63)) Try.isAgg58 Try.sizeOf58 ((H9.rds (i := 0) rfl).elem PairD.len hx64 (by decide)))) (GX.takeG (v := .slice A0 l0.length c0) (rs := []) 9 rfl rfl rfl (dT h62) (by kernel_rfl) (fun _ _ => Yl.move rfl) (GX.takeG (v := .int .i64 z43) (rs := []) 10 rfl rfl rfl (dT h62) (by kernel_rfl) (fun _ _ => Yl.move rfl) (GX.takeG (v := .int .i64 ((Int.toNat (z43 - 1) : Nat) : Int)) (rs := []) 11 rfl rfl rfl (dT h62) (by kernel_rfl) (fun _ _ => Yl.int (e := IntKind.i64.wrap (z43 - 1)) yk (by rw [IntWalk.i64_in _ (by omega)]; omega)) ?_))))
 obtain ⟨x65, hx66⟩ := at_of (ls := l44) (i := Int.toNat (z43 - 1)) (by first | omega | (simp; done) | (simp; omega))
 refine GX.takeG (v := .pointer (some ⟨ab A0, ao A0 + (Int.toNat (z43 - 1)) * 2, none⟩)) (rs := []) 12 rfl rfl rfl (dT h62) (by kernel_rfl) (fun _ ⟨_, H9⟩ => Yl.indexAddr (El54) rfl rfl ((H9.rds (i := 0) rfl).addr (i := Int.toNat (z43 - 1)) (by omega)) (by omega)) (GX.takeG (v := .agg (PairD.cells x65).toArray) (rs := []) 13 rfl rfl rfl (dT h62) (by kernel_rfl) (fun _ ⟨_, H9⟩ => Yl.load rfl (Lds.agg (cs := (PairD.cells x65)) Try.isAgg58 Try.sizeOf58 ((H9.rds (i := 0) rfl).elem PairD.len hx66 (by decide)))) ?_)
 obtain ⟨r72, hr73⟩ : ∃ q, owner_gatherOp_1 x63 x65 = q := ⟨_, rfl⟩
 obtain ⟨D67, HP68, ro69, bk70, rr71⟩ := Own.enter0 H61
 refine GX.doG 14 rfl rfl rfl (dT h62) (by kernel_rfl) (Do.callV Try.call62 rfl rfl (owner_gatherOp_1_ok _ _ x63 x65 r72 HP68 hr73) ?_)
 rintro _ w74 ⟨rfl, HQ75⟩
 have H76 := bk70 _ _ HQ75
 refine ⟨.inr ⟨_, H76⟩, ?_⟩
 refine GX.takeG (v := .bool (decide (r72 < 0))) (rs := []) 15 rfl rfl rfl (dT h62) (by kernel_rfl) (fun _ _ => yk) (GX.take (v := .bool (decide (r72 < 0))) (rs := []) 16 rfl (by kernel_rfl) (fun _ _ => Yl.pickT rfl (dT h62) rfl) (GX.done (by kernel_rfl) (Fin.then ?_)))
 by_cases h77 : r72 < 0
 refine jT (dT h77) (sk (Wp.seq (bo ?_)))
 have H79 := H76.drew
 refine Wp.drawnX [15, 17] (fun W => ∃ L', Own w D W ([row A0 l0.length c0 (List.flatMap PairD.cells l44) 58 2] ++ L')) (by kernel_rfl) (by kernel_rfl) (NoP.block (NoP.then (NoP.then (NoP.block (NoP.block (NoP.then (NoP.then (NoP.block NoP.base)))))))) ⟨_, H79⟩ ?_
 revert H79
 generalize World.drew w74 = w78
 intro H79
 refine GX.take (v := .slice A0 l0.length c0) (rs := [[], []]) 0 rfl (by kernel_rfl) (fun _ _ => Yl.move rfl) (GX.take (v := .int .i64 ((Int.toNat z43 : Nat) : Int)) (rs := [[], []]) 1 rfl (by kernel_rfl) (fun _ _ => Yl.int (e := z43) (Yl.move rfl) (by omega)) (GX.takeA (v := .slice A0 l0.length c0) 2 rfl (by kernel_rfl) (fun _ => Yl.move rfl) (GX.takeA (v := .int .i64 z43) 3 rfl (by kernel_rfl) (fun _ => Yl.move rfl) (GX.takeA (v := .int .i64 ((Int.toNat (z43 - 1) : Nat) : Int)) 4 rfl (by kernel_rfl) (fun _ => Yl.int (e := IntKind.i64.wrap (z43 - 1)) yk (by rw [IntWalk.i64_in _ (by omega)]; omega)) (GX.take (v := .slice A0 l0.length c0) (rs := [[], []]) 5 rfl (by kernel_rfl) (fun _ _ => Yl.move rfl) (GX.take (v := .int .i64 z43) (rs := [[], []]) 6 rfl (by kernel_rfl) (fun _ _ => Yl.move rfl) (GX.take (v := .int .i64 ((Int.toNat (z43 - 1) : Nat) : Int)) (rs := [[], []]) 7 rfl (by kernel_rfl) (fun _ _ => Yl.int (e := IntKind.i64.wrap (z43 - 1)) yk (by rw [IntWalk.i64_in _ (by omega)]; omega)) (GX.take (v := .pointer (some ⟨ab A0, ao A0 + (Int.toNat (z43 - 1)) * 2, none⟩)) (rs := [[], []]) 8 rfl (by kernel_rfl) (fun _ ⟨_, H9⟩ => Yl.indexAddr (El54) rfl rfl ((H9.rds (i := 0) rfl).addr (i := Int.toNat (z43 - 1)) (by omega)) (by omega)) (GX.take (v := .agg (PairD.cells x65).toArray) (rs := [[], []]) 9 rfl (by kernel_rfl) (fun _ ⟨_, H9⟩ => Yl.load rfl (Lds.agg (cs := (PairD.cells x65)) Try.isAgg58 Try.sizeOf58 ((H9.rds (i := 0) rfl).elem PairD.len hx66 (by decide)))) (GX.take (v := .slice A0 l0.length c0) (rs := [[13, 12], []]) 10 rfl (by kernel_rfl) (fun _ _ => Yl.move rfl) (GX.take (v := .int .i64 ((Int.toNat z43 : Nat) : Int)) (rs := [[13, 12], []]) 11 rfl (by kernel_rfl) (fun _ _ => Yl.int (e := z43) (Yl.move rfl) (by omega)) (GX.take (v := .pointer (some ⟨ab A0, ao A0 + (Int.toNat z43) * 2, none⟩)) (rs := [[13], []]) 12 rfl (by kernel_rfl) (fun _ ⟨_, H9⟩ => Yl.indexAddr (El54) rfl rfl ((H9.rds (i := 0) rfl).addr (i := Int.toNat z43) (by omega)) (by omega)) (GX.take (v := .agg (PairD.cells x63).toArray) (rs := [[], []]) 13 rfl (by kernel_rfl) (fun _ ⟨_, H9⟩ => Yl.load rfl (Lds.agg (cs := (PairD.cells x63)) Try.isAgg58 Try.sizeOf58 ((H9.rds (i := 0) rfl).elem PairD.len hx64 (by decide)))) (GX.take (v := .pointer (some ⟨ab A0, ao A0 + (Int.toNat z43) * 2, none⟩)) (rs := [[], []]) 14 rfl (by kernel_rfl) (fun _ ⟨_, H9⟩ => Yl.indexAddr (El54) rfl rfl ((H9.rds (i := 0) rfl).addr (i := Int.toNat z43) (by omega)) (by omega)) ?_))))))))))))))
 refine GX.do0 15 rfl (by kernel_rfl) (Do.storeRow (vs := (PairD.cells x65)) (o := (Int.toNat z43) * 2 + 0) (q := ao A0 + (Int.toNat z43) * 2) H79 rfl (by omega) rfl Try.sizeOf58 rfl rfl (Nat.le_of_ble_eq_true rfl) (store_fits PairD.len hx64 (Nat.le_of_ble_eq_true rfl)) (flat_set (y := (PairD.mk x65.xKey x65.xValue)) PairD.len rfl (Nat.le_of_ble_eq_true rfl) hx64) ?_)
 intro w80 H81
 refine ⟨.inl (by kernel_rfl), ?_⟩
 obtain ⟨x82, hx83⟩ := at_of (ls := l44) (i := Int.toNat (z43 - 1)) (by first | omega | (simp; done) | (simp; omega))
 obtain ⟨x84, hx85⟩ := rds_at (ls := (List.set l44 (Int.toNat z43) (PairD.mk x65.xKey x65.xValue))) (i := Int.toNat (z43 - 1)) PairD.len (by decide) (H81.rds (i := 0) rfl) (by first | omega | (simp; done) | (simp; omega))
 refine GX.takeA (v := .pointer (some ⟨ab A0, ao A0 + (Int.toNat (z43 - 1)) * 2, none⟩)) 16 rfl (by kernel_rfl) (fun _ => Yl.indexAddr (El54) rfl rfl ((H81.rds (i := 0) rfl).addr (i := Int.toNat (z43 - 1)) (by omega)) (by omega)) ?_
 obtain ⟨x86, hx87⟩ := at_of (ls := (List.set l44 (Int.toNat z43) (PairD.mk x65.xKey x65.xValue))) (i := Int.toNat (z43 - 1)) (by first | omega | (simp; done) | (simp; omega))
 refine GX.do0 17 rfl (by kernel_rfl) (Do.storeRow (vs := (PairD.cells x63)) (o := (Int.toNat (z43 - 1)) * 2 + 0) (q := ao A0 + (Int.toNat (z43 - 1)) * 2) H81 rfl (by omega) rfl Try.sizeOf58 rfl rfl (Nat.le_of_ble_eq_true rfl) (store_fits PairD.len hx87 (Nat.le_of_ble_eq_true rfl)) (flat_set (y := (PairD.mk x63.xKey x63.xValue)) PairD.len rfl (Nat.le_of_ble_eq_true rfl) hx87) ?_)
 intro w88 H89
 refine ⟨.inl (by kernel_rfl), ?_⟩
 refine GX.done (by kernel_rfl) (bN (Fin.then (Wp.region (Mz rfl (fw (.int .i64 (z43 - 1)) (Yl.int (e := IntKind.i64.wrap (z43 - 1)) yk (by rw [IntWalk.i64_in _ (by omega)])) (Az rfl (WL.nil ?_)))))))
 have H90 := H89.pk [0]
 exact Fin.round (z43 - 1, (List.set (List.set l44 (Int.toNat z43) (PairD.mk x65.xKey x65.xValue)) (Int.toNat (z43 - 1)) (PairD.mk x63.xKey x63.xValue)), f58) ⟨rfl, rfl, rfl, rfl, rfl, rfl, trivial⟩ (dm53.2 ⟨H90, by first | omega | (simp only [List.length_set] <;> omega) | (simp only [List.length_replicate]), by omega, by omega, Eq.trans (hq54) (Eq.trans (if_pos h62) (Eq.trans (bnd_of (getD_of hx64)) (Eq.trans (bnd_of (getD_of hx66)) (Eq.trans (bnd_of hr73) (if_pos h77)))))⟩) (by show f58 < f58 + 1; omega)
 refine jF (dF h77) (Wp.exit (Fin.thenX (Fin.thenX (Fin.blockX (bN ?_)))))
 have H91 := H76.pk [0]
 exact Fin.join l44 ⟨rfl, rfl, rfl, rfl, rfl, trivial⟩ (dm42.2 ⟨H91, by first | omega | (simp only [List.length_set] <;> omega) | (simp only [List.length_replicate]), bnd_of (Eq.trans (hq54) (Eq.trans (if_pos h62) (Eq.trans (bnd_of (getD_of hx64)) (Eq.trans (bnd_of (getD_of hx66)) (Eq.trans (bnd_of hr73) (if_neg h77))))))⟩)
 refine GX.skipG (rs := []) 4 rfl rfl rfl (dF h62) (by kernel_rfl) (GX.skipG (rs := []) 5 rfl rfl rfl (dF h62) (by kernel_rfl) (GX.skipG (rs := []) 6 rfl rfl rfl (dF h62) (by kernel_rfl) (GX.skipG (rs := []) 7 rfl rfl rfl (dF h62) (by kernel_rfl) (GX.skipG (rs := []) 8 rfl rfl rfl (dF h62) (by kernel_rfl) (GX.skipG (rs := []) 9 rfl rfl rfl (dF h62) (by kernel_rfl) (GX.skipG (rs := []) 10 rfl rfl rfl (dF h62) (by kernel_rfl) (GX.skipG (rs := []) 11 rfl rfl rfl (dF h62) (by kernel_rfl) (GX.skipG (rs := []) 12 rfl rfl rfl (dF h62) (by kernel_rfl) (GX.skipG (rs := []) 13 rfl rfl rfl (dF h62) (by kernel_rfl) (GX.skipG (rs := []) 14 rfl rfl rfl (dF h62) (by kernel_rfl) (GX.skipG (rs := []) 15 rfl rfl rfl (dF h62) (by kernel_rfl) (GX.take (v := .bool false) (rs := []) 16 rfl (by kernel_rfl) (fun _ _ => Yl.pickF rfl (dF h62) rfl) (GX.done (by kernel_rfl) (Fin.then (jf (Wp.exit (Fin.thenX (Fin.thenX (Fin.blockX (bN ?_))))))))))))))))))))
 have H92 := H61.pk [0]
 exact Fin.join l44 ⟨rfl, rfl, rfl, rfl, rfl, trivial⟩ (dm42.2 ⟨H92, by first | omega | (simp only [List.length_set] <;> omega) | (simp only [List.length_replicate]), bnd_of (Eq.trans (hq54) (if_neg h62))⟩)
 rintro l39 w93 hf95
 show Wp _ _ _ [(8, .int .i64 z21), (0, .slice A0 l0.length c0), (1, .int .i64 p1), (2, .int .i64 p2), (3, .func (.func 62) #[] #[])] _ _
 obtain ⟨H94, hi97, hj96⟩ := dm42.1 hf95
 refine Wp.region (Mz rfl (fw (.int .i64 (z21 + 1)) (Yl.int (e := IntKind.i64.wrap (z21 + 1)) yk (by rw [IntWalk.i64_in _ (by omega)])) (Az rfl (WL.nil ?_))))
 have H98 := H94.pk [0]
 exact Fin.round (z21 + 1, l39, f36) ⟨rfl, rfl, rfl, rfl, rfl, trivial⟩ (dm31.2 ⟨H98, by first | omega | (simp only [List.length_set] <;> omega) | (simp only [List.length_replicate]), by omega, by omega, Eq.trans (hq32) (Eq.trans (if_pos h38) (bnd_of hj96))⟩) (by show f36 < f36 + 1; omega)
 refine jF (dF h38) (Wp.exit (Fin.thenX ?_))
 have hL99 : slices_insertionSortCmpFunc_api_Pair_L0 p1 p2 ((Int.toNat (p2 - (p1 + 1))) + 1) (p1 + 1) l0 = l22 := et (hq32) (iN h38)
 refine Fin.thenX (Fin.blockX (Fin.res0 (res0 rfl) ?_))
 have H100 := H27.pk [0]
 obtain rfl : _ = l22 := hr.symm.trans (bnd_of hL99)
 exact ⟨rfl, H100, (by first | rfl | omega | (simp only [List.length_set] <;> omega))⟩
def slices_swapRangeCmpFunc_api_Pair_L0 (p1 : Int) (p2 : Int) (p3 : Int) : Nat → Nat → List PairD → (List PairD)
  | 0, k21, l22 => default
  | q23 + 1, k21, l22 => if ((k21 : Nat) : Int) < p3 then bnd (List.getD l22 (Int.toNat (p2 + ((k21 : Nat) : Int))) default) fun yx41 => bnd (List.getD l22 (Int.toNat (p1 + ((k21 : Nat) : Int))) default) fun yx43 => slices_swapRangeCmpFunc_api_Pair_L0 p1 p2 p3 q23 (k21 + 1) (List.set (List.set l22 (Int.toNat (p1 + ((k21 : Nat) : Int))) (PairD.mk yx41.xKey yx41.xValue)) (Int.toNat (p2 + ((k21 : Nat) : Int))) (PairD.mk yx43.xKey yx43.xValue)) else l22
def slices_swapRangeCmpFunc_api_Pair (l0 : List PairD) (p1 : Int) (p2 : Int) (p3 : Int) : (List PairD) :=
 bnd (slices_swapRangeCmpFunc_api_Pair_L0 p1 p2 p3 ((Int.toNat (p3 - 0)) + 1) 0 l0) fun sLrL => sLrL
set_option maxRecDepth 100000 in
theorem slices_swapRangeCmpFunc_api_Pair_ok (w : World) (D : Nat → Prop) (A0 : Option Addr) (n0 c0 : Nat) (l0 : List PairD) (p1 : Int) (p2 : Int) (p3 : Int) (r0 : List PairD) (H : Own w D w [row A0 n0 c0 (List.flatMap PairD.cells l0) 58 2]) (hn0 : n0 = l0.length) (hl0 : l0.length * 32 ≤ 211106232532992) (hh0 : 0 ≤ p1 ∧ 0 ≤ p2 ∧ 0 ≤ p3 ∧ p1 + p3 ≤ ((l0.length : Nat) : Int) ∧ p2 + p3 ≤ ((l0.length : Nat) : Int)) (hr : slices_swapRangeCmpFunc_api_Pair l0 p1 p2 p3 = r0) :
    Calls Try.prog 103 #[.slice A0 n0 c0, .int .i64 p1, .int .i64 p2, .int .i64 p3, .func (.func 62) #[] #[]] w (Ret fun v w' => v = .tuple #[] ∧ Own w D w' [row A0 n0 c0 (List.flatMap PairD.cells r0) 58 2] ∧ (r0.length = l0.length)) := by
 subst hn0
 have hc0 := H.rowC (i := 0) rfl
 refine Calls.body (args := [.slice A0 l0.length c0, .int .i64 p1, .int .i64 p2, .int .i64 p3, .func (.func 62) #[] #[]]) Try.func103 rfl rfl rfl ?_
 show Wp _ _ _ [(0, .slice A0 l0.length c0), (1, .int .i64 p1), (2, .int .i64 p2), (3, .int .i64 p3), (4, .func (.func 62) #[] #[])] _ _
 refine sr (An rfl (bo ?_))
 have H25 : Own w D w [row A0 l0.length c0 (List.flatMap PairD.cells l0) 58 2] := H.pk [0]
 obtain ⟨I29, hI30⟩ : ∃ q : (Nat × (List PairD) × Nat) → World → Prop, q = fun (i : Nat × (List PairD) × Nat) w' => Own w D w' [row A0 l0.length c0 (List.flatMap PairD.cells i.2.1) 58 2] ∧ (i.2.1.length = l0.length ∧ 0 ≤ i.1 ∧ Int.toNat (p3 - i.1) < i.2.2 ∧ slices_swapRangeCmpFunc_api_Pair_L0 p1 p2 p3 ((Int.toNat (p3 - 0)) + 1) 0 l0 = slices_swapRangeCmpFunc_api_Pair_L0 p1 p2 p3 i.2.2 i.1 i.2.1) := ⟨_, rfl⟩
 have dm31 : ∀ {k21 : Nat} {l22 : List PairD} {f24 : Nat} {w' : World}, I29 (k21, l22, f24) w' ↔ Own w D w' [row A0 l0.length c0 (List.flatMap PairD.cells l22) 58 2] ∧ l22.length = l0.length ∧ 0 ≤ k21 ∧ Int.toNat (p3 - k21) < f24 ∧ slices_swapRangeCmpFunc_api_Pair_L0 p1 p2 p3 ((Int.toNat (p3 - 0)) + 1) 0 l0 = slices_swapRangeCmpFunc_api_Pair_L0 p1 p2 p3 f24 k21 l22 := by intros; subst hI30; exact Iff.rfl
 refine Wp.loop (fun i : Nat × (List PairD) × Nat => [(10, .int .i64 ((i.1 : Nat) : Int)), (0, .slice A0 l0.length c0), (1, .int .i64 p1), (2, .int .i64 p2), (3, .int .i64 p3)]) I29 (fun i => i.2.2) (0, l0, (Int.toNat (p3 - 0)) + 1) ⟨rfl, rfl, rfl, rfl, rfl, trivial⟩ (dm31.2 ⟨H25, by first | omega | (simp only [List.length_set] <;> omega) | (simp only [List.length_replicate]), by omega, by omega, rfl⟩) ?_
 rintro ⟨k21, l22, f24⟩ w26 hf28
 show Wp _ _ _ [(10, .int .i64 ((k21 : Nat) : Int)), (0, .slice A0 l0.length c0), (1, .int .i64 p1), (2, .int .i64 p2), (3, .int .i64 p3)] _ _
 obtain ⟨H27, hi33, hi34, hi35, hq32⟩ := dm31.1 hf28
 obtain ⟨f36, hf37⟩ : ∃ q, f24 = q + 1 := ⟨f24 - 1, by omega⟩
 subst hf37
 refine Wp.seq (sr (Mz rfl (Mz rfl (Kz (.bool (decide (((k21 : Nat) : Int) < p3))) (nt ?_)))))
 by_cases h38 : ((k21 : Nat) : Int) < p3
 refine jT (dT h38) (sk (Wp.seq (bo ?_)))
 have H40 := H27.drew
 refine Wp.drawnX [21, 23] (fun W => ∃ L', Own w D W ([row A0 l0.length c0 (List.flatMap PairD.cells l22) 58 2] ++ L')) (by kernel_rfl) (by kernel_rfl) (NoP.block (NoP.then (NoP.then (NoP.block NoP.base)))) ⟨_, H40⟩ ?_
 revert H40
 generalize World.drew w26 = w39
 intro H40
 refine GX.take (v := .slice A0 l0.length c0) (rs := [[], []]) 0 rfl (by kernel_rfl) (fun _ _ => Yl.move rfl) (GX.take (v := .int .i64 p1) (rs := [[], []]) 1 rfl (by kernel_rfl) (fun _ _ => Yl.move rfl) (GX.take (v := .int .i64 ((k21 : Nat) : Int)) (rs := [[], []]) 2 rfl (by kernel_rfl) (fun _ _ => Yl.move rfl) (GX.take (v := .int .i64 ((Int.toNat (p1 + ((k21 : Nat) : Int)) : Nat) : Int)) (rs := [[], []]) 3 rfl (by kernel_rfl) (fun _ _ => Yl.int (e := IntKind.i64.wrap (p1 + ((k21 : Nat) : Int))) yk (by rw [IntWalk.i64_in _ (by omega)]; omega)) (GX.takeA (v := .slice A0 l0.length c0) 4 rfl (by kernel_rfl) (fun _ => Yl.move rfl) (GX.takeA (v := .int .i64 p2) 5 rfl (by kernel_rfl) (fun _ => Yl.move rfl) (GX.takeA (v := .int .i64 ((k21 : Nat) : Int)) 6 rfl (by kernel_rfl) (fun _ => Yl.move rfl) (GX.takeA (v := .int .i64 ((Int.toNat (p2 + ((k21 : Nat) : Int)) : Nat) : Int)) 7 rfl (by kernel_rfl) (fun _ => Yl.int (e := IntKind.i64.wrap (p2 + ((k21 : Nat) : Int))) yk (by rw [IntWalk.i64_in _ (by omega)]; omega)) (GX.take (v := .slice A0 l0.length c0) (rs := [[], []]) 8 rfl (by kernel_rfl) (fun _ _ => Yl.move rfl) (GX.take (v := .int .i64 p2) (rs := [[], []]) 9 rfl (by kernel_rfl) (fun _ _ => Yl.move rfl) (GX.take (v := .int .i64 ((k21 : Nat) : Int)) (rs := [[], []]) 10 rfl (by kernel_rfl) (fun _ _ => Yl.move rfl) (GX.take (v := .int .i64 ((Int.toNat (p2 + ((k21 : Nat) : Int)) : Nat) : Int)) (rs := [[], []]) 11 rfl (by kernel_rfl) (fun _ _ => Yl.int (e := IntKind.i64.wrap (p2 + ((k21 : Nat) : Int))) yk (by rw [IntWalk.i64_in _ (by omega)]; omega)) ?_)))))))))))
 obtain ⟨x41, hx42⟩ := at_of (ls := l22) (i := Int.toNat (p2 + ((k21 : Nat) : Int))) (by first | omega | (simp; done) | (simp; omega))
 refine GX.take (v := .pointer (some ⟨ab A0, ao A0 + (Int.toNat (p2 + ((k21 : Nat) : Int))) * 2, none⟩)) (rs := [[], []]) 12 rfl (by kernel_rfl) (fun _ ⟨_, H9⟩ => Yl.indexAddr (El54) rfl rfl ((H9.rds (i := 0) rfl).addr (i := Int.toNat (p2 + ((k21 : Nat) : Int))) (by omega)) (by omega)) (GX.take (v := .agg (PairD.cells x41).toArray) (rs := [[], []]) 13 rfl (by kernel_rfl) (fun _ ⟨_, H9⟩ => Yl.load rfl (Lds.agg (cs := (PairD.cells x41)) Try.isAgg58 Try.sizeOf58 ((H9.rds (i := 0) rfl).elem PairD.len hx42 (by decide)))) (GX.take (v := .slice A0 l0.length c0) (rs := [[19, 18], []]) 14 rfl (by kernel_rfl) (fun _ _ => Yl.move rfl) (GX.take (v := .int .i64 p1) (rs := [[19, 18, 17], []]) 15 rfl (by kernel_rfl) (fun _ _ => Yl.move rfl) (GX.take (v := .int .i64 ((k21 : Nat) : Int)) (rs := [[19, 18, 17], []]) 16 rfl (by kernel_rfl) (fun _ _ => Yl.move rfl) (GX.take (v := .int .i64 ((Int.toNat (p1 + ((k21 : Nat) : Int)) : Nat) : Int)) (rs := [[19, 18], []]) 17 rfl (by kernel_rfl) (fun _ _ => Yl.int (e := IntKind.i64.wrap (p1 + ((k21 : Nat) : Int))) yk (by rw [IntWalk.i64_in _ (by omega)]; omega)) ?_)))))
 obtain ⟨x43, hx44⟩ := at_of (ls := l22) (i := Int.toNat (p1 + ((k21 : Nat) : Int))) (by first | omega | (simp; done) | (simp; omega))
 refine GX.take (v := .pointer (some ⟨ab A0, ao A0 + (Int.toNat (p1 + ((k21 : Nat) : Int))) * 2, none⟩)) (rs := [[19], []]) 18 rfl (by kernel_rfl) (fun _ ⟨_, H9⟩ => Yl.indexAddr (El54) rfl rfl ((H9.rds (i := 0) rfl).addr (i := Int.toNat (p1 + ((k21 : Nat) : Int))) (by omega)) (by omega)) (GX.take (v := .agg (PairD.cells x43).toArray) (rs := [[], []]) 19 rfl (by kernel_rfl) (fun _ ⟨_, H9⟩ => Yl.load rfl (Lds.agg (cs := (PairD.cells x43)) Try.isAgg58 Try.sizeOf58 ((H9.rds (i := 0) rfl).elem PairD.len hx44 (by decide)))) (GX.take (v := .pointer (some ⟨ab A0, ao A0 + (Int.toNat (p1 + ((k21 : Nat) : Int))) * 2, none⟩)) (rs := [[], []]) 20 rfl (by kernel_rfl) (fun _ ⟨_, H9⟩ => Yl.indexAddr (El54) rfl rfl ((H9.rds (i := 0) rfl).addr (i := Int.toNat (p1 + ((k21 : Nat) : Int))) (by omega)) (by omega)) ?_))
 refine GX.do0 21 rfl (by kernel_rfl) (Do.storeRow (vs := (PairD.cells x41)) (o := (Int.toNat (p1 + ((k21 : Nat) : Int))) * 2 + 0) (q := ao A0 + (Int.toNat (p1 + ((k21 : Nat) : Int))) * 2) H40 rfl (by omega) rfl Try.sizeOf58 rfl rfl (Nat.le_of_ble_eq_true rfl) (store_fits PairD.len hx44 (Nat.le_of_ble_eq_true rfl)) (flat_set (y := (PairD.mk x41.xKey x41.xValue)) PairD.len rfl (Nat.le_of_ble_eq_true rfl) hx44) ?_)
 intro w45 H46
 refine ⟨.inl (by kernel_rfl), ?_⟩
 obtain ⟨x47, hx48⟩ := at_of (ls := l22) (i := Int.toNat (p2 + ((k21 : Nat) : Int))) (by first | omega | (simp; done) | (simp; omega))
 obtain ⟨x49, hx50⟩ := rds_at (ls := (List.set l22 (Int.toNat (p1 + ((k21 : Nat) : Int))) (PairD.mk x41.xKey x41.xValue))) (i := Int.toNat (p2 + ((k21 : Nat) : Int))) PairD.len (by decide) (H46.rds (i := 0) rfl) (by first | omega | (simp; done) | (simp; omega))
 refine GX.takeA (v := .pointer (some ⟨ab A0, ao A0 + (Int.toNat (p2 + ((k21 : Nat) : Int))) * 2, none⟩)) 22 rfl (by kernel_rfl) (fun _ => Yl.indexAddr (El54) rfl rfl ((H46.rds (i := 0) rfl).addr (i := Int.toNat (p2 + ((k21 : Nat) : Int))) (by omega)) (by omega)) ?_
 obtain ⟨x51, hx52⟩ := at_of (ls := (List.set l22 (Int.toNat (p1 + ((k21 : Nat) : Int))) (PairD.mk x41.xKey x41.xValue))) (i := Int.toNat (p2 + ((k21 : Nat) : Int))) (by first | omega | (simp; done) | (simp; omega))
 refine GX.do0 23 rfl (by kernel_rfl) (Do.storeRow (vs := (PairD.cells x43)) (o := (Int.toNat (p2 + ((k21 : Nat) : Int))) * 2 + 0) (q := ao A0 + (Int.toNat (p2 + ((k21 : Nat) : Int))) * 2) H46 rfl (by omega) rfl Try.sizeOf58 rfl rfl (Nat.le_of_ble_eq_true rfl) (store_fits PairD.len hx52 (Nat.le_of_ble_eq_true rfl)) (flat_set (y := (PairD.mk x43.xKey x43.xValue)) PairD.len rfl (Nat.le_of_ble_eq_true rfl) hx52) ?_)
 intro w53 H54
 refine ⟨.inl (by kernel_rfl), ?_⟩
 refine GX.done (by kernel_rfl) (bN (Fin.then (Wp.region (Mz rfl (fw (.int .i64 ((k21 + 1 : Nat) : Int)) (Yl.int (e := IntKind.i64.wrap (((k21 : Nat) : Int) + 1)) yk (by rw [IntWalk.i64_in _ (by omega)]; omega)) (Az rfl (WL.nil ?_)))))))
 have H55 := H54.pk [0]
 exact Fin.round (k21 + 1, (List.set (List.set l22 (Int.toNat (p1 + ((k21 : Nat) : Int))) (PairD.mk x41.xKey x41.xValue)) (Int.toNat (p2 + ((k21 : Nat) : Int))) (PairD.mk x43.xKey x43.xValue)), f36) ⟨rfl, rfl, rfl, rfl, rfl, trivial⟩ (dm31.2 ⟨H55, by first | omega | (simp only [List.length_set] <;> omega) | (simp only [List.length_replicate]), by omega, by omega, Eq.trans (hq32) (Eq.trans (if_pos h38) (Eq.trans (bnd_of (getD_of hx42)) (bnd_of (getD_of hx44))))⟩) (by show f36 < f36 + 1; omega)
 refine jF (dF h38) (Wp.exit (Fin.thenX ?_))
 have hL56 : slices_swapRangeCmpFunc_api_Pair_L0 p1 p2 p3 ((Int.toNat (p3 - 0)) + 1) 0 l0 = l22 := et (hq32) (iN h38)
 refine Fin.thenX (Fin.blockX (Fin.res0 (res0 rfl) ?_))
 have H57 := H27.pk [0]
 obtain rfl : _ = l22 := hr.symm.trans (bnd_of hL56)
 exact ⟨rfl, H57, (by first | rfl | omega | (simp only [List.length_set] <;> omega))⟩
def slices_rotateCmpFunc_api_Pair_L0 (p2 : Int) : Nat → Int → Int → List PairD → Int × (List PairD)
  | 0, z21, z22, l23 => default
  | q24 + 1, z21, z22, l23 => if z21 = z22 then (z21, l23) else if z21 > z22 then bnd (slices_swapRangeCmpFunc_api_Pair l23 (p2 - z21) p2 z22) fun yr60 => slices_rotateCmpFunc_api_Pair_L0 p2 q24 (z21 - z22) z22 yr60 else bnd (slices_swapRangeCmpFunc_api_Pair l23 (p2 - z21) ((p2 + z22) - z21) z21) fun yr73 => slices_rotateCmpFunc_api_Pair_L0 p2 q24 z21 (z22 - z21) yr73
def slices_rotateCmpFunc_api_Pair (l0 : List PairD) (p1 : Int) (p2 : Int) (p3 : Int) : (List PairD) :=
 bnd (slices_rotateCmpFunc_api_Pair_L0 p2 ((Int.toNat ((p2 - p1) + (p3 - p2))) + 1) (p2 - p1) (p3 - p2) l0) fun sLrL => bnd (slices_swapRangeCmpFunc_api_Pair sLrL.2 (p2 - sLrL.1) p2 sLrL.1) fun yr46 => yr46
set_option maxRecDepth 100000 in
theorem slices_rotateCmpFunc_api_Pair_ok (w : World) (D : Nat → Prop) (A0 : Option Addr) (n0 c0 : Nat) (l0 : List PairD) (p1 : Int) (p2 : Int) (p3 : Int) (r0 : List PairD) (H : Own w D w [row A0 n0 c0 (List.flatMap PairD.cells l0) 58 2]) (hn0 : n0 = l0.length) (hl0 : l0.length * 32 ≤ 211106232532992) (hh0 : 0 ≤ p1 ∧ p1 < p2 ∧ p2 < p3 ∧ p3 ≤ ((l0.length : Nat) : Int)) (hr : slices_rotateCmpFunc_api_Pair l0 p1 p2 p3 = r0) :
    Calls Try.prog 101 #[.slice A0 n0 c0, .int .i64 p1, .int .i64 p2, .int .i64 p3, .func (.func 62) #[] #[]] w (Ret fun v w' => v = .tuple #[] ∧ Own w D w' [row A0 n0 c0 (List.flatMap PairD.cells r0) 58 2] ∧ (r0.length = l0.length)) := by
 subst hn0
 have hc0 := H.rowC (i := 0) rfl
 refine Calls.body (args := [.slice A0 l0.length c0, .int .i64 p1, .int .i64 p2, .int .i64 p3, .func (.func 62) #[] #[]]) Try.func101 rfl rfl rfl ?_
 show Wp _ _ _ [(0, .slice A0 l0.length c0), (1, .int .i64 p1), (2, .int .i64 p2), (3, .int .i64 p3), (4, .func (.func 62) #[] #[])] _ _
 refine sr (Mz rfl (Mz rfl (fw (.int .i64 (p2 - p1)) (Yl.int (e := IntKind.i64.wrap (p2 - p1)) yk (by rw [IntWalk.i64_in _ (by omega)])) (Ar rfl (Mz rfl (Mz rfl (fw (.int .i64 (p3 - p2)) (Yl.int (e := IntKind.i64.wrap (p3 - p2)) yk (by rw [IntWalk.i64_in _ (by omega)])) (An rfl (Wp.seq (bo ?_))))))))))
 have H26 : Own w D w [row A0 l0.length c0 (List.flatMap PairD.cells l0) 58 2] := H.pk [0]
 obtain ⟨I30, hI31⟩ : ∃ q : (Int × Int × (List PairD) × Nat) → World → Prop, q = fun (i : Int × Int × (List PairD) × Nat) w' => Own w D w' [row A0 l0.length c0 (List.flatMap PairD.cells i.2.2.1) 58 2] ∧ (i.2.2.1.length = l0.length ∧ (1 ≤ i.1 ∧ 1 ≤ i.2.1 ∧ i.1 ≤ p2 - p1 ∧ i.2.1 ≤ p3 - p2) ∧ Int.toNat (i.1 + i.2.1) < i.2.2.2 ∧ slices_rotateCmpFunc_api_Pair_L0 p2 ((Int.toNat ((p2 - p1) + (p3 - p2))) + 1) (p2 - p1) (p3 - p2) l0 = slices_rotateCmpFunc_api_Pair_L0 p2 i.2.2.2 i.1 i.2.1 i.2.2.1) := ⟨_, rfl⟩
 have dm32 : ∀ {z21 : Int} {z22 : Int} {l23 : List PairD} {f25 : Nat} {w' : World}, I30 (z21, z22, l23, f25) w' ↔ Own w D w' [row A0 l0.length c0 (List.flatMap PairD.cells l23) 58 2] ∧ l23.length = l0.length ∧ (1 ≤ z21 ∧ 1 ≤ z22 ∧ z21 ≤ p2 - p1 ∧ z22 ≤ p3 - p2) ∧ Int.toNat (z21 + z22) < f25 ∧ slices_rotateCmpFunc_api_Pair_L0 p2 ((Int.toNat ((p2 - p1) + (p3 - p2))) + 1) (p2 - p1) (p3 - p2) l0 = slices_rotateCmpFunc_api_Pair_L0 p2 f25 z21 z22 l23 := by intros; subst hI31; exact Iff.rfl
 refine Wp.loop (fun i : Int × Int × (List PairD) × Nat => [(10, .int .i64 i.1), (11, .int .i64 i.2.1), (0, .slice A0 l0.length c0), (2, .int .i64 p2), (4, .func (.func 62) #[] #[])]) I30 (fun i => i.2.2.2) (p2 - p1, p3 - p2, l0, (Int.toNat ((p2 - p1) + (p3 - p2))) + 1) ⟨rfl, rfl, rfl, rfl, rfl, trivial⟩ (dm32.2 ⟨H26, by first | omega | (simp only [List.length_set] <;> omega) | (simp only [List.length_replicate]), by omega, by omega, rfl⟩) ?_
 rintro ⟨z21, z22, l23, f25⟩ w27 hf29
 show Wp _ _ _ [(10, .int .i64 z21), (11, .int .i64 z22), (0, .slice A0 l0.length c0), (2, .int .i64 p2), (4, .func (.func 62) #[] #[])] _ _
 obtain ⟨H28, hi34, hi35, hi36, hq33⟩ := dm32.1 hf29
 obtain ⟨f37, hf38⟩ : ∃ q, f25 = q + 1 := ⟨f25 - 1, by omega⟩
 subst hf38
 refine Wp.seq (sr (Mz rfl (Mz rfl (fw (.bool (decide (¬ (z21 = z22)))) (Yl.bool (e := !(decide (z21 = z22))) yk decide_not.symm) (nt ?_)))))
 by_cases h39 : z21 = z22
 refine jF (dF (not_not_intro h39)) (Wp.exit (Fin.thenX ?_))
 have hL40 : slices_rotateCmpFunc_api_Pair_L0 p2 ((Int.toNat ((p2 - p1) + (p3 - p2))) + 1) (p2 - p1) (p3 - p2) l0 = (z21, l23) := et (hq33) (ip h39)
 refine Fin.thenX (Fin.blockX (Fin.then (Wp.region (Mz rfl (Mz rfl (Mz rfl (fw (.int .i64 (p2 - z21)) (Yl.int (e := IntKind.i64.wrap (p2 - z21)) yk (by rw [IntWalk.i64_in _ (by omega)])) (Mz rfl (Mz rfl (Mz rfl ?_))))))))))
 obtain ⟨r46, hr47⟩ : ∃ q, slices_swapRangeCmpFunc_api_Pair l23 (p2 - z21) p2 z21 = q := ⟨_, rfl⟩
 obtain ⟨D41, HP42, ro43, bk44, rr45⟩ := Own.enter1 H28
 refine cl Try.call103 (slices_swapRangeCmpFunc_api_Pair_ok _ _ A0 l0.length c0 l23 (p2 - z21) p2 z21 r46 HP42 (by first | rfl | omega | (simp only [List.length_append, List.length_cons, List.length_nil, List.length_take, List.length_drop, List.length_set, List.length_replicate, List.length_map] <;> omega)) (by omega) (by omega) hr47) ?_
 rintro _ w48 ⟨rfl, HQ49, hk51⟩
 have H50 := bk44 _ _ HQ49
 have hb52 := H50.rowC (i := 0) rfl
 replace hk51 : r46.length = l23.length := hk51
 refine WL.nil (Fin.res0 (res0 rfl) ?_)
 have H53 := H50.pk [0]
 obtain rfl : _ = r46 := hr.symm.trans (et (bnd_of hL40) (bnd_of hr47))
 exact ⟨rfl, H53, (by first | rfl | omega | (simp only [List.length_set] <;> omega))⟩
 refine jT (dT h39) (sk (bo (sr (Mz rfl (Mz rfl (Kz (.bool (decide (z21 > z22))) (nt ?_)))))))
 by_cases h54 : z21 > z22
 refine jT (dT h54) (sr (Mz rfl (Mz rfl (Mz rfl (fw (.int .i64 (p2 - z21)) (Yl.int (e := IntKind.i64.wrap (p2 - z21)) yk (by rw [IntWalk.i64_in _ (by omega)])) (Mz rfl (Mz rfl (Mz rfl ?_))))))))
 obtain ⟨r60, hr61⟩ : ∃ q, slices_swapRangeCmpFunc_api_Pair l23 (p2 - z21) p2 z22 = q := ⟨_, rfl⟩
 obtain ⟨D55, HP56, ro57, bk58, rr59⟩ := Own.enter1 H28
 refine cl Try.call103 (slices_swapRangeCmpFunc_api_Pair_ok _ _ A0 l0.length c0 l23 (p2 - z21) p2 z22 r60 HP56 (by first | rfl | omega | (simp only [List.length_append, List.length_cons, List.length_nil, List.length_take, List.length_drop, List.length_set, List.length_replicate, List.length_map] <;> omega)) (by omega) (by omega) hr61) ?_
 rintro _ w62 ⟨rfl, HQ63, hk65⟩
 have H64 := bk58 _ _ HQ63
 have hb66 := H64.rowC (i := 0) rfl
 replace hk65 : r60.length = l23.length := hk65
 refine nt (Wp.region (Mz rfl (Mz rfl (fw (.int .i64 (z21 - z22)) (Yl.int (e := IntKind.i64.wrap (z21 - z22)) yk (by rw [IntWalk.i64_in _ (by omega)])) (Az rfl (WL.nil (bN ?_)))))))
 have H67 := H64.pk [0]
 exact Fin.round (z21 - z22, z22, r60, f37) ⟨rfl, rfl, rfl, rfl, rfl, trivial⟩ (dm32.2 ⟨H67, by first | omega | (simp only [List.length_set] <;> omega) | (simp only [List.length_replicate]), by omega, by omega, Eq.trans (hq33) (Eq.trans (if_neg h39) (Eq.trans (if_pos h54) (bnd_of hr61)))⟩) (by show f37 < f37 + 1; omega)
 refine jF (dF h54) (sr (Mz rfl (Mz rfl (Mz rfl (fw (.int .i64 (p2 - z21)) (Yl.int (e := IntKind.i64.wrap (p2 - z21)) yk (by rw [IntWalk.i64_in _ (by omega)])) (Mz rfl (Mz rfl (fw (.int .i64 (p2 + z22)) (Yl.int (e := IntKind.i64.wrap (p2 + z22)) yk (by rw [IntWalk.i64_in _ (by omega)])) (Mz rfl (fw (.int .i64 ((p2 + z22) - z21)) (Yl.int (e := IntKind.i64.wrap ((p2 + z22) - z21)) yk (by rw [IntWalk.i64_in _ (by omega)])) (Mz rfl (Mz rfl ?_))))))))))))
 obtain ⟨r73, hr74⟩ : ∃ q, slices_swapRangeCmpFunc_api_Pair l23 (p2 - z21) ((p2 + z22) - z21) z21 = q := ⟨_, rfl⟩
 obtain ⟨D68, HP69, ro70, bk71, rr72⟩ := Own.enter1 H28
 refine cl Try.call103 (slices_swapRangeCmpFunc_api_Pair_ok _ _ A0 l0.length c0 l23 (p2 - z21) ((p2 + z22) - z21) z21 r73 HP69 (by first | rfl | omega | (simp only [List.length_append, List.length_cons, List.length_nil, List.length_take, List.length_drop, List.length_set, List.length_replicate, List.length_map] <;> omega)) (by omega) (by omega) hr74) ?_
 rintro _ w75 ⟨rfl, HQ76, hk78⟩
 have H77 := bk71 _ _ HQ76
 have hb79 := H77.rowC (i := 0) rfl
 replace hk78 : r73.length = l23.length := hk78
 refine nt (Wp.region (Mz rfl (Mz rfl (fw (.int .i64 (z22 - z21)) (Yl.int (e := IntKind.i64.wrap (z22 - z21)) yk (by rw [IntWalk.i64_in _ (by omega)])) (Az rfl (WL.nil (bN ?_)))))))
 have H80 := H77.pk [0]
 exact Fin.round (z21, z22 - z21, r73, f37) ⟨rfl, rfl, rfl, rfl, rfl, trivial⟩ (dm32.2 ⟨H80, by first | omega | (simp only [List.length_set] <;> omega) | (simp only [List.length_replicate]), by omega, by omega, Eq.trans (hq33) (Eq.trans (if_neg h39) (Eq.trans (if_neg h54) (bnd_of hr74)))⟩) (by show f37 < f37 + 1; omega)
end Go.Proofs.Ytcjjblkgbfaapaa
