/-
 a stable sort of pairs.
-/
import Derived.Test.YtcjjblkgbfaapaaStB
namespace Go.Proofs.Ytcjjblkgbfaapaa
open Go.RowKit
set_option linter.unusedVariables false
set_option linter.unusedSectionVars false
set_option linter.unusedSimpArgs false
def slices_stableCmpFunc_api_Pair_L0 (p1 : Int) : Nat → Nat → Nat → List PairD → Nat × (List PairD)
  | 0, k21, k22, l23 => default
  | q24 + 1, k21, k22, l23 => if ((k22 : Nat) : Int) ≤ p1 then bnd (slices_insertionSortCmpFunc_api_Pair l23 ((k21 : Nat) : Int) ((k22 : Nat) : Int)) fun yr45 => slices_stableCmpFunc_api_Pair_L0 p1 q24 k22 (k22 + 20) yr45 else (k21, l23)
def slices_stableCmpFunc_api_Pair_L2 (p1 : Int) (k66 : Nat) : Nat → Nat → Nat → List PairD → Nat × (List PairD)
  | 0, k84, k85, l86 => default
  | q87 + 1, k84, k85, l86 => if ((k85 : Nat) : Int) ≤ p1 then bnd (symT l86 ((k84 : Nat) : Int) ((k84 + k66 : Nat) : Int) ((k85 : Nat) : Int)) fun yr108 => slices_stableCmpFunc_api_Pair_L2 p1 k66 q87 k85 (k85 + (2 * k66)) yr108 else (k84, l86)
def slices_stableCmpFunc_api_Pair_L1 (p1 : Int) : Nat → Nat → List PairD → (List PairD)
  | 0, k66, l67 => default
  | q68 + 1, k66, l67 => if ((k66 : Nat) : Int) < p1 then bnd (slices_stableCmpFunc_api_Pair_L2 p1 k66 ((Int.toNat (p1 + 1 - (2 * k66))) + 1) 0 (2 * k66) l67) fun sLrLabLstL => if ((sLrLabLstL.1 + k66 : Nat) : Int) < p1 then bnd (symT sLrLabLstL.2 ((sLrLabLstL.1 : Nat) : Int) ((sLrLabLstL.1 + k66 : Nat) : Int) p1) fun yr123 => slices_stableCmpFunc_api_Pair_L1 p1 q68 (k66 * 2) yr123 else slices_stableCmpFunc_api_Pair_L1 p1 q68 (k66 * 2) sLrLabLstL.2 else l67
def slices_stableCmpFunc_api_Pair (l0 : List PairD) (p1 : Int) : (List PairD) :=
 bnd (slices_stableCmpFunc_api_Pair_L0 p1 ((Int.toNat (p1 + 1 - 20)) + 1) 0 20 l0) fun sLrL => bnd (slices_insertionSortCmpFunc_api_Pair sLrL.2 ((sLrL.1 : Nat) : Int) p1) fun yr59 => bnd (slices_stableCmpFunc_api_Pair_L1 p1 ((Int.toNat (p1 - 20)) + 1) 20 yr59) fun sLrLabL => sLrLabL
set_option maxRecDepth 100000 in
theorem slices_stableCmpFunc_api_Pair_ok (w : World) (D : Nat → Prop) (A0 : Option Addr) (n0 c0 : Nat) (l0 : List PairD) (p1 : Int) (r0 : List PairD) (H : Own w D w [row A0 n0 c0 (List.flatMap PairD.cells l0) 58 2]) (hn0 : n0 = l0.length) (hl0 : l0.length * 32 ≤ 211106232532992) (hh0 : p1 = ((l0.length : Nat) : Int)) (hr : slices_stableCmpFunc_api_Pair l0 p1 = r0) :
    Calls Try.prog 84 #[.slice A0 n0 c0, .int .i64 p1, .func (.func 62) #[] #[]] w (Ret fun v w' => v = .tuple #[] ∧ Own w D w' [row A0 n0 c0 (List.flatMap PairD.cells r0) 58 2] ∧ (r0.length = l0.length)) := by
 subst hn0
 have hc0 := H.rowC (i := 0) rfl
 refine Calls.body (args := [.slice A0 l0.length c0, .int .i64 p1, .func (.func 62) #[] #[]]) Try.func84 rfl rfl rfl ?_
 show Wp _ _ _ [(0, .slice A0 l0.length c0), (1, .int .i64 p1), (2, .func (.func 62) #[] #[])] _ _
 refine sr (Ar rfl (Mz rfl (Az rfl (An rfl (Wp.seq (bo ?_))))))
 have H26 : Own w D w [row A0 l0.length c0 (List.flatMap PairD.cells l0) 58 2] := H.pk [0]
 obtain ⟨I30, hI31⟩ : ∃ q : (Nat × Nat × (List PairD) × Nat) → World → Prop, q = fun (i : Nat × Nat × (List PairD) × Nat) w' => Own w D w' [row A0 l0.length c0 (List.flatMap PairD.cells i.2.2.1) 58 2] ∧ (i.2.2.1.length = l0.length ∧ (0 ≤ i.1 ∧ i.2.1 = i.1 + 20 ∧ i.1 ≤ p1) ∧ Int.toNat (p1 + 1 - i.2.1) < i.2.2.2 ∧ slices_stableCmpFunc_api_Pair_L0 p1 ((Int.toNat (p1 + 1 - 20)) + 1) 0 20 l0 = slices_stableCmpFunc_api_Pair_L0 p1 i.2.2.2 i.1 i.2.1 i.2.2.1) := ⟨_, rfl⟩
 have dm32 : ∀ {k21 : Nat} {k22 : Nat} {l23 : List PairD} {f25 : Nat} {w' : World}, I30 (k21, k22, l23, f25) w' ↔ Own w D w' [row A0 l0.length c0 (List.flatMap PairD.cells l23) 58 2] ∧ l23.length = l0.length ∧ (0 ≤ k21 ∧ k22 = k21 + 20 ∧ k21 ≤ p1) ∧ Int.toNat (p1 + 1 - k22) < f25 ∧ slices_stableCmpFunc_api_Pair_L0 p1 ((Int.toNat (p1 + 1 - 20)) + 1) 0 20 l0 = slices_stableCmpFunc_api_Pair_L0 p1 f25 k21 k22 l23 := by intros; subst hI31; exact Iff.rfl
 refine Wp.loop (fun i : Nat × Nat × (List PairD) × Nat => [(7, .int .i64 ((i.1 : Nat) : Int)), (8, .int .i64 ((i.2.1 : Nat) : Int)), (6, .int .i64 20), (0, .slice A0 l0.length c0), (1, .int .i64 p1), (2, .func (.func 62) #[] #[])]) I30 (fun i => i.2.2.2) (0, 20, l0, (Int.toNat (p1 + 1 - 20)) + 1) ⟨rfl, rfl, rfl, rfl, rfl, rfl, trivial⟩ (dm32.2 ⟨H26, by first | omega | (simp only [List.length_set] <;> omega) | (simp only [List.length_replicate]), by omega, by omega, rfl⟩) ?_
 rintro ⟨k21, k22, l23, f25⟩ w27 hf29
 show Wp _ _ _ [(7, .int .i64 ((k21 : Nat) : Int)), (8, .int .i64 ((k22 : Nat) : Int)), (6, .int .i64 20), (0, .slice A0 l0.length c0), (1, .int .i64 p1), (2, .func (.func 62) #[] #[])] _ _
 obtain ⟨H28, hi34, hi35, hi36, hq33⟩ := dm32.1 hf29
 obtain ⟨f37, hf38⟩ : ∃ q, f25 = q + 1 := ⟨f25 - 1, by omega⟩
 subst hf38
 refine Wp.seq (sr (Mz rfl (Mz rfl (Kz (.bool (decide (((k22 : Nat) : Int) ≤ p1))) (nt ?_)))))
 by_cases h39 : ((k22 : Nat) : Int) ≤ p1
 refine jT (dT h39) (sk (bo (sr (Mz rfl (Mz rfl (Mz rfl (Mz rfl ?_)))))))
 obtain ⟨r45, hr46⟩ : ∃ q, slices_insertionSortCmpFunc_api_Pair l23 ((k21 : Nat) : Int) ((k22 : Nat) : Int) = q := ⟨_, rfl⟩
 obtain ⟨D40, HP41, ro42, bk43, rr44⟩ := Own.enter1 H28
 refine cl Try.call94 (slices_insertionSortCmpFunc_api_Pair_ok _ _ A0 l0.length c0 l23 ((k21 : Nat) : Int) ((k22 : Nat) : Int) r45 HP41 (by first | rfl | omega | (simp only [List.length_append, List.length_cons, List.length_nil, List.length_take, List.length_drop, List.length_set, List.length_replicate, List.length_map] <;> omega)) (by omega) (by omega) hr46) ?_
 rintro _ w47 ⟨rfl, HQ48, hk50⟩
 have H49 := bk43 _ _ HQ48
 have hb51 := H49.rowC (i := 0) rfl
 replace hk50 : r45.length = l23.length := hk50
 refine ns (Mz rfl (An rfl (Wp.region (Mz rfl (Mz rfl (fw (.int .i64 ((k22 + 20 : Nat) : Int)) (Yl.int (e := IntKind.i64.wrap (((k22 : Nat) : Int) + 20)) yk (by rw [IntWalk.i64_in _ (by omega)]; omega)) (Az rfl (WL.nil (bN ?_)))))))))
 have H52 := H49.pk [0]
 exact Fin.round (k22, k22 + 20, r45, f37) ⟨rfl, rfl, rfl, rfl, rfl, rfl, trivial⟩ (dm32.2 ⟨H52, by first | omega | (simp only [List.length_set] <;> omega) | (simp only [List.length_replicate]), by omega, by omega, Eq.trans (hq33) (Eq.trans (if_pos h39) (bnd_of hr46))⟩) (by show f37 < f37 + 1; omega)
 refine jF (dF h39) (Wp.exit (Fin.thenX ?_))
 have hL53 : slices_stableCmpFunc_api_Pair_L0 p1 ((Int.toNat (p1 + 1 - 20)) + 1) 0 20 l0 = (k21, l23) := et (hq33) (iN h39)
 refine Fin.thenX (Fin.blockX (Fin.then (sr (Mz rfl (Mz rfl (Mz rfl (Mz rfl ?_)))))))
 obtain ⟨r59, hr60⟩ : ∃ q, slices_insertionSortCmpFunc_api_Pair l23 ((k21 : Nat) : Int) p1 = q := ⟨_, rfl⟩
 obtain ⟨D54, HP55, ro56, bk57, rr58⟩ := Own.enter1 H28
 refine cl Try.call94 (slices_insertionSortCmpFunc_api_Pair_ok _ _ A0 l0.length c0 l23 ((k21 : Nat) : Int) p1 r59 HP55 (by first | rfl | omega | (simp only [List.length_append, List.length_cons, List.length_nil, List.length_take, List.length_drop, List.length_set, List.length_replicate, List.length_map] <;> omega)) (by omega) (by omega) hr60) ?_
 rintro _ w61 ⟨rfl, HQ62, hk64⟩
 have H63 := bk57 _ _ HQ62
 have hb65 := H63.rowC (i := 0) rfl
 replace hk64 : r59.length = l23.length := hk64
 refine nt (bo ?_)
 have H70 := H63.pk [0]
 obtain ⟨I74, hI75⟩ : ∃ q : (Nat × (List PairD) × Nat) → World → Prop, q = fun (i : Nat × (List PairD) × Nat) w' => Own w D w' [row A0 l0.length c0 (List.flatMap PairD.cells i.2.1) 58 2] ∧ (i.2.1.length = l0.length ∧ (20 ≤ i.1 ∧ i.1 ≤ 20000000000000) ∧ Int.toNat (p1 - i.1) < i.2.2 ∧ slices_stableCmpFunc_api_Pair_L1 p1 ((Int.toNat (p1 - 20)) + 1) 20 r59 = slices_stableCmpFunc_api_Pair_L1 p1 i.2.2 i.1 i.2.1) := ⟨_, rfl⟩
 have dm76 : ∀ {k66 : Nat} {l67 : List PairD} {f69 : Nat} {w' : World}, I74 (k66, l67, f69) w' ↔ Own w D w' [row A0 l0.length c0 (List.flatMap PairD.cells l67) 58 2] ∧ l67.length = l0.length ∧ (20 ≤ k66 ∧ k66 ≤ 20000000000000) ∧ Int.toNat (p1 - k66) < f69 ∧ slices_stableCmpFunc_api_Pair_L1 p1 ((Int.toNat (p1 - 20)) + 1) 20 r59 = slices_stableCmpFunc_api_Pair_L1 p1 f69 k66 l67 := by intros; subst hI75; exact Iff.rfl
 refine Wp.loop (fun i : Nat × (List PairD) × Nat => [(6, .int .i64 ((i.1 : Nat) : Int)), (0, .slice A0 l0.length c0), (1, .int .i64 p1), (2, .func (.func 62) #[] #[])]) I74 (fun i => i.2.2) (20, r59, (Int.toNat (p1 - 20)) + 1) ⟨rfl, rfl, rfl, rfl, trivial⟩ (dm76.2 ⟨H70, by first | omega | (simp only [List.length_set] <;> omega) | (simp only [List.length_replicate]), by omega, by omega, rfl⟩) ?_
 rintro ⟨k66, l67, f69⟩ w71 hf73
 show Wp _ _ _ [(6, .int .i64 ((k66 : Nat) : Int)), (0, .slice A0 l0.length c0), (1, .int .i64 p1), (2, .func (.func 62) #[] #[])] _ _
 obtain ⟨H72, hi78, hi79, hi80, hq77⟩ := dm76.1 hf73
 obtain ⟨f81, hf82⟩ : ∃ q, f69 = q + 1 := ⟨f69 - 1, by omega⟩
 subst hf82
 refine Wp.seq (sr (Mz rfl (Mz rfl (Kz (.bool (decide (((k66 : Nat) : Int) < p1))) (nt ?_)))))
 by_cases h83 : ((k66 : Nat) : Int) < p1
 refine jT (dT h83) (sk (bo (sr (Mz rfl (fw (.int .i64 ((2 * k66 : Nat) : Int)) (Yl.int (e := IntKind.i64.wrap (2 * ((k66 : Nat) : Int))) yk (by rw [IntWalk.i64_in _ (by omega)]; omega)) (Az rfl (An rfl (Wp.seq (bo ?_)))))))))
 have H89 := H72.pk [0]
 obtain ⟨I93, hI94⟩ : ∃ q : (Nat × Nat × (List PairD) × Nat) → World → Prop, q = fun (i : Nat × Nat × (List PairD) × Nat) w' => Own w D w' [row A0 l0.length c0 (List.flatMap PairD.cells i.2.2.1) 58 2] ∧ (i.2.2.1.length = l0.length ∧ (0 ≤ i.1 ∧ i.2.1 = i.1 + 2 * ((k66 : Nat) : Int) ∧ i.1 ≤ p1) ∧ Int.toNat (p1 + 1 - i.2.1) < i.2.2.2 ∧ slices_stableCmpFunc_api_Pair_L2 p1 k66 ((Int.toNat (p1 + 1 - (2 * k66))) + 1) 0 (2 * k66) l67 = slices_stableCmpFunc_api_Pair_L2 p1 k66 i.2.2.2 i.1 i.2.1 i.2.2.1) := ⟨_, rfl⟩
 have dm95 : ∀ {k84 : Nat} {k85 : Nat} {l86 : List PairD} {f88 : Nat} {w' : World}, I93 (k84, k85, l86, f88) w' ↔ Own w D w' [row A0 l0.length c0 (List.flatMap PairD.cells l86) 58 2] ∧ l86.length = l0.length ∧ (0 ≤ k84 ∧ k85 = k84 + 2 * ((k66 : Nat) : Int) ∧ k84 ≤ p1) ∧ Int.toNat (p1 + 1 - k85) < f88 ∧ slices_stableCmpFunc_api_Pair_L2 p1 k66 ((Int.toNat (p1 + 1 - (2 * k66))) + 1) 0 (2 * k66) l67 = slices_stableCmpFunc_api_Pair_L2 p1 k66 f88 k84 k85 l86 := by intros; subst hI94; exact Iff.rfl
 refine Wp.loop (fun i : Nat × Nat × (List PairD) × Nat => [(7, .int .i64 ((i.1 : Nat) : Int)), (8, .int .i64 ((i.2.1 : Nat) : Int)), (6, .int .i64 ((k66 : Nat) : Int)), (0, .slice A0 l0.length c0), (1, .int .i64 p1), (2, .func (.func 62) #[] #[])]) I93 (fun i => i.2.2.2) (0, 2 * k66, l67, (Int.toNat (p1 + 1 - (2 * k66))) + 1) ⟨rfl, rfl, rfl, rfl, rfl, rfl, trivial⟩ (dm95.2 ⟨H89, by first | omega | (simp only [List.length_set] <;> omega) | (simp only [List.length_replicate]), by omega, by omega, rfl⟩) ?_
 rintro ⟨k84, k85, l86, f88⟩ w90 hf92
 show Wp _ _ _ [(7, .int .i64 ((k84 : Nat) : Int)), (8, .int .i64 ((k85 : Nat) : Int)), (6, .int .i64 ((k66 : Nat) : Int)), (0, .slice A0 l0.length c0), (1, .int .i64 p1), (2, .func (.func 62) #[] #[])] _ _
 obtain ⟨H91, hi97, hi98, hi99, hq96⟩ := dm95.1 hf92
 obtain ⟨f100, hf101⟩ : ∃ q, f88 = q + 1 := ⟨f88 - 1, by omega⟩
 subst hf101
 refine Wp.seq (sr (Mz rfl (Mz rfl (Kz (.bool (decide (((k85 : Nat) : Int) ≤ p1))) (nt ?_)))))
 by_cases h102 : ((k85 : Nat) : Int) ≤ p1
 refine jT (dT h102) (sk (bo (sr (Mz rfl (Mz rfl (Mz rfl (Mz rfl (fw (.int .i64 ((k84 + k66 : Nat) : Int)) (Yl.int (e := IntKind.i64.wrap (((k84 : Nat) : Int) + ((k66 : Nat) : Int))) yk (by rw [IntWalk.i64_in _ (by omega)]; omega)) (Mz rfl (Mz rfl ?_))))))))))
 obtain ⟨r108, hr109⟩ : ∃ q, symT l86 ((k84 : Nat) : Int) ((k84 + k66 : Nat) : Int) ((k85 : Nat) : Int) = q := ⟨_, rfl⟩
 obtain ⟨D103, HP104, ro105, bk106, rr107⟩ := Own.enter1 H91
 refine cl Try.call95 (symT_ok _ _ A0 l0.length c0 l86 ((k84 : Nat) : Int) ((k84 + k66 : Nat) : Int) ((k85 : Nat) : Int) r108 HP104 (by first | rfl | omega | (simp only [List.length_append, List.length_cons, List.length_nil, List.length_take, List.length_drop, List.length_set, List.length_replicate, List.length_map] <;> omega)) (by omega) (by omega) hr109) ?_
 rintro _ w110 ⟨rfl, HQ111, hk113⟩
 have H112 := bk106 _ _ HQ111
 have hb114 := H112.rowC (i := 0) rfl
 replace hk113 : r108.length = l86.length := hk113
 refine ns (Mz rfl (An rfl (Wp.region (Mz rfl (Mz rfl (fw (.int .i64 ((2 * k66 : Nat) : Int)) (Yl.int (e := IntKind.i64.wrap (2 * ((k66 : Nat) : Int))) yk (by rw [IntWalk.i64_in _ (by omega)]; omega)) (fw (.int .i64 ((k85 + (2 * k66) : Nat) : Int)) (Yl.int (e := IntKind.i64.wrap (((k85 : Nat) : Int) + ((2 * k66 : Nat) : Int))) yk (by rw [IntWalk.i64_in _ (by omega)]; omega)) (Az rfl (WL.nil (bN ?_))))))))))
 have H115 := H112.pk [0]
 exact Fin.round (k85, k85 + (2 * k66), r108, f100) ⟨rfl, rfl, rfl, rfl, rfl, rfl, trivial⟩ (dm95.2 ⟨H115, by first | omega | (simp only [List.length_set] <;> omega) | (simp only [List.length_replicate]), by omega, by omega, Eq.trans (hq96) (Eq.trans (if_pos h102) (bnd_of hr109))⟩) (by show f100 < f100 + 1; omega)
 refine jF (dF h102) (Wp.exit (Fin.thenX ?_))
 have hL116 : slices_stableCmpFunc_api_Pair_L2 p1 k66 ((Int.toNat (p1 + 1 - (2 * k66))) + 1) 0 (2 * k66) l67 = (k84, l86) := et (hq96) (iN h102)
 refine Fin.thenX (Fin.blockX (Fin.then (Wp.seq (sr (Mz rfl (Mz rfl (fw (.int .i64 ((k84 + k66 : Nat) : Int)) (Yl.int (e := IntKind.i64.wrap (((k84 : Nat) : Int) + ((k66 : Nat) : Int))) yk (by rw [IntWalk.i64_in _ (by omega)]; omega)) (Ar rfl (Mz rfl (Mz rfl (Kz (.bool (decide (((k84 + k66 : Nat) : Int) < p1))) (nt ?_))))))))))))
 by_cases h117 : ((k84 + k66 : Nat) : Int) < p1
 refine jT (dT h117) (Wp.region (Mz rfl (Mz rfl (Mz rfl (Mz rfl (Mz rfl ?_))))))
 obtain ⟨r123, hr124⟩ : ∃ q, symT l86 ((k84 : Nat) : Int) ((k84 + k66 : Nat) : Int) p1 = q := ⟨_, rfl⟩
 obtain ⟨D118, HP119, ro120, bk121, rr122⟩ := Own.enter1 H91
 refine cl Try.call95 (symT_ok _ _ A0 l0.length c0 l86 ((k84 : Nat) : Int) ((k84 + k66 : Nat) : Int) p1 r123 HP119 (by first | rfl | omega | (simp only [List.length_append, List.length_cons, List.length_nil, List.length_take, List.length_drop, List.length_set, List.length_replicate, List.length_map] <;> omega)) (by omega) (by omega) hr124) ?_
 rintro _ w125 ⟨rfl, HQ126, hk128⟩
 have H127 := bk121 _ _ HQ126
 have hb129 := H127.rowC (i := 0) rfl
 replace hk128 : r123.length = l86.length := hk128
 refine nt (Wp.region (Mz rfl (fw (.int .i64 ((k66 * 2 : Nat) : Int)) (Yl.int (e := IntKind.i64.wrap (((k66 : Nat) : Int) * 2)) yk (by rw [IntWalk.i64_in _ (by omega)]; omega)) (Az rfl (WL.nil (bN ?_))))))
 have H130 := H127.pk [0]
 exact Fin.round (k66 * 2, r123, f81) ⟨rfl, rfl, rfl, rfl, trivial⟩ (dm76.2 ⟨H130, by first | omega | (simp only [List.length_set] <;> omega) | (simp only [List.length_replicate]), by omega, by omega, Eq.trans (hq77) (Eq.trans (if_pos h83) (Eq.trans (bnd_of hL116) (Eq.trans (if_pos h117) (bnd_of hr124))))⟩) (by show f81 < f81 + 1; omega)
 refine jF (dF h117) (sk (Wp.region (Mz rfl (fw (.int .i64 ((k66 * 2 : Nat) : Int)) (Yl.int (e := IntKind.i64.wrap (((k66 : Nat) : Int) * 2)) yk (by rw [IntWalk.i64_in _ (by omega)]; omega)) (Az rfl (WL.nil (bN ?_)))))))
 have H131 := H91.pk [0]
 exact Fin.round (k66 * 2, l86, f81) ⟨rfl, rfl, rfl, rfl, trivial⟩ (dm76.2 ⟨H131, by first | omega | (simp only [List.length_set] <;> omega) | (simp only [List.length_replicate]), by omega, by omega, Eq.trans (hq77) (Eq.trans (if_pos h83) (Eq.trans (bnd_of hL116) (if_neg h117)))⟩) (by show f81 < f81 + 1; omega)
 refine jF (dF h83) (Wp.exit (Fin.thenX ?_))
 have hL132 : slices_stableCmpFunc_api_Pair_L1 p1 ((Int.toNat (p1 - 20)) + 1) 20 r59 = l67 := et (hq77) (iN h83)
 refine Fin.thenX (Fin.blockX (Fin.res0 (res0 rfl) ?_))
 have H133 := H72.pk [0]
 obtain rfl : _ = l67 := hr.symm.trans (et (bnd_of hL53) (et (bnd_of hr60) (bnd_of hL132)))
 exact ⟨rfl, H133, (by first | rfl | omega | (simp only [List.length_set] <;> omega))⟩
def slices_SortStableFunc_api_Pair_api_Pair (l0 : List PairD) : (List PairD) :=
 bnd (slices_stableCmpFunc_api_Pair l0 ((l0.length : Nat) : Int)) fun yr26 => yr26
set_option maxRecDepth 100000 in
theorem slices_SortStableFunc_api_Pair_api_Pair_ok (w : World) (D : Nat → Prop) (A0 : Option Addr) (n0 c0 : Nat) (l0 : List PairD) (r0 : List PairD) (H : Own w D w [row A0 n0 c0 (List.flatMap PairD.cells l0) 58 2]) (hn0 : n0 = l0.length) (hl0 : l0.length * 32 ≤ 211106232532992) (hr : slices_SortStableFunc_api_Pair_api_Pair l0 = r0) :
    Calls Try.prog 61 #[.slice A0 n0 c0, .func (.func 62) #[] #[]] w (Ret fun v w' => v = .tuple #[] ∧ Own w D w' [row A0 n0 c0 (List.flatMap PairD.cells r0) 58 2] ∧ (r0.length = l0.length)) := by
 subst hn0
 have hc0 := H.rowC (i := 0) rfl
 refine Calls.body (args := [.slice A0 l0.length c0, .func (.func 62) #[] #[]]) Try.func61 rfl rfl rfl ?_
 show Wp _ _ _ [(0, .slice A0 l0.length c0), (1, .func (.func 62) #[] #[])] _ _
 refine Wp.region (Mz rfl (Mz rfl (Kz (.int .i64 ((l0.length : Nat) : Int)) (Mz rfl ?_))))
 obtain ⟨r26, hr27⟩ : ∃ q, slices_stableCmpFunc_api_Pair l0 ((l0.length : Nat) : Int) = q := ⟨_, rfl⟩
 obtain ⟨D21, HP22, ro23, bk24, rr25⟩ := Own.enter1 H
 refine cl Try.call84 (slices_stableCmpFunc_api_Pair_ok _ _ A0 l0.length c0 l0 ((l0.length : Nat) : Int) r26 HP22 rfl (by omega) (by omega) hr27) ?_
 rintro _ w28 ⟨rfl, HQ29, hk31⟩
 have H30 := bk24 _ _ HQ29
 have hb32 := H30.rowC (i := 0) rfl
 replace hk31 : r26.length = l0.length := hk31
 refine WL.nil (Fin.res0 (res0 rfl) ?_)
 have H33 := H30.pk [0]
 obtain rfl : _ = r26 := hr.symm.trans (bnd_of hr27)
 exact ⟨rfl, H33, (by first | rfl | omega | (simp only [List.length_set] <;> omega))⟩
end Go.Proofs.Ytcjjblkgbfaapaa
